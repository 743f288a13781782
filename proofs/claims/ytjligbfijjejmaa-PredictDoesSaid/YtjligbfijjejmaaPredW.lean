/- predict's Undo and Do: walked. -/
import Derived.Test.YtjligbfijjejmaaPredDb
namespace Go.Proofs.Ytjligbfijjejmaa
open Go.RowKit

/-- The bytes before Do, or an error's number. -/
def undoS (p : PaV) (bs : List Nat) : Int × List Nat :=
  if p.E ≠ 0 then (p.E, []) else if 1048576 < bs.length then (2, []) else if p.pr = 1 then (0, bs)
  else if bs.length % (headM (decide (10 ≤ p.pr)) + p.n) ≠ 0 then (4, [])
  else match undoN (headM (decide (10 ≤ p.pr))) p.n p.s bs (bs.length / (headM (decide (10 ≤ p.pr)) + p.n)) with
    | none => (4, [])
    | some o => (0, o)
def tagOf (p : PaV) (tag : Int) : Nat := if decide (10 ≤ p.pr) then tag.toNat else 1
/-- The bytes behind Do, or an error's number. -/
def doS (p : PaV) (tag : Int) (bs : List Nat) : Int × List Nat :=
  if p.E ≠ 0 then (p.E, []) else if tag < 0 ∨ 5 ≤ tag then (1, []) else if 1048576 < bs.length then (2, []) else if p.pr = 1 then (0, bs)
  else if bs.length % p.n ≠ 0 then (4, [])
  else (0, doN (headM (decide (10 ≤ p.pr))) p.n p.s (tagOf p tag) bs (bs.length / p.n))
/-- Bytes and an error's number are answered. -/
def AnsIs (r : Int × List Nat) (w : World) (e : Ending) (w' : World) : Prop :=
  ∃ A c, e = .returned (.tuple #[.slice A r.2.length c, .int .i64 r.1]) ∧ Bytes w' A r.2.length c r.2 ∧ Below w.heap.size w w'
theorem nil_bytes (w : World) : Bytes w none 0 0 [] := ⟨rfl, Nat.le_refl _, by omega, fun b hb => by simp at hb, fun h => absurd h (by omega)⟩
theorem AnsIs.err {w w' : World} {E : Int} (hb : Below w.heap.size w w') : AnsIs (E, []) w (.returned (.tuple #[.slice none 0 0, .int .i64 E])) w' := ⟨none, 0, rfl, nil_bytes w', hb⟩
theorem PaV.E_zero {p : PaV} (h : p.E = 0) : p.Ok ∧ (p.pr = 1 ∨ p.pr = 2 ∨ 10 ≤ p.pr) := by
  unfold PaV.E at h
  by_cases hk : p.Ok
  · refine ⟨hk, ?_⟩
    have := hk.1
    unfold PaV.Known at this
    omega
  · rw [if_neg hk] at h
    omega
theorem png_of {p : PaV} (h : p.Ok) (h1 : p.pr ≠ 1) : (decide (10 ≤ p.pr) = true ∧ decide (10 ≤ p.pr) = true) ∨ (decide (10 ≤ p.pr) = false ∧ p.pr = 2) := by
  have := h.1
  unfold PaV.Known at this
  by_cases h2 : 10 ≤ p.pr
  · exact .inl ⟨decide_eq_true h2, decide_eq_true h2⟩
  · exact .inr ⟨decide_eq_false h2, by omega⟩
set_option maxRecDepth 100000 in
theorem undo_odd (p : PaV) (png : Bool) (A : Option Addr) (n c : Nat) (w : World) (hok : p.Ok) (hp : (png = true ∧ decide (10 ≤ p.pr) = true) ∨ (png = false ∧ p.pr = 2)) (hn : n ≤ 1048576) (hmod : ¬ n % (headM png + p.n) = 0) :
    Calls Try.prog 18 #[p.val, .slice A n c] w fun e w' => e = .returned (.tuple #[.slice none 0 0, .int .i64 4]) ∧ Below w.heap.size w w' := by
  have hnn := hok.n_is.2
  have hH1 : headM png ≤ 1 := by cases png <;> simp [headM]
  have hmz : ((n : Int) % (((headM png : Nat) : Int) + (p.n : Int)) != 0) = true := by
    have : (n : Int) % (((headM png : Nat) : Int) + (p.n : Int)) ≠ 0 := by rw [← Int.natCast_add, ← Int.natCast_emod]; omega
    simp [this]
  have OK := Lib.hid hok
  have HP := Lib.hid hp
  clear hok hp hmod
  have hst := tab_store png
  refine (callsIn_wide (n := 3)).1 ?_
  refine callsIn_of_wp_marks Try.func18 rfl trivial ?_ rfl
  simp only [Try.ntmps18, List.size_toArray, List.length_cons, List.length_nil, Nat.reduceAdd, Nat.reduceSub, Array.replicate_succ, Array.replicate_zero, List.push_toArray, List.append_toArray, List.nil_append, List.cons_append]
  gi_upto_region 2 with (refine ⟨trivial, ?_⟩; gi_at_call 26; refine (callsIn_wide.2 (layout_all p png _ OK.out HP.out)).mono ?_; rintro e w1 ⟨rfl, hb1⟩; have HB1 := Lib.hid hb1; clear hb1)
  have hb1 := HB1.out
  have g1 := hb1.size
  simp only [World.size_alloc] at g1
  have x1 : Boxed w1 (w.heap.size + 1) 24 (.slice none 0 0) := by
    have := (Boxed.new (w.alloc (.cells #[.int .i64 p.pr, .int .i64 p.co, .int .i64 p.bi, .int .i64 p.cl] 23)) 24 (.slice none 0 0)).alloc (.cells #[.int .i64 0] 26)
    simp only [World.size_alloc] at this
    exact (hb1.block _ (by simp)).trans this
  have x2 : Boxed w1 (w.heap.size + 1 + 1) 26 (.int .i64 0) := by
    have := Boxed.new ((w.alloc (.cells #[.int .i64 p.pr, .int .i64 p.co, .int .i64 p.bi, .int .i64 p.cl] 23)).alloc (.cells #[.slice none 0 0] 24)) 26 (.int .i64 0)
    simp only [World.size_alloc] at this
    exact (hb1.block _ (by simp)).trans this
  have x3 : Below w.heap.size w w1 := ((((Below.refl _ _).alloc (Nat.le_refl _) _).alloc (by simp) _).alloc (by simp; omega) _).trans (hb1.mono (by simp; omega))
  have b1 : Below w1.heap.size w1 (w1.alloc (.cells (layV p png) 46)) := (Below.refl _ _).alloc (Nat.le_refl _) _
  have y0 := Whole.made w1 46 (layV p png)
  generalize w1.alloc (.cells (layV p png) 46) = V1 at *
  have x1' : Boxed V1 (w.heap.size + 1) 24 (.slice none 0 0) := (b1.block _ x1.lt).trans x1
  have x2' : Boxed V1 (w.heap.size + 1 + 1) 26 (.int .i64 0) := (b1.block _ x2.lt).trans x2
  have c1 := x1'.cell
  have f1 := x1'.frozen
  have c2 := x2'.cell
  have f2 := x2'.frozen
  have l1 := x1'.lt
  have l2 := x2'.lt
  have rl := y0.reads
  have ll := y0.lt
  have HX := Lib.hid (And.intro (x3.trans (b1.mono x3.size)) (And.intro x1' x2'))
  clear hb1 HB1 x1 x2 x1' x2' x3 b1 y0
  gi_wp2
  have d1 := ((HX.out.2.1.set (.slice none 0 0)).other (B' := w.heap.size + 1 + 1) (by omega) (.int .i64 4)).cell
  have d2 := ((HX.out.2.2.other (B' := w.heap.size + 1) (by omega) (.slice none 0 0)).set (.int .i64 4)).cell
  have hbel : Below w.heap.size w ((V1.setCell ⟨w.heap.size + 1, 0, none⟩ (.slice none 0 0)).setCell ⟨w.heap.size + 1 + 1, 0, none⟩ (.int .i64 4)) := (HX.out.1.setCell (p := ⟨w.heap.size + 1, 0, none⟩) (by simp) _).setCell (p := ⟨w.heap.size + 1 + 1, 0, none⟩) (by simp; omega) _
  exact ⟨.tuple #[.slice none 0 0, .int .i64 4], by simp [results, Try.results18, go_sem, d1, d2], rfl, hbel⟩
set_option maxRecDepth 100000 in
theorem do_odd (p : PaV) (png : Bool) (A : Option Addr) (n c : Nat) (tag : Int) (w : World) (hok : p.Ok) (hp : (png = true ∧ decide (10 ≤ p.pr) = true) ∨ (png = false ∧ p.pr = 2)) (hn : n ≤ 1048576) (hmod : ¬ n % p.n = 0) :
    Calls Try.prog 22 #[p.val, .int .i64 tag, .slice A n c] w fun e w' => e = .returned (.tuple #[.slice none 0 0, .int .i64 4]) ∧ Below w.heap.size w w' := by
  have hnn := hok.n_is.2
  have hmz : ((n : Int) % (p.n : Int) != 0) = true := by
    have : (n : Int) % (p.n : Int) ≠ 0 := by rw [← Int.natCast_emod]; omega
    simp [this]
  have OK := Lib.hid hok
  have HP := Lib.hid hp
  clear hok hp hmod
  have hst := tab_store png
  refine (callsIn_wide (n := 3)).1 ?_
  refine callsIn_of_wp_marks Try.func22 rfl trivial ?_ rfl
  simp only [Try.ntmps22, List.size_toArray, List.length_cons, List.length_nil, Nat.reduceAdd, Nat.reduceSub, Array.replicate_succ, Array.replicate_zero, List.push_toArray, List.append_toArray, List.nil_append, List.cons_append]
  gi_upto_region 2 with (refine ⟨trivial, ?_⟩; gi_at_call 26; refine (callsIn_wide.2 (layout_all p png _ OK.out HP.out)).mono ?_; rintro e w1 ⟨rfl, hb1⟩; have HB1 := Lib.hid hb1; clear hb1)
  have hb1 := HB1.out
  have x3 : Below w.heap.size w w1 := (((Below.refl _ _).alloc (Nat.le_refl _) _).alloc (by simp) _).trans (hb1.mono (by simp; omega))
  have b1 : Below w1.heap.size w1 (w1.alloc (.cells (layV p png) 46)) := (Below.refl _ _).alloc (Nat.le_refl _) _
  have y0 := Whole.made w1 46 (layV p png)
  generalize w1.alloc (.cells (layV p png) 46) = V1 at *
  have rl := y0.reads
  have ll := y0.lt
  have HX := Lib.hid (x3.trans (b1.mono x3.size))
  clear hb1 HB1 x3 b1 y0
  gi_wp2
  exact ⟨.tuple #[.slice none 0 0, .int .i64 4], by simp [results, Try.results22, go_sem], rfl, HX.out⟩
theorem p_cells {w w1 : World} {p : PaV} (hb : Below (w.alloc (.cells #[.int .i64 p.pr, .int .i64 p.co, .int .i64 p.bi, .int .i64 p.cl] 23)).heap.size (w.alloc (.cells #[.int .i64 p.pr, .int .i64 p.co, .int .i64 p.bi, .int .i64 p.cl] 23)) w1) :
    C4 w1 w.heap.size p ∧ w.heap.size < w1.heap.size ∧ Below w.heap.size w w1 := by
  have k := (Whole.made w 23 #[.int .i64 p.pr, .int .i64 p.co, .int .i64 p.bi, .int .i64 p.cl]).here hb
  exact ⟨⟨k.reads 0, k.reads 1, k.reads 2, k.reads 3⟩, k.lt, ((Below.refl _ _).alloc (Nat.le_refl _) _).trans (hb.mono (by simp))⟩
set_option maxRecDepth 100000 in
theorem undo_any (p : PaV) (A : Option Addr) (n c : Nat) (bs : List Nat) (w : World) (h : Bytes w A n c bs) :
    Calls Try.prog 8 #[p.val, .slice A n c] w (AnsIs (undoS p bs) w) := by
  have hl := h.len
  subst hl
  have HB := Lib.hid h
  clear h
  by_cases hE : p.E = 0
  rotate_left
  · have hr : undoS p bs = (p.E, []) := if_pos hE
    have g1 : (p.E != 0) = true := by simp [hE]
    rw [hr]
    clear hE hr
    go_enter Try.func8, Try.ntmps8
    go_wp2_with fail
    refine (check_any p _).mono ?_
    rintro e w1 ⟨rfl, hb⟩
    have HX := Lib.hid (p_cells hb)
    clear hb
    go_wp2
    go_ret2
    exact AnsIs.err HX.out.2.2
  by_cases hlong : 1048576 < bs.length
  · have hr : undoS p bs = (2, []) := by unfold undoS; rw [if_neg (by simp [hE]), if_pos hlong]
    rw [hr]
    have HE := Lib.hid hE
    clear hE hr
    go_enter Try.func8, Try.ntmps8
    go_wp2_with fail
    refine (check_any p _).mono ?_
    rintro e w1 ⟨rfl, hb⟩
    rw [HE.out]
    have HX := Lib.hid (p_cells hb)
    clear hb
    go_wp2
    go_ret2
    exact AnsIs.err HX.out.2.2
  obtain ⟨hok, hkn⟩ := PaV.E_zero hE
  by_cases h1 : p.pr = 1
  · have hr : undoS p bs = (0, bs) := by unfold undoS; rw [if_neg (by simp [hE]), if_neg hlong, if_pos h1]
    rw [hr]
    have HE := Lib.hid hE
    have H1 := Lib.hid h1
    clear hE hr h1 hok hkn
    go_enter Try.func8, Try.ntmps8
    go_wp2_with fail
    refine (check_any p _).mono ?_
    rintro e w1 ⟨rfl, hb⟩
    rw [HE.out]
    have HX := Lib.hid (p_cells hb)
    have c0 := HX.out.1.1
    rw [H1.out] at c0
    have lx := HX.out.2.1
    clear hb
    go_wp2_with fail
    refine (clone_any bs bs.length c A _ (HB.out.below HX.out.2.2) (by omega)).mono ?_
    rintro e w2 ⟨A', c', R, rfl, _, _, hrow, hb2⟩
    go_wp2
    go_ret2
    exact ⟨A', c', rfl, hrow.bytes, HX.out.2.2.trans (hb2.mono HX.out.2.2.size)⟩
  have hpn := png_of hok h1
  have g1 : (p.pr == 1) = false := by simp [h1]
  obtain ⟨png, hpng⟩ : ∃ b, decide (10 ≤ p.pr) = b := ⟨_, rfl⟩
  by_cases hmod : bs.length % (headM png + p.n) = 0
  · have hr : undoS p bs = match undoN (headM png) p.n p.s bs (bs.length / (headM png + p.n)) with
        | none => (4, [])
        | some o => (0, o) := by unfold undoS; rw [if_neg (by simp [hE]), if_neg hlong, if_neg h1, hpng, if_neg (by simp [hmod])]
    cases hu : undoN (headM png) p.n p.s bs (bs.length / (headM png + p.n)) with
    | none =>
      rw [hu] at hr
      rw [show undoS p bs = (4, []) from hr]
      have HU := Lib.hid hu
      have HE := Lib.hid hE
      have HP := Lib.hid (show (png = true ∧ decide (10 ≤ p.pr) = true) ∨ (png = false ∧ p.pr = 2) by rw [hpng] at hpn; rcases hpn with ⟨a, _⟩ | ⟨a, b⟩; exact .inl ⟨a, hpng.trans a⟩; exact .inr ⟨a, b⟩)
      have HM := Lib.hid hmod
      have OK := Lib.hid hok
      clear hE hr h1 hok hkn hpn hpng hmod hu
      go_enter Try.func8, Try.ntmps8
      go_wp2_with fail
      refine (check_any p _).mono ?_
      rintro e w1 ⟨rfl, hb⟩
      rw [HE.out]
      have HX := Lib.hid (p_cells hb)
      obtain ⟨c0, c1, c2, c3⟩ := HX.out.1
      have lx := HX.out.2.1
      clear hb
      go_wp2_with fail
      refine (undo_ok p png A bs.length c bs _ (HB.out.below HX.out.2.2) OK.out HP.out (by omega) HM.out).mono ?_
      rintro e w2 ⟨hb2, h2⟩
      have hb3 := Lib.hid (HX.out.2.2.trans (hb2.mono HX.out.2.2.size))
      clear hb2
      rw [HU.out] at h2
      have h2 : e = .returned (.tuple #[.slice none 0 0, .int .i64 4]) := h2
      subst h2
      go_wp2
      go_ret2
      exact AnsIs.err hb3.out
    | some o =>
      rw [hu] at hr
      rw [show undoS p bs = (0, o) from hr]
      have HU := Lib.hid hu
      have HE := Lib.hid hE
      have HP := Lib.hid (show (png = true ∧ decide (10 ≤ p.pr) = true) ∨ (png = false ∧ p.pr = 2) by rw [hpng] at hpn; rcases hpn with ⟨a, _⟩ | ⟨a, b⟩; exact .inl ⟨a, hpng.trans a⟩; exact .inr ⟨a, b⟩)
      have HM := Lib.hid hmod
      have OK := Lib.hid hok
      clear hE hr h1 hok hkn hpn hpng hmod hu
      go_enter Try.func8, Try.ntmps8
      go_wp2_with fail
      refine (check_any p _).mono ?_
      rintro e w1 ⟨rfl, hb⟩
      rw [HE.out]
      have HX := Lib.hid (p_cells hb)
      obtain ⟨c0, c1, c2, c3⟩ := HX.out.1
      have lx := HX.out.2.1
      clear hb
      go_wp2_with fail
      refine (undo_ok p png A bs.length c bs _ (HB.out.below HX.out.2.2) OK.out HP.out (by omega) HM.out).mono ?_
      rintro e w2 ⟨hb2, h2⟩
      have hb3 := Lib.hid (HX.out.2.2.trans (hb2.mono HX.out.2.2.size))
      clear hb2
      rw [HU.out] at h2
      obtain ⟨A', c', rfl, h3⟩ := h2
      have H3 := Lib.hid h3
      clear h3
      go_wp2
      go_ret2
      exact ⟨A', c', rfl, H3.out, hb3.out⟩
  · have hr : undoS p bs = (4, []) := by unfold undoS; rw [if_neg (by simp [hE]), if_neg hlong, if_neg h1, hpng, if_pos hmod]
    rw [hr]
    have HE := Lib.hid hE
    have HP := Lib.hid (show (png = true ∧ decide (10 ≤ p.pr) = true) ∨ (png = false ∧ p.pr = 2) by rw [hpng] at hpn; rcases hpn with ⟨a, _⟩ | ⟨a, b⟩; exact .inl ⟨a, hpng.trans a⟩; exact .inr ⟨a, b⟩)
    have HM := Lib.hid hmod
    have OK := Lib.hid hok
    clear hE hr h1 hok hkn hpn hpng hmod
    go_enter Try.func8, Try.ntmps8
    go_wp2_with fail
    refine (check_any p _).mono ?_
    rintro e w1 ⟨rfl, hb⟩
    rw [HE.out]
    have HX := Lib.hid (p_cells hb)
    obtain ⟨c0, c1, c2, c3⟩ := HX.out.1
    have lx := HX.out.2.1
    clear hb
    go_wp2_with fail
    refine (undo_odd p png A bs.length c _ OK.out HP.out (by omega) HM.out).mono ?_
    rintro e w2 ⟨rfl, hb2⟩
    have hb3 := Lib.hid (HX.out.2.2.trans (hb2.mono HX.out.2.2.size))
    clear hb2
    go_wp2
    go_ret2
    exact AnsIs.err hb3.out
end Go.Proofs.Ytjligbfijjejmaa
