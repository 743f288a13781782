/- font's reference: insert. Written by gen_fonty.py. -/
import Derived.Test.YtldhkhaciflmoaaFontX
namespace Go.Proofs.Ytldhkhaciflmoaa
open Go.RowKit

def insStep (g : Gl) (s : List Gl × Bool) (x : Gl) : List Gl × Bool := if decide (g.code < x.code) && !s.2 then (s.1 ++ [g] ++ [x], true) else (s.1 ++ [x], s.2)
def insS (g : Gl) (l : List Gl) : List Gl × Bool := l.foldl (insStep g) ([], false)
def insR (g : Gl) (l : List Gl) : List Gl := if (insS g l).2 then (insS g l).1 else (insS g l).1 ++ [g]
theorem insS_take {g : Gl} {l : List Gl} {k : Nat} {x : Gl} (h : l[k]? = some x) : insS g (l.take (k + 1)) = insStep g (insS g (l.take k)) x := by
  unfold insS
  rw [List.take_add_one, h, List.foldl_append]
  rfl
theorem insF_len (g : Gl) : ∀ (l : List Gl) (s : List Gl × Bool), (l.foldl (insStep g) s).1.length ≤ s.1.length + 2 * l.length
  | [], s => by simp
  | x :: r, s => by
    have ih := insF_len g r (insStep g s x)
    have h1 : (insStep g s x).1.length ≤ s.1.length + 2 := by unfold insStep; split <;> simp
    rw [List.foldl_cons, List.length_cons]
    omega
theorem insS_len (g : Gl) (l : List Gl) : (insS g l).1.length ≤ 2 * l.length := by have := insF_len g l ([], false); simpa [insS] using this
theorem insF_mem (g : Gl) : ∀ (l : List Gl) (s : List Gl × Bool) (y : Gl), y ∈ (l.foldl (insStep g) s).1 → y ∈ s.1 ∨ y = g ∨ y ∈ l
  | [], s, y, h => .inl h
  | x :: r, s, y, h => by
    rcases insF_mem g r (insStep g s x) y (by simpa using h) with h | h | h
    · unfold insStep at h
      split at h
      · simp at h
        rcases h with h | h | h
        · exact .inl h
        · exact .inr (.inl h)
        · exact .inr (.inr (by simp [h]))
      · simp at h
        rcases h with h | h
        · exact .inl h
        · exact .inr (.inr (by simp [h]))
    · exact .inr (.inl h)
    · exact .inr (.inr (List.mem_cons_of_mem _ h))
theorem insR_mem {g : Gl} {l : List Gl} {y : Gl} (h : y ∈ insR g l) : y = g ∨ y ∈ l := by
  have key : y ∈ (insS g l).1 → y = g ∨ y ∈ l := fun h => by
    rcases insF_mem g l ([], false) y h with h | h | h
    · cases h
    · exact .inl h
    · exact .inr h
  unfold insR at h
  split at h
  · exact key h
  · rcases List.mem_append.1 h with h | h
    · exact key h
    · simp at h; exact .inl h
/-- What the loop knows of its own row. -/
structure InSt (w wx : World) (g : Gl) (L : List Gl) (v : Value) : Prop where
  box : Whole wx w.heap.size 35 #[.int .i64 g.code, .int .i64 g.width, .string g.text]
  own : wx.ownsRow (w.heap.size + 1) 35 3 v L.length (gvs L)
  below : Below w.heap.size w wx
theorem InSt.later {w wx wy : World} {g : Gl} {L : List Gl} {v : Value} (h : InSt w wx g L v) (hb : Below wx.heap.size wx wy) : InSt w wy g L v :=
  ⟨h.box.here hb, own_below3 h.own hb, h.below.trans (hb.mono h.below.size)⟩
theorem InSt.push {w wx w8 : World} {g q : Gl} {L : List Gl} {v v' : Value} {o : Obj} (h : InSt w wx g L v) (hown : w8.ownsRow (w.heap.size + 1) 35 3 v' (L.length + 1) (gvs L ++ gv q)) (hg : (wx.alloc o).grownBy w8 v.ownBlock) : InSt w w8 g (L ++ [q]) v' := by
  have hl := h.box.lt
  have hB := (Below.refl (w.heap.size + 1) (wx.alloc o)).grown hg (by simp; omega) (fun k e => ((h.own.alloc o).lt k e).1)
  refine ⟨(h.box.old o).low hB (Nat.lt_succ_self _), ?_, (h.below.alloc h.below.size o).trans (hB.mono (by omega))⟩
  rw [gvs_snoc, List.length_append]
  exact hown
theorem own_low {w : World} {base n c z : Nat} {T : TypeId} {A : Option Addr} {l : List Value} (h : w.ownsRow base T z (.slice A n c) n l) {R o : Nat} (e : A = some ⟨R, o, none⟩) : base ≤ R := by
  rcases h.2 with ⟨e1, _⟩ | ⟨g, cap, cur, e1, hg, _⟩
  · injection e1 with e1; rw [e] at e1; cases e1
  · injection e1 with e1
    rw [e] at e1
    injection e1 with e1
    injection e1 with e1
    omega
def InsIs (gs : List Gl) (g : Gl) (w : World) (e : Ending) (w' : World) : Prop :=
  Below w.heap.size w w' ∧ if (hitG gs g.code).isSome then e = .returned (.tuple #[.slice none 0 0, .bool false]) else ∃ A c, e = .returned (.tuple #[.slice A (insR g gs).length c, .bool true]) ∧ Glyphs w' A (insR g gs).length c (insR g gs) ∧ ∀ R o, A = some ⟨R, o, none⟩ → w.heap.size < R
set_option maxRecDepth 100000 in
set_option maxHeartbeats 8000000 in
theorem insert_any (A : Option Addr) (n c : Nat) (gs : List Gl) (g : Gl) (w : World) (h : Glyphs w A n c gs) (hn : n ≤ 1000000) (hgt : g.text.size ≤ 9223372036854775807) :
    Calls Try.prog 36 #[.slice A n c, .agg #[.int .i64 g.code, .int .i64 g.width, .string g.text]] w (InsIs gs g w) := by
  have hl := h.len
  subst hl
  have hcap := h.cap
  have htop := h.top
  have H := Lib.hid h
  have HGT := Lib.hid hgt
  clear h hgt
  obtain ⟨i0, hi, hz0, hz1, hz2⟩ := info_gl
  go_enter Try.func36, Try.ntmps36
  go_wp2_with fail
  go_loopw [6, 7, 8] (fun s6 s7 s8 wx => ∃ k : Nat, k ≤ gs.length ∧ s8 = .int .i64 k ∧ s7 = .bool (insS g (gs.take k)).2 ∧ Hid (InSt w wx g (insS g (gs.take k)).1 s6) ∧ Hid (∀ j q, j < k → gs[j]? = some q → q.code ≠ g.code)) (fun _ _ s8 _ => gs.length - (intOf s8).toNat)
  case atStart => exact ⟨0, by omega, rfl, rfl, Lib.hid ⟨Whole.made _ _ _, World.ownsRow_nil _ _ _ _, (Below.refl _ _).alloc (Nat.le_refl _) _⟩, Lib.hid (fun j q hj => absurd hj (by omega))⟩
  case round =>
    obtain ⟨k, hk, rfl, rfl, HI, HN⟩ := hrel
    obtain ⟨d, hd⟩ : ∃ d, (insS g (gs.take k)).2 = d := ⟨_, rfl⟩
    obtain ⟨L, hL⟩ : ∃ L, (insS g (gs.take k)).1 = L := ⟨_, rfl⟩
    have hLn : L.length ≤ 2000000 := by have := insS_len g (gs.take k); rw [hL] at this; simp at this; omega
    rw [hL] at HI
    rw [hd]
    have HD := Lib.hid (And.intro hL hd)
    have HLL := Lib.hid hLn
    clear hL hd hLn
    obtain ⟨A5, c5, rfl⟩ := own_slice HI.out.own
    have b0 : wr.cell? ⟨w.heap.size, 0, none⟩ = some (.int .i64 g.code) := HI.out.box.reads 0
    have b1 : wr.cell? ⟨w.heap.size, 1, none⟩ = some (.int .i64 g.width) := HI.out.box.reads 1
    have b2 : wr.cell? ⟨w.heap.size, 2, none⟩ = some (.string g.text) := HI.out.box.reads 2
    have lB := HI.out.box.lt
    by_cases hlt : k < gs.length
    · obtain ⟨x, hx⟩ : ∃ x, gs[k]? = some x := ⟨_, List.getElem?_eq_getElem hlt⟩
      obtain ⟨R, o, rfl, hR, hc⟩ := H.out.at_ (by omega)
      obtain ⟨y0, y1, y2⟩ := hc k x hx
      have HY := Lib.hid (And.intro y0 (And.intro y1 y2))
      have x0 := (HI.out.below.cell (p := ⟨R, o + k * 3, none⟩) hR).trans y0
      have hxt : x.text.size ≤ 9223372036854775807 := H.out.text x (List.mem_of_getElem? hx)
      clear y0 y1 y2
      have d1 : decide ((k : Int) < (gs.length : Int)) = true := by simp; omega
      have d2 : decide (k < gs.length) = true := by simp; omega
      have HX := Lib.hid (show insS g (gs.take (k + 1)) = insStep g (L, d) x by rw [insS_take hx, ← HD.out.1, ← HD.out.2])
      have HXx := Lib.hid hx
      clear hx hc
      by_cases hc0 : x.code = g.code
      · have d3 : (x.code == g.code) = true := by simp; omega
        have HH := Lib.hid (show (hitG gs g.code).isSome = true by rw [hit_first HXx.out hc0 HN.out]; rfl)
        go_wp2_with fail
        go_quiet (fail)
        go_wp2_with fail
        refine bodyPost_ret (v := .tuple #[.slice none 0 0, .bool false]) (by simp [results, Try.results36, go_sem]) rfl ?_
        exact ⟨below_drewN HI.out.below _, by rw [if_pos HH.out]⟩
      · have d3 : (x.code == g.code) = false := by simp; omega
        by_cases hg0 : g.code < x.code
        · have d4 : decide (g.code < x.code) = true := by simp; omega
          cases d with
          | false =>
            have HX2 := Lib.hid (show insS g (gs.take (k + 1)) = (L ++ [g] ++ [x], true) by rw [HX.out]; unfold insStep; rw [d4]; rfl)
            go_wp2_with fail
            go_quiet (fail)
            generalize nq = m1
            go_wp2_with fail
            go_quiet (fail)
            have HI2 := Lib.hid (HI.out.later (below_drewN (below_drewN (Below.refl wr.heap.size wr) m1) nq))
            clear b0 b1 b2 lB x0
            generalize (wr.drewN m1).drewN nq = W2 at *
            have b0 : W2.cell? ⟨w.heap.size, 0, none⟩ = some (.int .i64 g.code) := HI2.out.box.reads 0
            have b1 : W2.cell? ⟨w.heap.size, 1, none⟩ = some (.int .i64 g.width) := HI2.out.box.reads 1
            have b2 : W2.cell? ⟨w.heap.size, 2, none⟩ = some (.string g.text) := HI2.out.box.reads 2
            have lB := HI2.out.box.lt
            have z0 : W2.cell? ⟨R, o + k * 3, none⟩ = some (.int .i64 x.code) := (HI2.out.below.cell (p := ⟨R, o + k * 3, none⟩) hR).trans HY.out.1
            have z1 : W2.cell? ⟨R, o + k * 3 + 1, none⟩ = some (.int .i64 x.width) := (HI2.out.below.cell (p := ⟨R, o + k * 3 + 1, none⟩) hR).trans HY.out.2.1
            have z2 : W2.cell? ⟨R, o + k * 3 + 2, none⟩ = some (.string x.text) := (HI2.out.below.cell (p := ⟨R, o + k * 3 + 2, none⟩) hR).trans HY.out.2.2
            go_wp2_with (at_builtin; refine wpList_append_own _ rfl _ _ 22 rfl (w.heap.size + 1) 35 i0 (.agg #[.int .i64 0, .int .i64 0, .string ⟨#[]⟩]) 3 32 Try.underlying22 hi hz0 hz1 hz2 rfl (by decide) (.slice A5 L.length c5) L.length (gvs L) ?p1a ?p1b ⟨W2.heap.size, 0, none⟩ 1 1 (gv g) ?p1c rfl ?p1d ?p1e ?p1f ?p1g ?p1h ?p1i)
            case p1a => rfl
            case p1b => exact HI2.out.own.alloc _
            case p1c => rfl
            case p1d =>
              have := World.news_of_block (cs := #[.int .i64 g.code, .int .i64 g.width, .string g.text]) (t := 35) (fr := (0, 0)) (heap_alloc_new W2 (.cells #[.int .i64 g.code, .int .i64 g.width, .string g.text] 35))
              simpa [gv] using this
            case p1e => simp [gv, Value.oneCell']
            case p1f => unfold maxLen; have := HLL.out; simp at this ⊢; omega
            case p1g => have := HLL.out; simp at this ⊢; omega
            case p1h => have := HI2.out.box.lt; simp at this ⊢; omega
            case p1i =>
            intro v1 w8 hown' hgrow _
            have w8S := Lib.hid (HI2.out.push (q := g) hown' hgrow)
            obtain ⟨w8A, w8c, rfl⟩ := own_slice hown'
            have rdw8 := w8S.out.box.reads
            have lw8 := w8S.out.box.lt
            clear hown' hgrow
            clear z0 z1 z2 b0 b1 b2 lB
            have z0 : w8.cell? ⟨R, o + k * 3, none⟩ = some (.int .i64 x.code) := (w8S.out.below.cell (p := ⟨R, o + k * 3, none⟩) hR).trans HY.out.1
            have z1 : w8.cell? ⟨R, o + k * 3 + 1, none⟩ = some (.int .i64 x.width) := (w8S.out.below.cell (p := ⟨R, o + k * 3 + 1, none⟩) hR).trans HY.out.2.1
            have z2 : w8.cell? ⟨R, o + k * 3 + 2, none⟩ = some (.string x.text) := (w8S.out.below.cell (p := ⟨R, o + k * 3 + 2, none⟩) hR).trans HY.out.2.2
            go_wp2_with (at_builtin; refine wpList_append_own _ rfl _ _ 22 rfl (w.heap.size + 1) 35 i0 (.agg #[.int .i64 0, .int .i64 0, .string ⟨#[]⟩]) 3 32 Try.underlying22 hi hz0 hz1 hz2 rfl (by decide) (.slice w8A (L.length + 1) w8c) (L.length + 1) (gvs (L ++ [g])) ?p2a ?p2b ⟨w8.heap.size, 0, none⟩ 1 1 (gv x) ?p2c rfl ?p2d ?p2e ?p2f ?p2g ?p2h ?p2i)
            case p2a => rfl
            case p2b => have hh := w8S.out.own; rw [List.length_append] at hh; exact hh.alloc _
            case p2c => rfl
            case p2d =>
              have := World.news_of_block (cs := #[.int .i64 x.code, .int .i64 x.width, .string x.text]) (t := 35) (fr := (0, 0)) (heap_alloc_new w8 (.cells #[.int .i64 x.code, .int .i64 x.width, .string x.text] 35))
              simpa [gv] using this
            case p2e => simp [gv, Value.oneCell']
            case p2f => unfold maxLen; have := HLL.out; simp at this ⊢; omega
            case p2g => have := HLL.out; simp at this ⊢; omega
            case p2h => have := w8S.out.box.lt; simp at this ⊢; omega
            case p2i =>
            intro v2 w9 hown' hgrow _
            rw [show L.length + 1 + 1 = (L ++ [g]).length + 1 by simp] at hown'
            have w9S := Lib.hid (w8S.out.push (q := x) hown' hgrow)
            obtain ⟨w9A, w9c, rfl⟩ := own_slice hown'
            have rdw9 := w9S.out.box.reads
            have lw9 := w9S.out.box.lt
            clear hown' hgrow
            go_wp2_with fail
            go_roundw
            case rel => exact ⟨k + 1, by omega, by go_num, by rw [HX2.out], by rw [HX2.out]; exact w9S, Lib.hid (fun j q hj hq => by
              rcases Nat.lt_succ_iff_lt_or_eq.1 hj with h | rfl
              · exact HN.out j q h hq
              · rw [HXx.out] at hq; injection hq with e; subst e; exact hc0)⟩
            case measure => simp [intOf]; omega
          | true =>
            have HX2 := Lib.hid (show insS g (gs.take (k + 1)) = (L ++ [x], true) by rw [HX.out]; unfold insStep; rw [d4]; rfl)
            go_wp2_with fail
            go_quiet (fail)
            generalize nq = m1
            go_wp2_with fail
            go_quiet (fail)
            have HI2 := Lib.hid (HI.out.later (below_drewN (below_drewN (Below.refl wr.heap.size wr) m1) nq))
            clear b0 b1 b2 lB x0
            generalize (wr.drewN m1).drewN nq = W2 at *
            have b0 : W2.cell? ⟨w.heap.size, 0, none⟩ = some (.int .i64 g.code) := HI2.out.box.reads 0
            have b1 : W2.cell? ⟨w.heap.size, 1, none⟩ = some (.int .i64 g.width) := HI2.out.box.reads 1
            have b2 : W2.cell? ⟨w.heap.size, 2, none⟩ = some (.string g.text) := HI2.out.box.reads 2
            have lB := HI2.out.box.lt
            have z0 : W2.cell? ⟨R, o + k * 3, none⟩ = some (.int .i64 x.code) := (HI2.out.below.cell (p := ⟨R, o + k * 3, none⟩) hR).trans HY.out.1
            have z1 : W2.cell? ⟨R, o + k * 3 + 1, none⟩ = some (.int .i64 x.width) := (HI2.out.below.cell (p := ⟨R, o + k * 3 + 1, none⟩) hR).trans HY.out.2.1
            have z2 : W2.cell? ⟨R, o + k * 3 + 2, none⟩ = some (.string x.text) := (HI2.out.below.cell (p := ⟨R, o + k * 3 + 2, none⟩) hR).trans HY.out.2.2
            go_wp2_with (at_builtin; refine wpList_append_own _ rfl _ _ 22 rfl (w.heap.size + 1) 35 i0 (.agg #[.int .i64 0, .int .i64 0, .string ⟨#[]⟩]) 3 32 Try.underlying22 hi hz0 hz1 hz2 rfl (by decide) (.slice A5 L.length c5) L.length (gvs L) ?p3a ?p3b ⟨W2.heap.size, 0, none⟩ 1 1 (gv x) ?p3c rfl ?p3d ?p3e ?p3f ?p3g ?p3h ?p3i)
            case p3a => rfl
            case p3b => exact HI2.out.own.alloc _
            case p3c => rfl
            case p3d =>
              have := World.news_of_block (cs := #[.int .i64 x.code, .int .i64 x.width, .string x.text]) (t := 35) (fr := (0, 0)) (heap_alloc_new W2 (.cells #[.int .i64 x.code, .int .i64 x.width, .string x.text] 35))
              simpa [gv] using this
            case p3e => simp [gv, Value.oneCell']
            case p3f => unfold maxLen; have := HLL.out; simp at this ⊢; omega
            case p3g => have := HLL.out; simp at this ⊢; omega
            case p3h => have := HI2.out.box.lt; simp at this ⊢; omega
            case p3i =>
            intro v3 w8 hown' hgrow _
            have w8S := Lib.hid (HI2.out.push (q := x) hown' hgrow)
            obtain ⟨w8A, w8c, rfl⟩ := own_slice hown'
            have rdw8 := w8S.out.box.reads
            have lw8 := w8S.out.box.lt
            clear hown' hgrow
            go_wp2_with fail
            go_roundw
            case rel => exact ⟨k + 1, by omega, by go_num, by rw [HX2.out], by rw [HX2.out]; exact w8S, Lib.hid (fun j q hj hq => by
              rcases Nat.lt_succ_iff_lt_or_eq.1 hj with h | rfl
              · exact HN.out j q h hq
              · rw [HXx.out] at hq; injection hq with e; subst e; exact hc0)⟩
            case measure => simp [intOf]; omega
        · have d4 : decide (g.code < x.code) = false := by simp; omega
          have HX2 := Lib.hid (show insS g (gs.take (k + 1)) = (L ++ [x], d) by rw [HX.out]; unfold insStep; rw [d4]; rfl)
          go_wp2_with fail
          go_quiet (fail)
          generalize nq = m1
          go_wp2_with fail
          go_quiet (fail)
          have HI2 := Lib.hid (HI.out.later (below_drewN (below_drewN (Below.refl wr.heap.size wr) m1) nq))
          clear b0 b1 b2 lB x0
          generalize (wr.drewN m1).drewN nq = W2 at *
          have b0 : W2.cell? ⟨w.heap.size, 0, none⟩ = some (.int .i64 g.code) := HI2.out.box.reads 0
          have b1 : W2.cell? ⟨w.heap.size, 1, none⟩ = some (.int .i64 g.width) := HI2.out.box.reads 1
          have b2 : W2.cell? ⟨w.heap.size, 2, none⟩ = some (.string g.text) := HI2.out.box.reads 2
          have lB := HI2.out.box.lt
          have z0 : W2.cell? ⟨R, o + k * 3, none⟩ = some (.int .i64 x.code) := (HI2.out.below.cell (p := ⟨R, o + k * 3, none⟩) hR).trans HY.out.1
          have z1 : W2.cell? ⟨R, o + k * 3 + 1, none⟩ = some (.int .i64 x.width) := (HI2.out.below.cell (p := ⟨R, o + k * 3 + 1, none⟩) hR).trans HY.out.2.1
          have z2 : W2.cell? ⟨R, o + k * 3 + 2, none⟩ = some (.string x.text) := (HI2.out.below.cell (p := ⟨R, o + k * 3 + 2, none⟩) hR).trans HY.out.2.2
          go_wp2_with (at_builtin; refine wpList_append_own _ rfl _ _ 22 rfl (w.heap.size + 1) 35 i0 (.agg #[.int .i64 0, .int .i64 0, .string ⟨#[]⟩]) 3 32 Try.underlying22 hi hz0 hz1 hz2 rfl (by decide) (.slice A5 L.length c5) L.length (gvs L) ?p4a ?p4b ⟨W2.heap.size, 0, none⟩ 1 1 (gv x) ?p4c rfl ?p4d ?p4e ?p4f ?p4g ?p4h ?p4i)
          case p4a => rfl
          case p4b => exact HI2.out.own.alloc _
          case p4c => rfl
          case p4d =>
            have := World.news_of_block (cs := #[.int .i64 x.code, .int .i64 x.width, .string x.text]) (t := 35) (fr := (0, 0)) (heap_alloc_new W2 (.cells #[.int .i64 x.code, .int .i64 x.width, .string x.text] 35))
            simpa [gv] using this
          case p4e => simp [gv, Value.oneCell']
          case p4f => unfold maxLen; have := HLL.out; simp at this ⊢; omega
          case p4g => have := HLL.out; simp at this ⊢; omega
          case p4h => have := HI2.out.box.lt; simp at this ⊢; omega
          case p4i =>
          intro v4 w8 hown' hgrow _
          have w8S := Lib.hid (HI2.out.push (q := x) hown' hgrow)
          obtain ⟨w8A, w8c, rfl⟩ := own_slice hown'
          have rdw8 := w8S.out.box.reads
          have lw8 := w8S.out.box.lt
          clear hown' hgrow
          go_wp2_with fail
          go_roundw
          case rel => exact ⟨k + 1, by omega, by go_num, by rw [HX2.out], by rw [HX2.out]; exact w8S, Lib.hid (fun j q hj hq => by
            rcases Nat.lt_succ_iff_lt_or_eq.1 hj with h | rfl
            · exact HN.out j q h hq
            · rw [HXx.out] at hq; injection hq with e; subst e; exact hc0)⟩
          case measure => simp [intOf]; omega
    · obtain rfl : k = gs.length := by omega
      have d1 : decide ((gs.length : Int) < (gs.length : Int)) = false := by simp
      have d2 : decide (gs.length < gs.length) = false := by simp
      rw [List.take_length] at HD
      have HNo := Lib.hid (show (hitG gs g.code).isSome = false by rw [hit_never (fun j q hj hq => HN.out j q hj hq)]; rfl)
      have HTx := Lib.hid (show ∀ y ∈ insR g gs, y.text.size ≤ 9223372036854775807 from fun y hy => by rcases insR_mem hy with rfl | hy; exact HGT.out; exact H.out.text y hy)
      cases d with
      | true =>
        have HR := Lib.hid (show insR g gs = L by unfold insR; rw [HD.out.1, HD.out.2, if_pos rfl])
        go_wp2_with fail
        refine bodyPost_ret (v := .tuple #[.slice A5 L.length c5, .bool true]) (by simp [results, Try.results36, go_sem]) rfl ?_
        refine ⟨HI.out.below, ?_⟩
        rw [HNo.out]
        have hT := HTx.out
        rw [HR.out] at hT ⊢
        exact ⟨A5, c5, rfl, glyphs_own HI.out.own hT, fun R o e => own_low HI.out.own e⟩
      | false =>
        have HR := Lib.hid (show insR g gs = L ++ [g] by unfold insR; rw [HD.out.1, HD.out.2, if_neg (by simp)])
        go_wp2_with (at_builtin; refine wpList_append_own _ rfl _ _ 22 rfl (w.heap.size + 1) 35 i0 (.agg #[.int .i64 0, .int .i64 0, .string ⟨#[]⟩]) 3 32 Try.underlying22 hi hz0 hz1 hz2 rfl (by decide) (.slice A5 L.length c5) L.length (gvs L) ?p5a ?p5b ⟨wr.heap.size, 0, none⟩ 1 1 (gv g) ?p5c rfl ?p5d ?p5e ?p5f ?p5g ?p5h ?p5i)
        case p5a => rfl
        case p5b => exact HI.out.own.alloc _
        case p5c => rfl
        case p5d =>
          have := World.news_of_block (cs := #[.int .i64 g.code, .int .i64 g.width, .string g.text]) (t := 35) (fr := (0, 0)) (heap_alloc_new wr (.cells #[.int .i64 g.code, .int .i64 g.width, .string g.text] 35))
          simpa [gv] using this
        case p5e => simp [gv, Value.oneCell']
        case p5f => unfold maxLen; have := HLL.out; simp at this ⊢; omega
        case p5g => have := HLL.out; simp at this ⊢; omega
        case p5h => have := HI.out.box.lt; simp at this ⊢; omega
        case p5i =>
        intro v5 w8 hown' hgrow _
        have w8S := Lib.hid (HI.out.push (q := g) hown' hgrow)
        obtain ⟨w8A, w8c, rfl⟩ := own_slice hown'
        have rdw8 := w8S.out.box.reads
        have lw8 := w8S.out.box.lt
        clear hown' hgrow
        go_wp2_with fail
        refine bodyPost_ret (v := .tuple #[.slice w8A (L.length + 1) w8c, .bool true]) (by simp [results, Try.results36, go_sem]) rfl ?_
        refine ⟨w8S.out.below, ?_⟩
        rw [HNo.out]
        have hT := HTx.out
        rw [HR.out] at hT ⊢
        have hO := w8S.out.own
        rw [List.length_append] at hO ⊢
        exact ⟨w8A, w8c, rfl, glyphs_own hO hT, fun R o e => own_low hO e⟩
end Go.Proofs.Ytldhkhaciflmoaa
