/- font's reference: insert. Written by gen_fonty.py. -/
import Derived.Test.YtdlmhienolmncaaGreatFontX
import Derived.Test.YtdlmhienolmncaaGreatFontU
import Derived.Test.YtdlmhienolmncaaGreatCutFn
namespace Go.Proofs.YtdlmhienolmncaaGreat
open Go.RowKit

def insStep (g : Gl) (s : List Gl × Bool) (x : Gl) : List Gl × Bool := if decide (g.code < x.code) && !s.2 then (s.1 ++ [g] ++ [x], true) else (s.1 ++ [x], s.2)
def insS (g : Gl) (l : List Gl) : List Gl × Bool := l.foldl (insStep g) ([], false)
def insR (g : Gl) (l : List Gl) : List Gl := if (insS g l).2 then (insS g l).1 else (insS g l).1 ++ [g]
theorem insS_take {g : Gl} {l : List Gl} {k : Nat} {x : Gl} (h : l[k]? = some x) : insS g (l.take (k + 1)) = insStep g (insS g (l.take k)) x := by
  unfold insS
  rw [List.take_add_one, h, List.foldl_append]
  rfl
theorem insF_len (g : Gl) : ∀ (l : List Gl) (s : List Gl × Bool), (l.foldl (insStep g) s).1.length ≤ s.1.length + 2 * l.length
  | [], s => by simp
  | x :: r, s => by
    have ih := insF_len g r (insStep g s x)
    have h1 : (insStep g s x).1.length ≤ s.1.length + 2 := by unfold insStep; split <;> simp
    rw [List.foldl_cons, List.length_cons]
    omega
theorem insS_len (g : Gl) (l : List Gl) : (insS g l).1.length ≤ 2 * l.length := by have := insF_len g l ([], false); simpa [insS] using this
theorem insF_mem (g : Gl) : ∀ (l : List Gl) (s : List Gl × Bool) (y : Gl), y ∈ (l.foldl (insStep g) s).1 → y ∈ s.1 ∨ y = g ∨ y ∈ l
  | [], s, y, h => .inl h
  | x :: r, s, y, h => by
    rcases insF_mem g r (insStep g s x) y (by simpa using h) with h | h | h
    · unfold insStep at h
      split at h
      · simp at h
        rcases h with h | h | h
        · exact .inl h
        · exact .inr (.inl h)
        · exact .inr (.inr (by simp [h]))
      · simp at h
        rcases h with h | h
        · exact .inl h
        · exact .inr (.inr (by simp [h]))
    · exact .inr (.inl h)
    · exact .inr (.inr (List.mem_cons_of_mem _ h))
theorem insR_mem {g : Gl} {l : List Gl} {y : Gl} (h : y ∈ insR g l) : y = g ∨ y ∈ l := by
  have key : y ∈ (insS g l).1 → y = g ∨ y ∈ l := fun h => by
    rcases insF_mem g l ([], false) y h with h | h | h
    · cases h
    · exact .inl h
    · exact .inr h
  unfold insR at h
  split at h
  · exact key h
  · rcases List.mem_append.1 h with h | h
    · exact key h
    · simp at h; exact .inl h
/-- What the loop knows of its own row. -/
structure InSt (w wx : World) (g : Gl) (L : List Gl) (v : Value) : Prop where
  box : Whole wx w.heap.size 73 #[.int .i64 g.code, .int .i64 g.width, .string g.text]
  own : wx.ownsRow (w.heap.size + 1) 73 3 v L.length (gvs L)
  below : Below w.heap.size w wx
theorem InSt.later {w wx wy : World} {g : Gl} {L : List Gl} {v : Value} (h : InSt w wx g L v) (hb : Below wx.heap.size wx wy) : InSt w wy g L v :=
  ⟨h.box.here hb, own_below3 h.own hb, h.below.trans (hb.mono h.below.size)⟩
theorem InSt.push {w wx w8 : World} {g q : Gl} {L : List Gl} {v v' : Value} {o : Obj} (h : InSt w wx g L v) (hown : w8.ownsRow (w.heap.size + 1) 73 3 v' (L.length + 1) (gvs L ++ gv q)) (hg : (wx.alloc o).grownBy w8 v.ownBlock) : InSt w w8 g (L ++ [q]) v' := by
  have hl := h.box.lt
  have hB := (Below.refl (w.heap.size + 1) (wx.alloc o)).grown hg (by simp; omega) (fun k e => ((h.own.alloc o).lt k e).1)
  refine ⟨(h.box.old o).low hB (Nat.lt_succ_self _), ?_, (h.below.alloc h.below.size o).trans (hB.mono (by omega))⟩
  rw [gvs_snoc, List.length_append]
  exact hown
theorem own_low {w : World} {base n c z : Nat} {T : TypeId} {A : Option Addr} {l : List Value} (h : w.ownsRow base T z (.slice A n c) n l) {R o : Nat} (e : A = some ⟨R, o, none⟩) : base ≤ R := by
  rcases h.2 with ⟨e1, _⟩ | ⟨g, cap, cur, e1, hg, _⟩
  · injection e1 with e1; rw [e] at e1; cases e1
  · injection e1 with e1
    rw [e] at e1
    injection e1 with e1
    injection e1 with e1
    omega
def InsIs (gs : List Gl) (g : Gl) (w : World) (e : Ending) (w' : World) : Prop :=
  Below w.heap.size w w' ∧ if (hitG gs g.code).isSome then e = .returned (.tuple #[.slice none 0 0, .bool false]) else ∃ A c, e = .returned (.tuple #[.slice A (insR g gs).length c, .bool true]) ∧ Glyphs w' A (insR g gs).length c (insR g gs) ∧ ∀ R o, A = some ⟨R, o, none⟩ → w.heap.size < R
set_option maxRecDepth 100000 in
set_option maxHeartbeats 8000000 in
theorem insert_any (A : Option Addr) (n c : Nat) (gs : List Gl) (g : Gl) (w : World) (h : Glyphs w A n c gs) (hn : n ≤ 1000000) (hgt : g.text.size ≤ 9223372036854775807) :
    Calls Tryz.prog 66 #[.slice A n c, .agg #[.int .i64 g.code, .int .i64 g.width, .string g.text]] w (InsIs gs g w) := by
  have hl := h.len
  subst hl
  have hcap := h.cap
  have htop := h.top
  have H := Lib.hid h
  have HGT := Lib.hid hgt
  clear h hgt
  obtain ⟨i0, hi, hz0, hz1, hz2⟩ := info_gl
  go_enter Tryz.func66, Tryz.ntmps66
  go_wp2_with fail
  go_loopw [6, 7, 8] (fun s6 s7 s8 wx => ∃ k : Nat, k ≤ gs.length ∧ s8 = .int .i64 k ∧ s7 = .bool (insS g (gs.take k)).2 ∧ Hid (InSt w wx g (insS g (gs.take k)).1 s6) ∧ Hid (∀ j q, j < k → gs[j]? = some q → q.code ≠ g.code)) (fun _ _ s8 _ => gs.length - (intOf s8).toNat)
  case atStart => exact ⟨0, by omega, rfl, rfl, Lib.hid ⟨Whole.made _ _ _, World.ownsRow_nil _ _ _ _, (Below.refl _ _).alloc (Nat.le_refl _) _⟩, Lib.hid (fun j q hj => absurd hj (by omega))⟩
  case round =>
    obtain ⟨k, hk, rfl, rfl, HI, HN⟩ := hrel
    obtain ⟨d, hd⟩ : ∃ d, (insS g (gs.take k)).2 = d := ⟨_, rfl⟩
    obtain ⟨L, hL⟩ : ∃ L, (insS g (gs.take k)).1 = L := ⟨_, rfl⟩
    have hLn : L.length ≤ 2000000 := by have := insS_len g (gs.take k); rw [hL] at this; simp at this; omega
    rw [hL] at HI
    rw [hd]
    have HD := Lib.hid (And.intro hL hd)
    have HLL := Lib.hid hLn
    clear hL hd hLn
    obtain ⟨A5, c5, rfl⟩ := own_slice HI.out.own
    have b0 : wr.cell? ⟨w.heap.size, 0, none⟩ = some (.int .i64 g.code) := HI.out.box.reads 0
    have b1 : wr.cell? ⟨w.heap.size, 1, none⟩ = some (.int .i64 g.width) := HI.out.box.reads 1
    have b2 : wr.cell? ⟨w.heap.size, 2, none⟩ = some (.string g.text) := HI.out.box.reads 2
    have lB := HI.out.box.lt
    by_cases hlt : k < gs.length
    · obtain ⟨x, hx⟩ : ∃ x, gs[k]? = some x := ⟨_, List.getElem?_eq_getElem hlt⟩
      obtain ⟨R, o, rfl, hR, hc⟩ := H.out.at_ (by omega)
      obtain ⟨y0, y1, y2⟩ := hc k x hx
      have HY := Lib.hid (And.intro y0 (And.intro y1 y2))
      have x0 := (HI.out.below.cell (p := ⟨R, o + k * 3, none⟩) hR).trans y0
      have hxt : x.text.size ≤ 9223372036854775807 := H.out.text x (List.mem_of_getElem? hx)
      clear y0 y1 y2
      have d1 : decide ((k : Int) < (gs.length : Int)) = true := by simp; omega
      have d2 : decide (k < gs.length) = true := by simp; omega
      have HX := Lib.hid (show insS g (gs.take (k + 1)) = insStep g (L, d) x by rw [insS_take hx, ← HD.out.1, ← HD.out.2])
      have HXx := Lib.hid hx
      clear hx hc
      by_cases hc0 : x.code = g.code
      · have d3 : (x.code == g.code) = true := by simp; omega
        have HH := Lib.hid (show (hitG gs g.code).isSome = true by rw [hit_first HXx.out hc0 HN.out]; rfl)
        go_wp2_with fail
        go_quiet (fail)
        go_wp2_with fail
        refine bodyPost_ret (v := .tuple #[.slice none 0 0, .bool false]) (by simp [results, Tryz.results66, go_sem]) rfl ?_
        exact ⟨below_drewN HI.out.below _, by rw [if_pos HH.out]⟩
      · have d3 : (x.code == g.code) = false := by simp; omega
        by_cases hg0 : g.code < x.code
        · have d4 : decide (g.code < x.code) = true := by simp; omega
          cases d with
          | false =>
            have HX2 := Lib.hid (show insS g (gs.take (k + 1)) = (L ++ [g] ++ [x], true) by rw [HX.out]; unfold insStep; rw [d4]; rfl)
            go_wp2_with fail
            go_quiet (fail)
            generalize nq = m1
            go_wp2_with fail
            go_quiet (fail)
            have HI2 := Lib.hid (HI.out.later (below_drewN (below_drewN (Below.refl wr.heap.size wr) m1) nq))
            clear b0 b1 b2 lB x0
            generalize (wr.drewN m1).drewN nq = W2 at *
            have b0 : W2.cell? ⟨w.heap.size, 0, none⟩ = some (.int .i64 g.code) := HI2.out.box.reads 0
            have b1 : W2.cell? ⟨w.heap.size, 1, none⟩ = some (.int .i64 g.width) := HI2.out.box.reads 1
            have b2 : W2.cell? ⟨w.heap.size, 2, none⟩ = some (.string g.text) := HI2.out.box.reads 2
            have lB := HI2.out.box.lt
            have z0 : W2.cell? ⟨R, o + k * 3, none⟩ = some (.int .i64 x.code) := (HI2.out.below.cell (p := ⟨R, o + k * 3, none⟩) hR).trans HY.out.1
            have z1 : W2.cell? ⟨R, o + k * 3 + 1, none⟩ = some (.int .i64 x.width) := (HI2.out.below.cell (p := ⟨R, o + k * 3 + 1, none⟩) hR).trans HY.out.2.1
            have z2 : W2.cell? ⟨R, o + k * 3 + 2, none⟩ = some (.string x.text) := (HI2.out.below.cell (p := ⟨R, o + k * 3 + 2, none⟩) hR).trans HY.out.2.2
            go_wp2_with (at_builtin; refine wpList_append_own _ rfl _ _ 62 rfl (w.heap.size + 1) 73 i0 (.agg #[.int .i64 0, .int .i64 0, .string ⟨#[]⟩]) 3 32 Tryz.underlying62 hi hz0 hz1 hz2 rfl (by decide) (.slice A5 L.length c5) L.length (gvs L) ?p1a ?p1b ⟨W2.heap.size, 0, none⟩ 1 1 (gv g) ?p1c rfl ?p1d ?p1e ?p1f ?p1g ?p1h ?p1i)
            case p1a => rfl
            case p1b => exact HI2.out.own.alloc _
            case p1c => rfl
            case p1d =>
              have := World.news_of_block (cs := #[.int .i64 g.code, .int .i64 g.width, .string g.text]) (t := 73) (fr := (0, 0)) (heap_alloc_new W2 (.cells #[.int .i64 g.code, .int .i64 g.width, .string g.text] 73))
              simpa [gv] using this
            case p1e => simp [gv, Value.oneCell']
            case p1f => unfold maxLen; have := HLL.out; simp at this ⊢; omega
            case p1g => have := HLL.out; simp at this ⊢; omega
            case p1h => have := HI2.out.box.lt; simp at this ⊢; omega
            case p1i =>
            intro v1 w8 hown' hgrow _
            have w8S := Lib.hid (HI2.out.push (q := g) hown' hgrow)
            obtain ⟨w8A, w8c, rfl⟩ := own_slice hown'
            have rdw8 := w8S.out.box.reads
            have lw8 := w8S.out.box.lt
            clear hown' hgrow
            clear z0 z1 z2 b0 b1 b2 lB
            have z0 : w8.cell? ⟨R, o + k * 3, none⟩ = some (.int .i64 x.code) := (w8S.out.below.cell (p := ⟨R, o + k * 3, none⟩) hR).trans HY.out.1
            have z1 : w8.cell? ⟨R, o + k * 3 + 1, none⟩ = some (.int .i64 x.width) := (w8S.out.below.cell (p := ⟨R, o + k * 3 + 1, none⟩) hR).trans HY.out.2.1
            have z2 : w8.cell? ⟨R, o + k * 3 + 2, none⟩ = some (.string x.text) := (w8S.out.below.cell (p := ⟨R, o + k * 3 + 2, none⟩) hR).trans HY.out.2.2
            go_wp2_with (at_builtin; refine wpList_append_own _ rfl _ _ 62 rfl (w.heap.size + 1) 73 i0 (.agg #[.int .i64 0, .int .i64 0, .string ⟨#[]⟩]) 3 32 Tryz.underlying62 hi hz0 hz1 hz2 rfl (by decide) (.slice w8A (L.length + 1) w8c) (L.length + 1) (gvs (L ++ [g])) ?p2a ?p2b ⟨w8.heap.size, 0, none⟩ 1 1 (gv x) ?p2c rfl ?p2d ?p2e ?p2f ?p2g ?p2h ?p2i)
            case p2a => rfl
            case p2b => have hh := w8S.out.own; rw [List.length_append] at hh; exact hh.alloc _
            case p2c => rfl
            case p2d =>
              have := World.news_of_block (cs := #[.int .i64 x.code, .int .i64 x.width, .string x.text]) (t := 73) (fr := (0, 0)) (heap_alloc_new w8 (.cells #[.int .i64 x.code, .int .i64 x.width, .string x.text] 73))
              simpa [gv] using this
            case p2e => simp [gv, Value.oneCell']
            case p2f => unfold maxLen; have := HLL.out; simp at this ⊢; omega
            case p2g => have := HLL.out; simp at this ⊢; omega
            case p2h => have := w8S.out.box.lt; simp at this ⊢; omega
            case p2i =>
            intro v2 w9 hown' hgrow _
            rw [show L.length + 1 + 1 = (L ++ [g]).length + 1 by simp] at hown'
            have w9S := Lib.hid (w8S.out.push (q := x) hown' hgrow)
            obtain ⟨w9A, w9c, rfl⟩ := own_slice hown'
            have rdw9 := w9S.out.box.reads
            have lw9 := w9S.out.box.lt
            clear hown' hgrow
            go_wp2_with fail
            go_roundw
            case rel => exact ⟨k + 1, by omega, by go_num, by rw [HX2.out], by rw [HX2.out]; exact w9S, Lib.hid (fun j q hj hq => by
              rcases Nat.lt_succ_iff_lt_or_eq.1 hj with h | rfl
              · exact HN.out j q h hq
              · rw [HXx.out] at hq; injection hq with e; subst e; exact hc0)⟩
            case measure => simp [intOf]; omega
          | true =>
            have HX2 := Lib.hid (show insS g (gs.take (k + 1)) = (L ++ [x], true) by rw [HX.out]; unfold insStep; rw [d4]; rfl)
            go_wp2_with fail
            go_quiet (fail)
            generalize nq = m1
            go_wp2_with fail
            go_quiet (fail)
            have HI2 := Lib.hid (HI.out.later (below_drewN (below_drewN (Below.refl wr.heap.size wr) m1) nq))
            clear b0 b1 b2 lB x0
            generalize (wr.drewN m1).drewN nq = W2 at *
            have b0 : W2.cell? ⟨w.heap.size, 0, none⟩ = some (.int .i64 g.code) := HI2.out.box.reads 0
            have b1 : W2.cell? ⟨w.heap.size, 1, none⟩ = some (.int .i64 g.width) := HI2.out.box.reads 1
            have b2 : W2.cell? ⟨w.heap.size, 2, none⟩ = some (.string g.text) := HI2.out.box.reads 2
            have lB := HI2.out.box.lt
            have z0 : W2.cell? ⟨R, o + k * 3, none⟩ = some (.int .i64 x.code) := (HI2.out.below.cell (p := ⟨R, o + k * 3, none⟩) hR).trans HY.out.1
            have z1 : W2.cell? ⟨R, o + k * 3 + 1, none⟩ = some (.int .i64 x.width) := (HI2.out.below.cell (p := ⟨R, o + k * 3 + 1, none⟩) hR).trans HY.out.2.1
            have z2 : W2.cell? ⟨R, o + k * 3 + 2, none⟩ = some (.string x.text) := (HI2.out.below.cell (p := ⟨R, o + k * 3 + 2, none⟩) hR).trans HY.out.2.2
            go_wp2_with (at_builtin; refine wpList_append_own _ rfl _ _ 62 rfl (w.heap.size + 1) 73 i0 (.agg #[.int .i64 0, .int .i64 0, .string ⟨#[]⟩]) 3 32 Tryz.underlying62 hi hz0 hz1 hz2 rfl (by decide) (.slice A5 L.length c5) L.length (gvs L) ?p3a ?p3b ⟨W2.heap.size, 0, none⟩ 1 1 (gv x) ?p3c rfl ?p3d ?p3e ?p3f ?p3g ?p3h ?p3i)
            case p3a => rfl
            case p3b => exact HI2.out.own.alloc _
            case p3c => rfl
            case p3d =>
              have := World.news_of_block (cs := #[.int .i64 x.code, .int .i64 x.width, .string x.text]) (t := 73) (fr := (0, 0)) (heap_alloc_new W2 (.cells #[.int .i64 x.code, .int .i64 x.width, .string x.text] 73))
              simpa [gv] using this
            case p3e => simp [gv, Value.oneCell']
            case p3f => unfold maxLen; have := HLL.out; simp at this ⊢; omega
            case p3g => have := HLL.out; simp at this ⊢; omega
            case p3h => have := HI2.out.box.lt; simp at this ⊢; omega
            case p3i =>
            intro v3 w8 hown' hgrow _
            have w8S := Lib.hid (HI2.out.push (q := x) hown' hgrow)
            obtain ⟨w8A, w8c, rfl⟩ := own_slice hown'
            have rdw8 := w8S.out.box.reads
            have lw8 := w8S.out.box.lt
            clear hown' hgrow
            go_wp2_with fail
            go_roundw
            case rel => exact ⟨k + 1, by omega, by go_num, by rw [HX2.out], by rw [HX2.out]; exact w8S, Lib.hid (fun j q hj hq => by
              rcases Nat.lt_succ_iff_lt_or_eq.1 hj with h | rfl
              · exact HN.out j q h hq
              · rw [HXx.out] at hq; injection hq with e; subst e; exact hc0)⟩
            case measure => simp [intOf]; omega
        · have d4 : decide (g.code < x.code) = false := by simp; omega
          have HX2 := Lib.hid (show insS g (gs.take (k + 1)) = (L ++ [x], d) by rw [HX.out]; unfold insStep; rw [d4]; rfl)
          go_wp2_with fail
          go_quiet (fail)
          generalize nq = m1
          go_wp2_with fail
          go_quiet (fail)
          have HI2 := Lib.hid (HI.out.later (below_drewN (below_drewN (Below.refl wr.heap.size wr) m1) nq))
          clear b0 b1 b2 lB x0
          generalize (wr.drewN m1).drewN nq = W2 at *
          have b0 : W2.cell? ⟨w.heap.size, 0, none⟩ = some (.int .i64 g.code) := HI2.out.box.reads 0
          have b1 : W2.cell? ⟨w.heap.size, 1, none⟩ = some (.int .i64 g.width) := HI2.out.box.reads 1
          have b2 : W2.cell? ⟨w.heap.size, 2, none⟩ = some (.string g.text) := HI2.out.box.reads 2
          have lB := HI2.out.box.lt
          have z0 : W2.cell? ⟨R, o + k * 3, none⟩ = some (.int .i64 x.code) := (HI2.out.below.cell (p := ⟨R, o + k * 3, none⟩) hR).trans HY.out.1
          have z1 : W2.cell? ⟨R, o + k * 3 + 1, none⟩ = some (.int .i64 x.width) := (HI2.out.below.cell (p := ⟨R, o + k * 3 + 1, none⟩) hR).trans HY.out.2.1
          have z2 : W2.cell? ⟨R, o + k * 3 + 2, none⟩ = some (.string x.text) := (HI2.out.below.cell (p := ⟨R, o + k * 3 + 2, none⟩) hR).trans HY.out.2.2
          go_wp2_with (at_builtin; refine wpList_append_own _ rfl _ _ 62 rfl (w.heap.size + 1) 73 i0 (.agg #[.int .i64 0, .int .i64 0, .string ⟨#[]⟩]) 3 32 Tryz.underlying62 hi hz0 hz1 hz2 rfl (by decide) (.slice A5 L.length c5) L.length (gvs L) ?p4a ?p4b ⟨W2.heap.size, 0, none⟩ 1 1 (gv x) ?p4c rfl ?p4d ?p4e ?p4f ?p4g ?p4h ?p4i)
          case p4a => rfl
          case p4b => exact HI2.out.own.alloc _
          case p4c => rfl
          case p4d =>
            have := World.news_of_block (cs := #[.int .i64 x.code, .int .i64 x.width, .string x.text]) (t := 73) (fr := (0, 0)) (heap_alloc_new W2 (.cells #[.int .i64 x.code, .int .i64 x.width, .string x.text] 73))
            simpa [gv] using this
          case p4e => simp [gv, Value.oneCell']
          case p4f => unfold maxLen; have := HLL.out; simp at this ⊢; omega
          case p4g => have := HLL.out; simp at this ⊢; omega
          case p4h => have := HI2.out.box.lt; simp at this ⊢; omega
          case p4i =>
          intro v4 w8 hown' hgrow _
          have w8S := Lib.hid (HI2.out.push (q := x) hown' hgrow)
          obtain ⟨w8A, w8c, rfl⟩ := own_slice hown'
          have rdw8 := w8S.out.box.reads
          have lw8 := w8S.out.box.lt
          clear hown' hgrow
          go_wp2_with fail
          go_roundw
          case rel => exact ⟨k + 1, by omega, by go_num, by rw [HX2.out], by rw [HX2.out]; exact w8S, Lib.hid (fun j q hj hq => by
            rcases Nat.lt_succ_iff_lt_or_eq.1 hj with h | rfl
            · exact HN.out j q h hq
            · rw [HXx.out] at hq; injection hq with e; subst e; exact hc0)⟩
          case measure => simp [intOf]; omega
    · obtain rfl : k = gs.length := by omega
      have d1 : decide ((gs.length : Int) < (gs.length : Int)) = false := by simp
      have d2 : decide (gs.length < gs.length) = false := by simp
      rw [List.take_length] at HD
      have HNo := Lib.hid (show (hitG gs g.code).isSome = false by rw [hit_never (fun j q hj hq => HN.out j q hj hq)]; rfl)
      have HTx := Lib.hid (show ∀ y ∈ insR g gs, y.text.size ≤ 9223372036854775807 from fun y hy => by rcases insR_mem hy with rfl | hy; exact HGT.out; exact H.out.text y hy)
      cases d with
      | true =>
        have HR := Lib.hid (show insR g gs = L by unfold insR; rw [HD.out.1, HD.out.2, if_pos rfl])
        go_wp2_with fail
        refine bodyPost_ret (v := .tuple #[.slice A5 L.length c5, .bool true]) (by simp [results, Tryz.results66, go_sem]) rfl ?_
        refine ⟨HI.out.below, ?_⟩
        rw [HNo.out]
        have hT := HTx.out
        rw [HR.out] at hT ⊢
        exact ⟨A5, c5, rfl, glyphs_own HI.out.own hT, fun R o e => own_low HI.out.own e⟩
      | false =>
        have HR := Lib.hid (show insR g gs = L ++ [g] by unfold insR; rw [HD.out.1, HD.out.2, if_neg (by simp)])
        go_wp2_with (at_builtin; refine wpList_append_own _ rfl _ _ 62 rfl (w.heap.size + 1) 73 i0 (.agg #[.int .i64 0, .int .i64 0, .string ⟨#[]⟩]) 3 32 Tryz.underlying62 hi hz0 hz1 hz2 rfl (by decide) (.slice A5 L.length c5) L.length (gvs L) ?p5a ?p5b ⟨wr.heap.size, 0, none⟩ 1 1 (gv g) ?p5c rfl ?p5d ?p5e ?p5f ?p5g ?p5h ?p5i)
        case p5a => rfl
        case p5b => exact HI.out.own.alloc _
        case p5c => rfl
        case p5d =>
          have := World.news_of_block (cs := #[.int .i64 g.code, .int .i64 g.width, .string g.text]) (t := 73) (fr := (0, 0)) (heap_alloc_new wr (.cells #[.int .i64 g.code, .int .i64 g.width, .string g.text] 73))
          simpa [gv] using this
        case p5e => simp [gv, Value.oneCell']
        case p5f => unfold maxLen; have := HLL.out; simp at this ⊢; omega
        case p5g => have := HLL.out; simp at this ⊢; omega
        case p5h => have := HI.out.box.lt; simp at this ⊢; omega
        case p5i =>
        intro v5 w8 hown' hgrow _
        have w8S := Lib.hid (HI.out.push (q := g) hown' hgrow)
        obtain ⟨w8A, w8c, rfl⟩ := own_slice hown'
        have rdw8 := w8S.out.box.reads
        have lw8 := w8S.out.box.lt
        clear hown' hgrow
        go_wp2_with fail
        refine bodyPost_ret (v := .tuple #[.slice w8A (L.length + 1) w8c, .bool true]) (by simp [results, Tryz.results66, go_sem]) rfl ?_
        refine ⟨w8S.out.below, ?_⟩
        rw [HNo.out]
        have hT := HTx.out
        rw [HR.out] at hT ⊢
        have hO := w8S.out.own
        rw [List.length_append] at hO ⊢
        exact ⟨w8A, w8c, rfl, glyphs_own hO hT, fun R o e => own_low hO e⟩
end Go.Proofs.YtdlmhienolmncaaGreat
/- font: insertion on lists, and what a code adds to a cut font. Pure. -/
namespace Go.Proofs.YtdlmhienolmncaaGreat
open Go.RowKit

def ins (g : Gl) : List Gl → List Gl
  | [] => [g]
  | x :: r => if g.code < x.code then g :: x :: r else x :: ins g r
def finS (g : Gl) (s : List Gl × Bool) : List Gl := if s.2 then s.1 else s.1 ++ [g]
theorem insF_t (g : Gl) : ∀ (l acc : List Gl), l.foldl (insStep g) (acc, true) = (acc ++ l, true)
  | [], acc => by simp
  | x :: r, acc => by
    rw [List.foldl_cons, show insStep g (acc, true) x = (acc ++ [x], true) by unfold insStep; rw [if_neg (by simp)], insF_t g r]
    simp
theorem insF_f (g : Gl) : ∀ (l acc : List Gl), finS g (l.foldl (insStep g) (acc, false)) = acc ++ ins g l
  | [], acc => rfl
  | x :: r, acc => by
    rw [List.foldl_cons, ins]
    by_cases h : g.code < x.code
    · rw [show insStep g (acc, false) x = (acc ++ [g] ++ [x], true) by unfold insStep; rw [if_pos (by simp [h])], insF_t, if_pos h]
      simp [finS]
    · rw [show insStep g (acc, false) x = (acc ++ [x], false) by unfold insStep; rw [if_neg (by simp; omega)], insF_f g r, if_neg h]
      simp
theorem insR_ins (g : Gl) (l : List Gl) : insR g l = ins g l := by
  have := insF_f g l []
  rw [List.nil_append] at this
  exact this
theorem ins_mem {g y : Gl} : ∀ {l : List Gl}, y ∈ ins g l ↔ y = g ∨ y ∈ l
  | [] => by simp [ins]
  | x :: r => by
    rw [ins]
    split
    · simp
    · rw [List.mem_cons, ins_mem, List.mem_cons]
      constructor
      · rintro (h | h | h)
        · exact .inr (.inl h)
        · exact .inl h
        · exact .inr (.inr h)
      · rintro (h | h | h)
        · exact .inr (.inl h)
        · exact .inl h
        · exact .inr (.inr h)
theorem ins_pw {g : Gl} : ∀ {l : List Gl}, l.Pairwise (fun a b => a.code < b.code) → (∀ x ∈ l, x.code ≠ g.code) → (ins g l).Pairwise (fun a b => a.code < b.code)
  | [], _, _ => by simp [ins]
  | x :: r, h, hn => by
    obtain ⟨h1, h2⟩ := List.pairwise_cons.1 h
    have hx := hn x (List.mem_cons_self ..)
    rw [ins]
    split
    next hlt =>
      refine List.pairwise_cons.2 ⟨fun y hy => ?_, h⟩
      rcases List.mem_cons.1 hy with rfl | hy
      · exact hlt
      · have := h1 y hy; omega
    next hlt =>
      refine List.pairwise_cons.2 ⟨fun y hy => ?_, ins_pw h2 (fun y hy => hn y (List.mem_cons_of_mem _ hy))⟩
      rcases ins_mem.1 hy with rfl | hy
      · omega
      · exact h1 y hy
theorem gl_eq : ∀ (l k : List Gl), l.Pairwise (fun a b => a.code < b.code) → k.Pairwise (fun a b => a.code < b.code) → (∀ x, x ∈ l ↔ x ∈ k) → l = k
  | [], [], _, _, _ => rfl
  | [], y :: k, _, _, h => by have := (h y).2 (List.mem_cons_self ..); cases this
  | x :: l, [], _, _, h => by have := (h x).1 (List.mem_cons_self ..); cases this
  | x :: l, y :: k, hl, hk, h => by
    obtain ⟨a1, a2⟩ := List.pairwise_cons.1 hl
    obtain ⟨b1, b2⟩ := List.pairwise_cons.1 hk
    have e : x = y := by
      rcases List.mem_cons.1 ((h x).1 (List.mem_cons_self ..)) with e | h1
      · exact e
      · rcases List.mem_cons.1 ((h y).2 (List.mem_cons_self ..)) with e | h2
        · exact e.symm
        · have := a1 y h2; have := b1 x h1; omega
    subst e
    congr 1
    refine gl_eq l k a2 b2 fun z => ⟨fun hz => ?_, fun hz => ?_⟩
    · rcases List.mem_cons.1 ((h z).1 (List.mem_cons_of_mem _ hz)) with rfl | h1
      · have := a1 z hz; omega
      · exact h1
    · rcases List.mem_cons.1 ((h z).2 (List.mem_cons_of_mem _ hz)) with rfl | h1
      · have := b1 z hz; omega
      · exact h1
theorem cut_pw {wd : Bool} {ot : Int} {gs : List Gl} {keep : List Int} : (cutG wd ot gs keep).Pairwise (fun a b => a.code < b.code) := by
  unfold cutG
  refine List.Pairwise.filterMap _ (fun a a' haa b hb b' hb' => ?_) (sdl_rise keep)
  have e1 := pick_code hb
  have e2 := pick_code hb'
  omega
theorem cut_add_none {wd : Bool} {ot : Int} {gs : List Gl} {keep : List Int} {x : Int} (h : pick wd ot gs x = none) : cutG wd ot gs (keep ++ [x]) = cutG wd ot gs keep := by
  refine gl_eq _ _ cut_pw cut_pw fun y => ?_
  rw [cut_mem, cut_mem]
  constructor
  · rintro ⟨z, hz, e⟩
    rcases List.mem_append.1 hz with hz | hz
    · exact ⟨z, hz, e⟩
    · simp at hz
      subst hz
      rw [h] at e
      cases e
  · rintro ⟨z, hz, e⟩
    exact ⟨z, List.mem_append_left _ hz, e⟩
theorem cut_add_in {wd : Bool} {ot : Int} {gs : List Gl} {keep : List Int} {x : Int} (h : x ∈ keep) : cutG wd ot gs (keep ++ [x]) = cutG wd ot gs keep :=
  cut_members fun y => by
    rw [List.mem_append]
    constructor
    · rintro (h1 | h1)
      · exact h1
      · simp at h1; subst h1; exact h
    · exact .inl
theorem cut_add_new {wd : Bool} {ot : Int} {gs : List Gl} {keep : List Int} {x : Int} {g : Gl} (h : pick wd ot gs x = some g) (hx : ¬ x ∈ keep) : cutG wd ot gs (keep ++ [x]) = insR g (cutG wd ot gs keep) := by
  rw [insR_ins]
  have hgc := pick_code h
  refine gl_eq _ _ cut_pw (ins_pw cut_pw fun y hy e => ?_) fun y => ?_
  · obtain ⟨z, hz, e2⟩ := cut_mem.1 hy
    have := pick_code e2
    obtain rfl : z = x := by omega
    exact hx hz
  · rw [ins_mem, cut_mem, cut_mem]
    constructor
    · rintro ⟨z, hz, e⟩
      rcases List.mem_append.1 hz with hz | hz
      · exact .inr ⟨z, hz, e⟩
      · simp at hz
        subst hz
        rw [h] at e
        injection e with e
        exact .inl e.symm
    · rintro (rfl | ⟨z, hz, e⟩)
      · exact ⟨x, by simp, h⟩
      · exact ⟨z, List.mem_append_left _ hz, e⟩
/-- A code that the font may not have adds nothing. -/
theorem pick_bad {wd : Bool} {ot : Int} {gs : List Gl} {x : Int} (h : chkB wd ot gs = true) (hx : codeB wd x = false) : pick wd ot gs x = none := by
  have hn : hitG gs x = none := by
    cases hh : hitG gs x with
    | none => rfl
    | some g =>
      obtain ⟨e, hm⟩ := hit_code hh
      have := ((chk_parts h).2 g hm).1
      rw [e, hx] at this
      cases this
  unfold pick
  rw [hn, hx]
  simp
theorem find_code (gs : List Gl) (ot x : Int) : (findG ot gs x).code = x := by
  unfold findG
  cases hh : hitG gs x with
  | none => rfl
  | some g => exact (hit_code hh).1
/-- One code's step, as the reference takes it. -/
theorem cut_ref_step {wd : Bool} {ot : Int} {gs : List Gl} {keep : List Int} {x : Int} (hx : codeB wd x = true) :
    cutG wd ot gs (keep ++ [x]) = if ((decide (0 < ot) || (hitG gs x).isSome) && !(hitG (cutG wd ot gs keep) x).isSome) = true then insR (findG ot gs x) (cutG wd ot gs keep) else cutG wd ot gs keep := by
  have hp : pick wd ot gs x = if (decide (0 < ot) || (hitG gs x).isSome) = true then some (findG ot gs x) else none := by
    unfold pick
    rw [hx, Bool.and_true, Bool.or_comm]
  cases hc : (decide (0 < ot) || (hitG gs x).isSome) with
  | false =>
    rw [hc, if_neg (by simp)] at hp
    rw [if_neg (by simp), cut_add_none hp]
  | true =>
    rw [hc, if_pos rfl] at hp
    by_cases hk : x ∈ keep
    · rw [hit_cut_in hk, hp, if_neg (by simp), cut_add_in hk]
    · rw [hit_cut_out hk, if_pos (by simp), cut_add_new hp hk]
end Go.Proofs.YtdlmhienolmncaaGreat
/- font's reference: Cut; what its loop knows. -/
namespace Go.Proofs.YtdlmhienolmncaaGreat
open Go.RowKit

theorem Glyphs.moved {w w' : World} {A : Option Addr} {n c : Nat} {l : List Gl} (h : Glyphs w A n c l) (hs : w.heap.size ≤ w'.heap.size) (hc : ∀ R o, A = some ⟨R, o, none⟩ → w'.heap[R]? = w.heap[R]?) : Glyphs w' A n c l :=
  ⟨h.len, h.cap, h.top, h.text, fun hn => by
    obtain ⟨R, o, e, hR, hcell⟩ := h.at_ hn
    have key : ∀ j, w'.cell? ⟨R, j, none⟩ = w.cell? ⟨R, j, none⟩ := fun j => by
      unfold World.cell?
      rw [hc R o e]
    refine ⟨R, o, e, by omega, fun i x hx => ?_⟩
    obtain ⟨a, b, d⟩ := hcell i x hx
    exact ⟨(key _).trans a, (key _).trans b, (key _).trans d⟩⟩
structure RcSt (w wx : World) (P : Nat) (wd : Bool) (A : Option Addr) (n c : Nat) (ot : Int) (L : List Gl) : Prop where
  f : FB wx w.heap.size wd A n c ot
  r : Whole wx (w.heap.size + 1) 64 #[.bool false, .slice none 0 0, .int .i64 0]
  o : ∃ A' c', Whole wx P 64 #[.bool wd, .slice A' L.length c', .int .i64 0] ∧ Glyphs wx A' L.length c' L ∧ ∀ R o, A' = some ⟨R, o, none⟩ → P < R
  below : Below w.heap.size w wx
  lo : w.heap.size + 1 < P
theorem RcSt.later {w wx wy : World} {P : Nat} {wd : Bool} {A : Option Addr} {n c : Nat} {ot : Int} {L : List Gl} (h : RcSt w wx P wd A n c ot L) (hb : Below wx.heap.size wx wy) : RcSt w wy P wd A n c ot L :=
  ⟨Whole.here h.f hb, h.r.here hb, by
    obtain ⟨A', c', h1, h2, h3⟩ := h.o
    exact ⟨A', c', h1.here hb, h2.below hb, h3⟩, h.below.trans (hb.mono h.below.size), h.lo⟩
theorem RcSt.put {w wx wy : World} {P : Nat} {wd : Bool} {A : Option Addr} {n c : Nat} {ot : Int} {L L2 : List Gl} {A2 : Option Addr} {c2 : Nat} (h : RcSt w wx P wd A n c ot L) (hb : Below wx.heap.size wx wy) (hg : Glyphs wy A2 L2.length c2 L2) (hl : ∀ R o, A2 = some ⟨R, o, none⟩ → wx.heap.size < R) :
    RcSt w (wy.setCell ⟨P, 1, none⟩ (.slice A2 L2.length c2)) P wd A n c ot L2 := by
  obtain ⟨A', c', h1, h2, h3⟩ := h.o
  have hP := h1.lt
  have lo := h.lo
  refine ⟨(Whole.here h.f hb).away (p := ⟨P, 1, none⟩) (by show w.heap.size ≠ P; omega) _, (h.r.here hb).away (p := ⟨P, 1, none⟩) (by show w.heap.size + 1 ≠ P; omega) _, ⟨A2, c2, (h1.here hb).set 1 _, ?_, fun R o e => by have := hl R o e; omega⟩, ?_, lo⟩
  · refine hg.moved (by simp) (fun R o e => Below.heap_setCell wy ⟨P, 1, none⟩ _ R ?_)
    have := hl R o e
    show R ≠ P
    omega
  · exact (h.below.trans (hb.mono h.below.size)).setCell (by show w.heap.size ≤ P; omega) _
set_option maxRecDepth 100000 in
set_option maxHeartbeats 4000000 in
theorem rcut_bad (wd : Bool) (A : Option Addr) (n c : Nat) (ot : Int) (gs : List Gl) (kv : Value) (w : World) (h : Glyphs w A n c gs) (hn : n ≤ 1000000) (hk : chkB wd ot gs = false) :
    Calls Tryz.prog 34 #[.agg #[.bool wd, .slice A n c, .int .i64 ot], kv] w fun e w' => e = .returned (.tuple #[.agg #[.bool false, .slice none 0 0, .int .i64 0], .int .i64 1]) ∧ Below w.heap.size w w' := by
  have hF := (Whole.made w 64 #[.bool wd, .slice A n c, .int .i64 ot]).old (.cells #[.bool false, .slice none 0 0, .int .i64 0] 64)
  have hR := Whole.made (w.alloc (.cells #[.bool wd, .slice A n c, .int .i64 ot] 64)) 64 #[.bool false, .slice none 0 0, .int .i64 0]
  simp only [World.size_alloc] at hR
  have hB : Below w.heap.size w ((w.alloc (.cells #[.bool wd, .slice A n c, .int .i64 ot] 64)).alloc (.cells #[.bool false, .slice none 0 0, .int .i64 0] 64)) := by (repeat (first | with_reducible exact Below.refl _ _ | with_reducible refine Below.drew ?_ | with_reducible refine bdrewN ?_ _ | (with_reducible refine Below.setCell ?_ ?_ _; rotate_left; focus (first | exact Nat.le_refl _ | omega | (simp; omega) | (simp; done))) | (with_reducible refine Below.alloc ?_ ?_ _; rotate_left; focus (first | exact Nat.le_refl _ | omega | (simp; omega) | (simp; done))) | (with_reducible refine Below.trans ?_ (Below.mono (by assumption) ?_); rotate_left; focus (first | exact Nat.le_refl _ | omega | (simp; omega) | (simp; done)))))
  have H := Lib.hid (And.intro h (And.intro hR hB))
  have HK := Lib.hid hk
  clear h hk hF hR hB
  go_enter Tryz.func34, Tryz.ntmps34
  go_wp2_with fail
  refine (rright_any wd A n c ot gs _ (H.out.1.below H.out.2.2) hn).mono ?_
  rw [HK.out]
  rintro e w1 ⟨rfl, hb⟩
  have hR := H.out.2.1.here hb
  have hB := H.out.2.2.trans (hb.mono H.out.2.2.size)
  have rd := hR.reads
  have ft := hR.thawed
  have lR := hR.lt
  clear hb
  go_wp2_with fail
  refine bodyPost_ret (v := .tuple #[.agg #[.bool false, .slice none 0 0, .int .i64 0], .int .i64 1]) (by simp [results, Tryz.results34, go_sem, rd]) rfl ⟨rfl, ?_⟩
  (repeat (first | with_reducible refine Below.drew ?_ | with_reducible refine bdrewN ?_ _ | (with_reducible refine Below.setCell ?_ ?_ _; rotate_left; focus (first | exact Nat.le_refl _ | omega | (simp; omega) | (simp; done))) | (with_reducible refine Below.alloc ?_ ?_ _; rotate_left; focus (first | exact Nat.le_refl _ | omega | (simp; omega) | (simp; done))))); with_reducible exact hB
end Go.Proofs.YtdlmhienolmncaaGreat
/- font's reference: Cut of a right font. Written by gen_fontcb.py. -/
namespace Go.Proofs.YtdlmhienolmncaaGreat
open Go.RowKit

theorem IntsAt.at_k {w : World} {R o n c k : Nat} {l : List Int} {x : Int} (h : IntsAt w (some ⟨R, o, none⟩) n c l) (hx : l[k]? = some x) : w.cell? ⟨R, o + k, none⟩ = some (.int .i64 x) := by
  have hk := (List.getElem?_eq_some_iff.1 hx).1
  obtain ⟨R', o', e, _, hc⟩ := h.at_ (by have := h.len; omega)
  injection e with e
  injection e with e1 e2
  subst e1 e2
  exact hc k x hx
theorem gl_cells {w : World} {Q : Nat} {g : Gl} (h : Whole w Q 73 #[.int .i64 g.code, .int .i64 g.width, .string g.text]) :
    w.cell? ⟨Q, 0, none⟩ = some (.int .i64 g.code) ∧ w.cell? ⟨Q, 1, none⟩ = some (.int .i64 g.width) ∧ w.cell? ⟨Q, 2, none⟩ = some (.string g.text) := ⟨by rw [Whole.reads h]; rfl, by rw [Whole.reads h]; rfl, by rw [Whole.reads h]; rfl⟩
theorem hit_take {gs : List Gl} {i : Nat} {q : Gl} {x : Int} (h : gs[i]? = some q) : (hitG (gs.take (i + 1)) x).isSome = ((hitG (gs.take i) x).isSome || (q.code == x)) := by
  unfold hitG
  rw [List.take_add_one, h, List.find?_append]
  cases hf : (gs.take i).find? (fun g => g.code == x) with
  | some g => rfl
  | none => cases hq : (q.code == x) <;> simp [hq]
theorem Glyphs.set {w : World} {A : Option Addr} {n c P : Nat} {l : List Gl} (h : Glyphs w A n c l) (hl : ∀ R o, A = some ⟨R, o, none⟩ → P < R) (a : Addr) (ha : a.block < P) (v : Value) : Glyphs (w.setCell a v) A n c l :=
  h.moved (by simp) (fun R o e => Below.heap_setCell w a v R (by have := hl R o e; omega))
set_option maxRecDepth 100000 in
set_option maxHeartbeats 8000000 in
theorem rcut_ok (wd : Bool) (A : Option Addr) (n c : Nat) (ot : Int) (gs : List Gl) (A2 : Option Addr) (n2 c2 : Nat) (keep : List Int) (w : World) (h : Glyphs w A n c gs) (hk : chkB wd ot gs = true) (h2 : IntsAt w A2 n2 c2 keep) (hn : n ≤ 1000000) (hn2 : n2 ≤ 1000000) :
    Calls Tryz.prog 34 #[.agg #[.bool wd, .slice A n c, .int .i64 ot], .slice A2 n2 c2] w (CutOk wd (cutG wd ot gs keep) w) := by
  have hF := (Whole.made w 64 #[.bool wd, .slice A n c, .int .i64 ot]).old (.cells #[.bool false, .slice none 0 0, .int .i64 0] 64)
  have hR := Whole.made (w.alloc (.cells #[.bool wd, .slice A n c, .int .i64 ot] 64)) 64 #[.bool false, .slice none 0 0, .int .i64 0]
  simp only [World.size_alloc] at hR
  have hB : Below w.heap.size w ((w.alloc (.cells #[.bool wd, .slice A n c, .int .i64 ot] 64)).alloc (.cells #[.bool false, .slice none 0 0, .int .i64 0] 64)) := by (repeat (first | with_reducible exact Below.refl _ _ | with_reducible refine Below.drew ?_ | with_reducible refine bdrewN ?_ _ | (with_reducible refine Below.setCell ?_ ?_ _; rotate_left; focus (first | exact Nat.le_refl _ | omega | (simp; omega) | (simp; done))) | (with_reducible refine Below.alloc ?_ ?_ _; rotate_left; focus (first | exact Nat.le_refl _ | omega | (simp; omega) | (simp; done))) | (with_reducible refine Below.trans ?_ (Below.mono (by assumption) ?_); rotate_left; focus (first | exact Nat.le_refl _ | omega | (simp; omega) | (simp; done)))))
  have H0 := Lib.hid (And.intro hF (And.intro hR hB))
  have hl := h.len
  have hl2 := h2.len
  subst hl hl2
  have hcap := h.cap
  have htop := h.top
  have hcap2 := h2.cap
  have htop2 := h2.top
  have HK := Lib.hid hk
  have HG := Lib.hid h
  have HI := Lib.hid h2
  clear h h2 hk hF hR hB
  go_enter Tryz.func34, Tryz.ntmps34
  go_wp2_with fail
  refine (rright_any wd A gs.length c ot gs _ (HG.out.below H0.out.2.2) hn).mono ?_
  rw [HK.out]
  rintro e w1 ⟨rfl, hb⟩
  have H1 := Lib.hid (And.intro (H0.out.1.here hb) (And.intro (H0.out.2.1.here hb) (H0.out.2.2.trans (hb.mono H0.out.2.2.size))))
  have cf := (H0.out.1.here hb).reads
  have lF := (H0.out.1.here hb).lt
  clear hb H0
  go_wp2_with fail
  have hst : RcSt w (w1.alloc (.cells #[.bool wd, .slice none 0 0, .int .i64 0] 64)) w1.heap.size wd A gs.length c ot (cutG wd ot gs (keep.take 0)) := by
    rw [List.take_zero, cutG_none]
    exact ⟨H1.out.1.old _, H1.out.2.1.old _, ⟨none, 0, Whole.made _ _ _, glyphs_nil _, fun R o e => by cases e⟩, H1.out.2.2.alloc H1.out.2.2.size _, H1.out.2.1.lt⟩
  have HS0 := Lib.hid hst
  clear hst H1 cf lF
  obtain ⟨P, hP⟩ : ∃ P, w1.heap.size = P := ⟨_, rfl⟩
  rw [hP] at HS0
  try rw [hP]
  clear hP
  go_loopw [7] (fun s7 wx => ∃ k : Nat, k ≤ keep.length ∧ s7 = .int .i64 k ∧ Hid (RcSt w wx P wd A gs.length c ot (cutG wd ot gs (keep.take k)))) (fun s7 _ => keep.length - (intOf s7).toNat)
  case atStart => exact ⟨0, by omega, rfl, HS0⟩
  case round =>
    clear HS0
    obtain ⟨k, hk, rfl, hS0⟩ := hrel
    by_cases hlt : k < keep.length
    · obtain ⟨x, hx⟩ : ∃ x, keep[k]? = some x := ⟨_, List.getElem?_eq_getElem hlt⟩
      obtain ⟨R, o, rfl, hR0, -⟩ := HI.out.at_ (by omega)
      have d1 : decide ((k : Int) < (keep.length : Int)) = true := by simp; omega
      have d2 : decide (k < keep.length) = true := by simp; omega
      have HX := Lib.hid hx
      have HT := Lib.hid (show keep.take (k + 1) = keep.take k ++ [x] by rw [List.take_add_one, hx]; rfl)
      have hx0 := hx
      clear hx
      go_wp2_with fail
      have HC : Hid (∀ v, Below wr.heap.size wr v → (fun v => (v.cell? ⟨w.heap.size, 0, none⟩ = some (.bool wd) ∧ v.cell? ⟨w.heap.size, 1, none⟩ = some (.slice A gs.length c) ∧ v.cell? ⟨w.heap.size, 2, none⟩ = some (.int .i64 ot)) ∧ v.cell? ⟨R, o + k, none⟩ = some (.int .i64 x) ∧ Below wr.heap.size wr v) v) := Lib.hid (fun v hb => ⟨(hS0.out.later hb).f.cells, ((HI.out.below (hS0.out.later hb).below).at_k hx0), hb⟩)
      have hS := HC.out wr.drew ((Below.refl wr.heap.size wr).drew)
      clear hx0
      cases hcb : codeB wd x
      · have HCB := Lib.hid hcb
        clear hcb
        refine wp_region_C (fun v => (v.cell? ⟨w.heap.size, 0, none⟩ = some (.bool wd) ∧ v.cell? ⟨w.heap.size, 1, none⟩ = some (.slice A gs.length c) ∧ v.cell? ⟨w.heap.size, 2, none⟩ = some (.int .i64 ot)) ∧ v.cell? ⟨R, o + k, none⟩ = some (.int .i64 x) ∧ Below wr.heap.size wr v) (by kernel_rfl) ?_
        refine wpAnyC_take (i := 0) (v := ?v1) rfl (by kernel_rfl) (fun _ _ _ h => h) (Or.inl ⟨by rfl, ?y1⟩) hS ?r1
        case y1 => rintro wq ⟨⟨c0, c1, c2⟩, ck, -⟩; go_simp; try with_reducible rfl
        try simp only [Act.put, List.setIfInBounds_toArray, List.set_cons_zero, List.set_cons_succ]
        refine wpAnyC_take (i := 1) (v := ?v2) rfl (by kernel_rfl) (fun _ _ _ h => h) (Or.inl ⟨by rfl, ?y2⟩) hS ?r2
        case y2 => intro wq _; go_simp; all_goals (first | with_reducible rfl | (simp only []; done) | (simp []; done) | (simp; omega) | skip)
        try simp only [Act.put, List.setIfInBounds_toArray, List.set_cons_zero, List.set_cons_succ]
        refine wpAnyC_take (i := 2) (v := ?v3) rfl (by kernel_rfl) (fun _ _ _ h => h) (Or.inl ⟨by rfl, ?y3⟩) hS ?r3
        case y3 => intro wq _; go_simp; all_goals (first | with_reducible rfl | (simp only []; done) | (simp []; done) | (simp; omega) | skip)
        try simp only [Act.put, List.setIfInBounds_toArray, List.set_cons_zero, List.set_cons_succ]
        refine wpAnyC_take (i := 3) (v := .pointer (some ⟨R, o + k, none⟩)) rfl (by kernel_rfl) (fun _ _ _ h => h) (Or.inl ⟨by rfl, ?y4⟩) hS ?r4
        case y4 => intro wq _; go_simp; all_goals (first | with_reducible rfl | (simp only []; done) | (simp []; done) | (simp; omega) | skip)
        try simp only [Act.put, List.setIfInBounds_toArray, List.set_cons_zero, List.set_cons_succ]
        refine wpAnyC_take (i := 4) (v := ?v5) rfl (by kernel_rfl) (fun _ _ _ h => h) (Or.inl ⟨by rfl, ?y5⟩) hS ?r5
        case y5 => rintro wq ⟨⟨c0, c1, c2⟩, ck, -⟩; go_simp; try with_reducible rfl
        try simp only [Act.put, List.setIfInBounds_toArray, List.set_cons_zero, List.set_cons_succ]
        refine wpAnyC_one (j := 5) (by kernel_rfl) rfl (fun K hK => ?_)
        go_simp
        go_at_call 64
        refine (rcode_any wd A gs.length c ot x _).mono ?_
        rw [HCB.out]
        rintro e V ⟨rfl, kk⟩
        have hbv : Below wr.heap.size wr V := ((Below.refl wr.heap.size wr).drew).trans kk
        have hS := HC.out V hbv
        clear kk
        go_wp2_with fail
        refine hK.out _ _ ⟨hS, ?_⟩
        clear hK K
        try simp only [Act.put, List.setIfInBounds_toArray, List.set_cons_zero, List.set_cons_succ]
        refine wpAnyC_take (i := 6) (v := .bool true) rfl (by kernel_rfl) (fun _ _ _ h => h) (Or.inl ⟨by rfl, ?y6⟩) hS ?r6
        case y6 => intro wq _; go_simp; all_goals (first | with_reducible rfl | (simp only []; done) | (simp []; done) | (simp; omega) | skip)
        try simp only [Act.put, List.setIfInBounds_toArray, List.set_cons_zero, List.set_cons_succ]
        refine wpAnyC_done (by kernel_rfl) ?_ _
        go_wp2_with fail
        go_roundw
        case rel => exact ⟨k + 1, by omega, by go_num, Lib.hid (by rw [HT.out, cut_add_none (pick_bad HK.out HCB.out)]; exact hS0.out.later hS.2.2)⟩
        case measure => simp [intOf]; omega
      · have HCB := Lib.hid hcb
        clear hcb
        refine wp_region_C (fun v => (v.cell? ⟨w.heap.size, 0, none⟩ = some (.bool wd) ∧ v.cell? ⟨w.heap.size, 1, none⟩ = some (.slice A gs.length c) ∧ v.cell? ⟨w.heap.size, 2, none⟩ = some (.int .i64 ot)) ∧ v.cell? ⟨R, o + k, none⟩ = some (.int .i64 x) ∧ Below wr.heap.size wr v) (by kernel_rfl) ?_
        refine wpAnyC_take (i := 0) (v := ?v7) rfl (by kernel_rfl) (fun _ _ _ h => h) (Or.inl ⟨by rfl, ?y7⟩) hS ?r7
        case y7 => rintro wq ⟨⟨c0, c1, c2⟩, ck, -⟩; go_simp; try with_reducible rfl
        try simp only [Act.put, List.setIfInBounds_toArray, List.set_cons_zero, List.set_cons_succ]
        refine wpAnyC_take (i := 1) (v := ?v8) rfl (by kernel_rfl) (fun _ _ _ h => h) (Or.inl ⟨by rfl, ?y8⟩) hS ?r8
        case y8 => intro wq _; go_simp; all_goals (first | with_reducible rfl | (simp only []; done) | (simp []; done) | (simp; omega) | skip)
        try simp only [Act.put, List.setIfInBounds_toArray, List.set_cons_zero, List.set_cons_succ]
        refine wpAnyC_take (i := 2) (v := ?v9) rfl (by kernel_rfl) (fun _ _ _ h => h) (Or.inl ⟨by rfl, ?y9⟩) hS ?r9
        case y9 => intro wq _; go_simp; all_goals (first | with_reducible rfl | (simp only []; done) | (simp []; done) | (simp; omega) | skip)
        try simp only [Act.put, List.setIfInBounds_toArray, List.set_cons_zero, List.set_cons_succ]
        refine wpAnyC_take (i := 3) (v := .pointer (some ⟨R, o + k, none⟩)) rfl (by kernel_rfl) (fun _ _ _ h => h) (Or.inl ⟨by rfl, ?y10⟩) hS ?r10
        case y10 => intro wq _; go_simp; all_goals (first | with_reducible rfl | (simp only []; done) | (simp []; done) | (simp; omega) | skip)
        try simp only [Act.put, List.setIfInBounds_toArray, List.set_cons_zero, List.set_cons_succ]
        refine wpAnyC_take (i := 4) (v := ?v11) rfl (by kernel_rfl) (fun _ _ _ h => h) (Or.inl ⟨by rfl, ?y11⟩) hS ?r11
        case y11 => rintro wq ⟨⟨c0, c1, c2⟩, ck, -⟩; go_simp; try with_reducible rfl
        try simp only [Act.put, List.setIfInBounds_toArray, List.set_cons_zero, List.set_cons_succ]
        refine wpAnyC_one (j := 5) (by kernel_rfl) rfl (fun K hK => ?_)
        go_simp
        go_at_call 64
        refine (rcode_any wd A gs.length c ot x _).mono ?_
        rw [HCB.out]
        rintro e V ⟨rfl, kk⟩
        have hbv : Below wr.heap.size wr V := ((Below.refl wr.heap.size wr).drew).trans kk
        have hS := HC.out V hbv
        clear kk
        go_wp2_with fail
        refine hK.out _ _ ⟨hS, ?_⟩
        clear hK K
        try simp only [Act.put, List.setIfInBounds_toArray, List.set_cons_zero, List.set_cons_succ]
        refine wpAnyC_take (i := 6) (v := .bool false) rfl (by kernel_rfl) (fun _ _ _ h => h) (Or.inl ⟨by rfl, ?y12⟩) hS ?r12
        case y12 => intro wq _; go_simp; all_goals (first | with_reducible rfl | (simp only []; done) | (simp []; done) | (simp; omega) | skip)
        try simp only [Act.put, List.setIfInBounds_toArray, List.set_cons_zero, List.set_cons_succ]
        refine wpAnyC_done (by kernel_rfl) ?_ _
        go_wp2_with fail
        have hS1 := Lib.hid (hS0.out.later hS.2.2)
        clear HC hS hS0
        have hx0 := HX.out
        have HC : Hid (∀ v, Below V.heap.size V v → (fun v => (v.cell? ⟨w.heap.size, 0, none⟩ = some (.bool wd) ∧ v.cell? ⟨w.heap.size, 1, none⟩ = some (.slice A gs.length c) ∧ v.cell? ⟨w.heap.size, 2, none⟩ = some (.int .i64 ot)) ∧ v.cell? ⟨R, o + k, none⟩ = some (.int .i64 x) ∧ Below V.heap.size V v) v) := Lib.hid (fun v hb => ⟨(hS1.out.later hb).f.cells, ((HI.out.below (hS1.out.later hb).below).at_k hx0), hb⟩)
        have hS := HC.out V.drew ((Below.refl V.heap.size V).drew)
        clear hx0
        obtain ⟨g, hg⟩ : ∃ g, findG ot gs x = g := ⟨_, rfl⟩
        have HGC := Lib.hid (show g.code = x by rw [← hg]; exact find_code gs ot x)
        have hgt : g.text.size ≤ 9223372036854775807 := by rw [← hg]; exact findG_text HG.out.text
        have HF := Lib.hid hg
        clear hg
        refine wp_region_C (fun v => (v.cell? ⟨w.heap.size, 0, none⟩ = some (.bool wd) ∧ v.cell? ⟨w.heap.size, 1, none⟩ = some (.slice A gs.length c) ∧ v.cell? ⟨w.heap.size, 2, none⟩ = some (.int .i64 ot)) ∧ v.cell? ⟨R, o + k, none⟩ = some (.int .i64 x) ∧ Below V.heap.size V v) (by kernel_rfl) ?_
        refine wpAnyC_take (i := 0) (v := ?v13) rfl (by kernel_rfl) (fun _ _ _ h => h) (Or.inl ⟨by rfl, ?y13⟩) hS ?r13
        case y13 => rintro wq ⟨⟨c0, c1, c2⟩, ck, -⟩; go_simp; try with_reducible rfl
        try simp only [Act.put, List.setIfInBounds_toArray, List.set_cons_zero, List.set_cons_succ]
        refine wpAnyC_take (i := 1) (v := ?v14) rfl (by kernel_rfl) (fun _ _ _ h => h) (Or.inl ⟨by rfl, ?y14⟩) hS ?r14
        case y14 => intro wq _; go_simp; all_goals (first | with_reducible rfl | (simp only []; done) | (simp []; done) | (simp; omega) | skip)
        try simp only [Act.put, List.setIfInBounds_toArray, List.set_cons_zero, List.set_cons_succ]
        refine wpAnyC_take (i := 2) (v := ?v15) rfl (by kernel_rfl) (fun _ _ _ h => h) (Or.inl ⟨by rfl, ?y15⟩) hS ?r15
        case y15 => intro wq _; go_simp; all_goals (first | with_reducible rfl | (simp only []; done) | (simp []; done) | (simp; omega) | skip)
        try simp only [Act.put, List.setIfInBounds_toArray, List.set_cons_zero, List.set_cons_succ]
        refine wpAnyC_take (i := 3) (v := .pointer (some ⟨R, o + k, none⟩)) rfl (by kernel_rfl) (fun _ _ _ h => h) (Or.inl ⟨by rfl, ?y16⟩) hS ?r16
        case y16 => intro wq _; go_simp; all_goals (first | with_reducible rfl | (simp only []; done) | (simp []; done) | (simp; omega) | skip)
        try simp only [Act.put, List.setIfInBounds_toArray, List.set_cons_zero, List.set_cons_succ]
        refine wpAnyC_take (i := 4) (v := ?v17) rfl (by kernel_rfl) (fun _ _ _ h => h) (Or.inl ⟨by rfl, ?y17⟩) hS ?r17
        case y17 => rintro wq ⟨⟨c0, c1, c2⟩, ck, -⟩; go_simp; try with_reducible rfl
        try simp only [Act.put, List.setIfInBounds_toArray, List.set_cons_zero, List.set_cons_succ]
        refine wpAnyC_two (i := 5) (j := 6) (by kernel_rfl) rfl rfl (fun K hK => ?_) (fun K hK => ?_)
        · go_simp
          go_at_call 65
          refine (rfind_any wd A gs.length c ot gs x _ (HG.out.below (hS1.out.later (((Below.refl V.heap.size V).drew))).below) hn).mono ?_
          rw [HF.out]
          rintro e v2 ⟨rfl, kk⟩
          have hb2 : Below V.heap.size V v2 := (((Below.refl V.heap.size V).drew)).trans (kk.mono (((Below.refl V.heap.size V).drew)).size)
          clear kk
          have hS := HC.out v2 hb2
          go_wp2_with fail
          refine hK.out _ _ ⟨hS, ?_⟩
          clear hK K
          try simp only [Act.put, List.setIfInBounds_toArray, List.set_cons_zero, List.set_cons_succ]
          refine wpAnyC_one (j := 6) (by kernel_rfl) rfl (fun K hK => ?_)
          go_simp
          refine hK.out _ _ ⟨HC.out _ (hb2.alloc hb2.size _), ?_⟩
          clear hK K
          try simp only [Act.put, List.setIfInBounds_toArray, List.set_cons_zero, List.set_cons_succ]
          refine wpAnyC_one (j := 7) (by kernel_rfl) rfl (fun K hK => ?_)
          go_simp
          refine hK.out _ _ ⟨HC.out _ (hb2.alloc hb2.size (.cells #[.int .i64 g.code, .int .i64 g.width, .string g.text] 73)), ?_⟩
          clear hK K
          try simp only [Act.put, List.setIfInBounds_toArray, List.set_cons_zero, List.set_cons_succ]
          have HY := Lib.hid (And.intro (hS1.out.later (hb2.alloc hb2.size (.cells #[.int .i64 g.code, .int .i64 g.width, .string g.text] 73))) (Whole.made v2 73 #[.int .i64 g.code, .int .i64 g.width, .string g.text]))
          clear HC hS hb2
          generalize v2.alloc (.cells #[.int .i64 g.code, .int .i64 g.width, .string g.text] 73) = Y at *
          refine wpAnyC_done (by kernel_rfl) ?_ _
          generalize v2.heap.size = Q at *
          clear hS1
          have hG : Whole Y Q 73 #[.int .i64 g.code, .int .i64 g.width, .string g.text] := HY.out.2
          obtain ⟨f0, f1, f2⟩ := HY.out.1.f.cells
          have g0 : Y.cell? ⟨Q, 0, none⟩ = some (.int .i64 g.code) := hG.reads 0
          have lF := Whole.lt HY.out.1.f
          have lQ := hG.lt
          go_wp2_with fail
          clear f0 f1 f2 g0 lF lQ hG
          go_loopw [9, 10] (fun s9 s10 wx => ∃ i : Nat, i ≤ gs.length ∧ s10 = .int .i64 i ∧ s9 = .bool (decide (0 < ot) || (hitG (gs.take i) x).isSome) ∧ Hid (RcSt w wx P wd A gs.length c ot (cutG wd ot gs (keep.take k)) ∧ Whole wx Q 73 #[.int .i64 g.code, .int .i64 g.width, .string g.text])) (fun _ s10 _ => gs.length - (intOf s10).toNat)
          case atStart => exact ⟨0, by omega, rfl, by rw [List.take_zero]; show _ = Value.bool (_ || false); rw [Bool.or_false], HY⟩
          case round =>
            clear HY
            obtain ⟨i, hi, rfl, rfl, hJ⟩ := hrel
            obtain ⟨f0, f1, f2⟩ := hJ.out.1.f.cells
            have lF := Whole.lt hJ.out.1.f
            obtain ⟨g0, g1, g2⟩ := gl_cells hJ.out.2
            have lQ := hJ.out.2.lt
            by_cases hli : i < gs.length
            · obtain ⟨q, hq⟩ : ∃ q, gs[i]? = some q := ⟨_, List.getElem?_eq_getElem hli⟩
              obtain ⟨R3, o3, rfl, hR3, hc3⟩ := (HG.out.below hJ.out.1.below).at_ (by omega)
              obtain ⟨q0, -, -⟩ := hc3 i q hq
              have HH := Lib.hid (hit_take hq (x := x))
              have d3 : decide ((i : Int) < (gs.length : Int)) = true := by simp; omega
              have d4 : decide (i < gs.length) = true := by simp; omega
              clear hq hc3
              obtain ⟨b, hb⟩ : ∃ b, (decide (0 < ot) || (hitG (gs.take i) x).isSome) = b := ⟨_, rfl⟩
              rw [hb]
              have HBb := Lib.hid hb
              clear hb
              cases b with
              | true =>
                go_wp2_with fail
                go_quiet (fail)
                go_wp2_with fail
                go_roundw
                case rel => exact ⟨i + 1, by omega, by go_num, by rw [HH.out, ← Bool.or_assoc, HBb.out, Bool.true_or], Lib.hid ⟨hJ.out.1.later (below_drewN (Below.refl _ _) _), Whole.drawn hJ.out.2 _⟩⟩
                case measure => simp [intOf]; omega
              | false =>
                by_cases he : q.code = g.code
                · have d5 : (q.code == g.code) = true := by simp; omega
                  have HE := Lib.hid (show (q.code == x) = true by rw [← HGC.out]; exact d5)
                  go_wp2_with fail
                  go_quiet (fail)
                  go_wp2_with fail
                  go_roundw
                  case rel => exact ⟨i + 1, by omega, by go_num, by rw [HH.out, ← Bool.or_assoc, HBb.out, HE.out]; rfl, Lib.hid ⟨hJ.out.1.later (below_drewN (Below.refl _ _) _), Whole.drawn hJ.out.2 _⟩⟩
                  case measure => simp [intOf]; omega
                · have d5 : (q.code == g.code) = false := by simp; omega
                  have HE := Lib.hid (show (q.code == x) = false by rw [← HGC.out]; exact d5)
                  go_wp2_with fail
                  go_quiet (fail)
                  go_wp2_with fail
                  go_roundw
                  case rel => exact ⟨i + 1, by omega, by go_num, by rw [HH.out, ← Bool.or_assoc, HBb.out, HE.out]; rfl, Lib.hid ⟨hJ.out.1.later (below_drewN (Below.refl _ _) _), Whole.drawn hJ.out.2 _⟩⟩
                  case measure => simp [intOf]; omega
            · obtain rfl : i = gs.length := by omega
              have d3 : decide ((gs.length : Int) < (gs.length : Int)) = false := by simp
              have d4 : decide (gs.length < gs.length) = false := by simp
              rw [List.take_length]
              obtain ⟨b, hb⟩ : ∃ b, (decide (0 < ot) || (hitG gs x).isSome) = b := ⟨_, rfl⟩
              rw [hb]
              have HBb := Lib.hid hb
              clear hb
              obtain ⟨A', c', hP, hGl, -⟩ := hJ.out.1.o
              have hLn : (cutG wd ot gs (keep.take k)).length ≤ 1000000 := by have := cut_len (wd := wd) (ot := ot) (gs := gs) (keep := keep.take k); simp at this; omega
              have HL := Lib.hid (And.intro hGl (And.intro hLn hP))
              obtain ⟨p0, p1, p2⟩ := FB.cells hP
              have lP := hP.lt
              clear hGl hLn hP
              go_wp2_with fail
              refine (insert_any A' _ c' _ g _ HL.out.1 HL.out.2.1 hgt).mono ?_
              rintro e v3 ⟨hb3, h3⟩
              have hst := Lib.hid (hJ.out.1.later hb3)
              rw [HGC.out] at h3
              cases hh : (hitG (cutG wd ot gs (keep.take k)) x).isSome with
              | true =>
                have HHh := Lib.hid hh
                rw [hh, if_pos rfl] at h3
                subst h3
                clear hh hb3
                cases b
                all_goals
                  go_wp2_with fail
                  go_roundw
                  case rel => exact ⟨k + 1, by omega, by go_num, Lib.hid (by rw [HT.out, cut_ref_step HCB.out, HHh.out, if_neg (by simp)]; exact hst.out)⟩
                  case measure => simp [intOf]; omega
              | false =>
                have HHh := Lib.hid hh
                rw [hh, if_neg (by simp)] at h3
                obtain ⟨A3, c3, rfl, hg3, hl3⟩ := h3
                have H3 := Lib.hid (And.intro hg3 (And.intro hl3 hb3))
                have hP3 := HL.out.2.2.here hb3
                have rd3 := hP3.reads
                have ft3 := hP3.thawed
                have lP3 := hP3.lt
                clear hh hb3 hg3 hl3 hP3 p0 p1 p2 lP g0 g1 g2 f0 f1 f2 lF lQ
                cases b with
                | false =>
                  go_wp2_with fail
                  go_roundw
                  case rel => exact ⟨k + 1, by omega, by go_num, Lib.hid (by rw [HT.out, cut_ref_step HCB.out, HBb.out, if_neg (by simp)]; exact hst.out)⟩
                  case measure => simp [intOf]; omega
                | true =>
                  go_wp2_with fail
                  go_roundw
                  case rel => exact ⟨k + 1, by omega, by go_num, Lib.hid (by rw [HT.out, cut_ref_step HCB.out, HBb.out, HHh.out, if_pos (show (true && !false) = true from rfl), HF.out]; exact hJ.out.1.put H3.out.2.2 H3.out.1 H3.out.2.1)⟩
                  case measure => simp [intOf]; omega
        · go_simp
          have hb1 : Below V.heap.size V (V.alloc (.cells #[.int .i64 0, .int .i64 0, .string ⟨#[]⟩] 73)).drew := ((Below.refl V.heap.size V).alloc (Nat.le_refl _) _).drew
          have hZ := (Whole.made V 73 #[.int .i64 0, .int .i64 0, .string ⟨#[]⟩]).drawn1
          refine hK.out _ _ ⟨HC.out _ hb1, ?_⟩
          clear hK K
          try simp only [Act.put, List.setIfInBounds_toArray, List.set_cons_zero, List.set_cons_succ]
          refine wpAnyC_one (j := 5) (by kernel_rfl) rfl (fun K hK => ?_)
          go_simp
          go_at_call 65
          refine (rfind_any wd A gs.length c ot gs x _ (HG.out.below (hS1.out.later (hb1)).below) hn).mono ?_
          rw [HF.out]
          rintro e v2 ⟨rfl, kk⟩
          have hZ := hZ.here kk
          have rdZ := hZ.reads
          have ftZ := hZ.thawed
          have lZ := hZ.lt
          have hb2 : Below V.heap.size V v2 := (hb1).trans (kk.mono (hb1).size)
          clear kk
          have hS := HC.out v2 hb2
          go_wp2_with fail
          refine hK.out _ _ ⟨hS, ?_⟩
          clear hK K
          try simp only [Act.put, List.setIfInBounds_toArray, List.set_cons_zero, List.set_cons_succ]
          refine wpAnyC_one (j := 7) (by kernel_rfl) rfl (fun K hK => ?_)
          go_simp
          refine hK.out _ _ ⟨HC.out _ (((hb2.setCell (p := ⟨V.heap.size, 0, none⟩) (Nat.le_refl _) (.int .i64 g.code)).setCell (p := ⟨V.heap.size, 1, none⟩) (Nat.le_refl _) (.int .i64 g.width)).setCell (p := ⟨V.heap.size, 2, none⟩) (Nat.le_refl _) (.string g.text)), ?_⟩
          clear hK K
          try simp only [Act.put, List.setIfInBounds_toArray, List.set_cons_zero, List.set_cons_succ]
          have HY := Lib.hid (And.intro (hS1.out.later (((hb2.setCell (p := ⟨V.heap.size, 0, none⟩) (Nat.le_refl _) (.int .i64 g.code)).setCell (p := ⟨V.heap.size, 1, none⟩) (Nat.le_refl _) (.int .i64 g.width)).setCell (p := ⟨V.heap.size, 2, none⟩) (Nat.le_refl _) (.string g.text))) (((hZ.set 0 (.int .i64 g.code)).set 1 (.int .i64 g.width)).set 2 (.string g.text)))
          clear HC hS hb2
          generalize ((v2.setCell ⟨V.heap.size, 0, none⟩ (.int .i64 g.code)).setCell ⟨V.heap.size, 1, none⟩ (.int .i64 g.width)).setCell ⟨V.heap.size, 2, none⟩ (.string g.text) = Y at *
          refine wpAnyC_done (by kernel_rfl) ?_ _
          clear hZ rdZ ftZ lZ hb1
          generalize V.heap.size = Q at *
          clear hS1
          have hG : Whole Y Q 73 #[.int .i64 g.code, .int .i64 g.width, .string g.text] := HY.out.2
          obtain ⟨f0, f1, f2⟩ := HY.out.1.f.cells
          have g0 : Y.cell? ⟨Q, 0, none⟩ = some (.int .i64 g.code) := hG.reads 0
          have lF := Whole.lt HY.out.1.f
          have lQ := hG.lt
          go_wp2_with fail
          clear f0 f1 f2 g0 lF lQ hG
          go_loopw [9, 10] (fun s9 s10 wx => ∃ i : Nat, i ≤ gs.length ∧ s10 = .int .i64 i ∧ s9 = .bool (decide (0 < ot) || (hitG (gs.take i) x).isSome) ∧ Hid (RcSt w wx P wd A gs.length c ot (cutG wd ot gs (keep.take k)) ∧ Whole wx Q 73 #[.int .i64 g.code, .int .i64 g.width, .string g.text])) (fun _ s10 _ => gs.length - (intOf s10).toNat)
          case atStart => exact ⟨0, by omega, rfl, by rw [List.take_zero]; show _ = Value.bool (_ || false); rw [Bool.or_false], HY⟩
          case round =>
            clear HY
            obtain ⟨i, hi, rfl, rfl, hJ⟩ := hrel
            obtain ⟨f0, f1, f2⟩ := hJ.out.1.f.cells
            have lF := Whole.lt hJ.out.1.f
            obtain ⟨g0, g1, g2⟩ := gl_cells hJ.out.2
            have lQ := hJ.out.2.lt
            by_cases hli : i < gs.length
            · obtain ⟨q, hq⟩ : ∃ q, gs[i]? = some q := ⟨_, List.getElem?_eq_getElem hli⟩
              obtain ⟨R3, o3, rfl, hR3, hc3⟩ := (HG.out.below hJ.out.1.below).at_ (by omega)
              obtain ⟨q0, -, -⟩ := hc3 i q hq
              have HH := Lib.hid (hit_take hq (x := x))
              have d3 : decide ((i : Int) < (gs.length : Int)) = true := by simp; omega
              have d4 : decide (i < gs.length) = true := by simp; omega
              clear hq hc3
              obtain ⟨b, hb⟩ : ∃ b, (decide (0 < ot) || (hitG (gs.take i) x).isSome) = b := ⟨_, rfl⟩
              rw [hb]
              have HBb := Lib.hid hb
              clear hb
              cases b with
              | true =>
                go_wp2_with fail
                go_quiet (fail)
                go_wp2_with fail
                go_roundw
                case rel => exact ⟨i + 1, by omega, by go_num, by rw [HH.out, ← Bool.or_assoc, HBb.out, Bool.true_or], Lib.hid ⟨hJ.out.1.later (below_drewN (Below.refl _ _) _), Whole.drawn hJ.out.2 _⟩⟩
                case measure => simp [intOf]; omega
              | false =>
                by_cases he : q.code = g.code
                · have d5 : (q.code == g.code) = true := by simp; omega
                  have HE := Lib.hid (show (q.code == x) = true by rw [← HGC.out]; exact d5)
                  go_wp2_with fail
                  go_quiet (fail)
                  go_wp2_with fail
                  go_roundw
                  case rel => exact ⟨i + 1, by omega, by go_num, by rw [HH.out, ← Bool.or_assoc, HBb.out, HE.out]; rfl, Lib.hid ⟨hJ.out.1.later (below_drewN (Below.refl _ _) _), Whole.drawn hJ.out.2 _⟩⟩
                  case measure => simp [intOf]; omega
                · have d5 : (q.code == g.code) = false := by simp; omega
                  have HE := Lib.hid (show (q.code == x) = false by rw [← HGC.out]; exact d5)
                  go_wp2_with fail
                  go_quiet (fail)
                  go_wp2_with fail
                  go_roundw
                  case rel => exact ⟨i + 1, by omega, by go_num, by rw [HH.out, ← Bool.or_assoc, HBb.out, HE.out]; rfl, Lib.hid ⟨hJ.out.1.later (below_drewN (Below.refl _ _) _), Whole.drawn hJ.out.2 _⟩⟩
                  case measure => simp [intOf]; omega
            · obtain rfl : i = gs.length := by omega
              have d3 : decide ((gs.length : Int) < (gs.length : Int)) = false := by simp
              have d4 : decide (gs.length < gs.length) = false := by simp
              rw [List.take_length]
              obtain ⟨b, hb⟩ : ∃ b, (decide (0 < ot) || (hitG gs x).isSome) = b := ⟨_, rfl⟩
              rw [hb]
              have HBb := Lib.hid hb
              clear hb
              obtain ⟨A', c', hP, hGl, -⟩ := hJ.out.1.o
              have hLn : (cutG wd ot gs (keep.take k)).length ≤ 1000000 := by have := cut_len (wd := wd) (ot := ot) (gs := gs) (keep := keep.take k); simp at this; omega
              have HL := Lib.hid (And.intro hGl (And.intro hLn hP))
              obtain ⟨p0, p1, p2⟩ := FB.cells hP
              have lP := hP.lt
              clear hGl hLn hP
              go_wp2_with fail
              refine (insert_any A' _ c' _ g _ HL.out.1 HL.out.2.1 hgt).mono ?_
              rintro e v3 ⟨hb3, h3⟩
              have hst := Lib.hid (hJ.out.1.later hb3)
              rw [HGC.out] at h3
              cases hh : (hitG (cutG wd ot gs (keep.take k)) x).isSome with
              | true =>
                have HHh := Lib.hid hh
                rw [hh, if_pos rfl] at h3
                subst h3
                clear hh hb3
                cases b
                all_goals
                  go_wp2_with fail
                  go_roundw
                  case rel => exact ⟨k + 1, by omega, by go_num, Lib.hid (by rw [HT.out, cut_ref_step HCB.out, HHh.out, if_neg (by simp)]; exact hst.out)⟩
                  case measure => simp [intOf]; omega
              | false =>
                have HHh := Lib.hid hh
                rw [hh, if_neg (by simp)] at h3
                obtain ⟨A3, c3, rfl, hg3, hl3⟩ := h3
                have H3 := Lib.hid (And.intro hg3 (And.intro hl3 hb3))
                have hP3 := HL.out.2.2.here hb3
                have rd3 := hP3.reads
                have ft3 := hP3.thawed
                have lP3 := hP3.lt
                clear hh hb3 hg3 hl3 hP3 p0 p1 p2 lP g0 g1 g2 f0 f1 f2 lF lQ
                cases b with
                | false =>
                  go_wp2_with fail
                  go_roundw
                  case rel => exact ⟨k + 1, by omega, by go_num, Lib.hid (by rw [HT.out, cut_ref_step HCB.out, HBb.out, if_neg (by simp)]; exact hst.out)⟩
                  case measure => simp [intOf]; omega
                | true =>
                  go_wp2_with fail
                  go_roundw
                  case rel => exact ⟨k + 1, by omega, by go_num, Lib.hid (by rw [HT.out, cut_ref_step HCB.out, HBb.out, HHh.out, if_pos (show (true && !false) = true from rfl), HF.out]; exact hJ.out.1.put H3.out.2.2 H3.out.1 H3.out.2.1)⟩
                  case measure => simp [intOf]; omega
    · obtain rfl : k = keep.length := by omega
      have d1 : decide ((keep.length : Int) < (keep.length : Int)) = false := by simp
      have d2 : decide (keep.length < keep.length) = false := by simp
      rw [List.take_length] at hS0
      obtain ⟨A', c', hP, hGl, hlow⟩ := hS0.out.o
      obtain ⟨p0, p1, p2⟩ := FB.cells hP
      have lP := hP.lt
      have rd := hS0.out.r.reads
      have ft := hS0.out.r.thawed
      have lR := hS0.out.r.lt
      have HL := Lib.hid (And.intro ((((hGl.set hlow ⟨w.heap.size + 1, 0, none⟩ hS0.out.lo (.bool wd)).set hlow ⟨w.heap.size + 1, 1, none⟩ hS0.out.lo (.slice A' (cutG wd ot gs keep).length c')).set hlow ⟨w.heap.size + 1, 2, none⟩ hS0.out.lo (.int .i64 0))) hS0.out.below)
      clear hGl hP hlow
      go_wp2_with fail
      refine bodyPost_ret (v := .tuple #[.agg #[.bool wd, .slice A' (cutG wd ot gs keep).length c', .int .i64 0], .int .i64 0]) (by simp [results, Tryz.results34, go_sem, rd]) rfl ⟨A', _, c', rfl, HL.out.1, ?_⟩
      (repeat (first | with_reducible refine Below.drew ?_ | with_reducible refine bdrewN ?_ _ | (with_reducible refine Below.setCell ?_ ?_ _; rotate_left; focus (first | exact Nat.le_refl _ | omega | (simp; omega) | (simp; done))) | (with_reducible refine Below.alloc ?_ ?_ _; rotate_left; focus (first | exact Nat.le_refl _ | omega | (simp; omega) | (simp; done))))); with_reducible exact HL.out.2
end Go.Proofs.YtdlmhienolmncaaGreat
/- the reference's Cut of a font: its glyphs are new. -/
namespace Go.Proofs.YtdlmhienolmncaaGreat
open Go.RowKit

set_option maxRecDepth 100000 in
set_option maxHeartbeats 8000000 in
theorem rcut_okF (wd : Bool) (A : Option Addr) (n c : Nat) (ot : Int) (gs : List Gl) (A2 : Option Addr) (n2 c2 : Nat) (keep : List Int) (w : World) (h : Glyphs w A n c gs) (hk : chkB wd ot gs = true) (h2 : IntsAt w A2 n2 c2 keep) (hn : n ≤ 1000000) (hn2 : n2 ≤ 1000000) :
    Calls Tryz.prog 34 #[.agg #[.bool wd, .slice A n c, .int .i64 ot], .slice A2 n2 c2] w (CutOkF wd (cutG wd ot gs keep) w) := by
  have hF := (Whole.made w 64 #[.bool wd, .slice A n c, .int .i64 ot]).old (.cells #[.bool false, .slice none 0 0, .int .i64 0] 64)
  have hR := Whole.made (w.alloc (.cells #[.bool wd, .slice A n c, .int .i64 ot] 64)) 64 #[.bool false, .slice none 0 0, .int .i64 0]
  simp only [World.size_alloc] at hR
  have hB : Below w.heap.size w ((w.alloc (.cells #[.bool wd, .slice A n c, .int .i64 ot] 64)).alloc (.cells #[.bool false, .slice none 0 0, .int .i64 0] 64)) := by (repeat (first | with_reducible exact Below.refl _ _ | with_reducible refine Below.drew ?_ | with_reducible refine bdrewN ?_ _ | (with_reducible refine Below.setCell ?_ ?_ _; rotate_left; focus (first | exact Nat.le_refl _ | omega | (simp; omega) | (simp; done))) | (with_reducible refine Below.alloc ?_ ?_ _; rotate_left; focus (first | exact Nat.le_refl _ | omega | (simp; omega) | (simp; done))) | (with_reducible refine Below.trans ?_ (Below.mono (by assumption) ?_); rotate_left; focus (first | exact Nat.le_refl _ | omega | (simp; omega) | (simp; done)))))
  have H0 := Lib.hid (And.intro hF (And.intro hR hB))
  have hl := h.len
  have hl2 := h2.len
  subst hl hl2
  have hcap := h.cap
  have htop := h.top
  have hcap2 := h2.cap
  have htop2 := h2.top
  have HK := Lib.hid hk
  have HG := Lib.hid h
  have HI := Lib.hid h2
  clear h h2 hk hF hR hB
  go_enter Tryz.func34, Tryz.ntmps34
  go_wp2_with fail
  refine (rright_any wd A gs.length c ot gs _ (HG.out.below H0.out.2.2) hn).mono ?_
  rw [HK.out]
  rintro e w1 ⟨rfl, hb⟩
  have H1 := Lib.hid (And.intro (H0.out.1.here hb) (And.intro (H0.out.2.1.here hb) (H0.out.2.2.trans (hb.mono H0.out.2.2.size))))
  have cf := (H0.out.1.here hb).reads
  have lF := (H0.out.1.here hb).lt
  clear hb H0
  go_wp2_with fail
  have hst : RcSt w (w1.alloc (.cells #[.bool wd, .slice none 0 0, .int .i64 0] 64)) w1.heap.size wd A gs.length c ot (cutG wd ot gs (keep.take 0)) := by
    rw [List.take_zero, cutG_none]
    exact ⟨H1.out.1.old _, H1.out.2.1.old _, ⟨none, 0, Whole.made _ _ _, glyphs_nil _, fun R o e => by cases e⟩, H1.out.2.2.alloc H1.out.2.2.size _, H1.out.2.1.lt⟩
  have HS0 := Lib.hid hst
  clear hst H1 cf lF
  obtain ⟨P, hP⟩ : ∃ P, w1.heap.size = P := ⟨_, rfl⟩
  rw [hP] at HS0
  try rw [hP]
  clear hP
  go_loopw [7] (fun s7 wx => ∃ k : Nat, k ≤ keep.length ∧ s7 = .int .i64 k ∧ Hid (RcSt w wx P wd A gs.length c ot (cutG wd ot gs (keep.take k)))) (fun s7 _ => keep.length - (intOf s7).toNat)
  case atStart => exact ⟨0, by omega, rfl, HS0⟩
  case round =>
    clear HS0
    obtain ⟨k, hk, rfl, hS0⟩ := hrel
    by_cases hlt : k < keep.length
    · obtain ⟨x, hx⟩ : ∃ x, keep[k]? = some x := ⟨_, List.getElem?_eq_getElem hlt⟩
      obtain ⟨R, o, rfl, hR0, -⟩ := HI.out.at_ (by omega)
      have d1 : decide ((k : Int) < (keep.length : Int)) = true := by simp; omega
      have d2 : decide (k < keep.length) = true := by simp; omega
      have HX := Lib.hid hx
      have HT := Lib.hid (show keep.take (k + 1) = keep.take k ++ [x] by rw [List.take_add_one, hx]; rfl)
      have hx0 := hx
      clear hx
      go_wp2_with fail
      have HC : Hid (∀ v, Below wr.heap.size wr v → (fun v => (v.cell? ⟨w.heap.size, 0, none⟩ = some (.bool wd) ∧ v.cell? ⟨w.heap.size, 1, none⟩ = some (.slice A gs.length c) ∧ v.cell? ⟨w.heap.size, 2, none⟩ = some (.int .i64 ot)) ∧ v.cell? ⟨R, o + k, none⟩ = some (.int .i64 x) ∧ Below wr.heap.size wr v) v) := Lib.hid (fun v hb => ⟨(hS0.out.later hb).f.cells, ((HI.out.below (hS0.out.later hb).below).at_k hx0), hb⟩)
      have hS := HC.out wr.drew ((Below.refl wr.heap.size wr).drew)
      clear hx0
      cases hcb : codeB wd x
      · have HCB := Lib.hid hcb
        clear hcb
        refine wp_region_C (fun v => (v.cell? ⟨w.heap.size, 0, none⟩ = some (.bool wd) ∧ v.cell? ⟨w.heap.size, 1, none⟩ = some (.slice A gs.length c) ∧ v.cell? ⟨w.heap.size, 2, none⟩ = some (.int .i64 ot)) ∧ v.cell? ⟨R, o + k, none⟩ = some (.int .i64 x) ∧ Below wr.heap.size wr v) (by kernel_rfl) ?_
        refine wpAnyC_take (i := 0) (v := ?v1) rfl (by kernel_rfl) (fun _ _ _ h => h) (Or.inl ⟨by rfl, ?y1⟩) hS ?r1
        case y1 => rintro wq ⟨⟨c0, c1, c2⟩, ck, -⟩; go_simp; try with_reducible rfl
        try simp only [Act.put, List.setIfInBounds_toArray, List.set_cons_zero, List.set_cons_succ]
        refine wpAnyC_take (i := 1) (v := ?v2) rfl (by kernel_rfl) (fun _ _ _ h => h) (Or.inl ⟨by rfl, ?y2⟩) hS ?r2
        case y2 => intro wq _; go_simp; all_goals (first | with_reducible rfl | (simp only []; done) | (simp []; done) | (simp; omega) | skip)
        try simp only [Act.put, List.setIfInBounds_toArray, List.set_cons_zero, List.set_cons_succ]
        refine wpAnyC_take (i := 2) (v := ?v3) rfl (by kernel_rfl) (fun _ _ _ h => h) (Or.inl ⟨by rfl, ?y3⟩) hS ?r3
        case y3 => intro wq _; go_simp; all_goals (first | with_reducible rfl | (simp only []; done) | (simp []; done) | (simp; omega) | skip)
        try simp only [Act.put, List.setIfInBounds_toArray, List.set_cons_zero, List.set_cons_succ]
        refine wpAnyC_take (i := 3) (v := .pointer (some ⟨R, o + k, none⟩)) rfl (by kernel_rfl) (fun _ _ _ h => h) (Or.inl ⟨by rfl, ?y4⟩) hS ?r4
        case y4 => intro wq _; go_simp; all_goals (first | with_reducible rfl | (simp only []; done) | (simp []; done) | (simp; omega) | skip)
        try simp only [Act.put, List.setIfInBounds_toArray, List.set_cons_zero, List.set_cons_succ]
        refine wpAnyC_take (i := 4) (v := ?v5) rfl (by kernel_rfl) (fun _ _ _ h => h) (Or.inl ⟨by rfl, ?y5⟩) hS ?r5
        case y5 => rintro wq ⟨⟨c0, c1, c2⟩, ck, -⟩; go_simp; try with_reducible rfl
        try simp only [Act.put, List.setIfInBounds_toArray, List.set_cons_zero, List.set_cons_succ]
        refine wpAnyC_one (j := 5) (by kernel_rfl) rfl (fun K hK => ?_)
        go_simp
        go_at_call 64
        refine (rcode_any wd A gs.length c ot x _).mono ?_
        rw [HCB.out]
        rintro e V ⟨rfl, kk⟩
        have hbv : Below wr.heap.size wr V := ((Below.refl wr.heap.size wr).drew).trans kk
        have hS := HC.out V hbv
        clear kk
        go_wp2_with fail
        refine hK.out _ _ ⟨hS, ?_⟩
        clear hK K
        try simp only [Act.put, List.setIfInBounds_toArray, List.set_cons_zero, List.set_cons_succ]
        refine wpAnyC_take (i := 6) (v := .bool true) rfl (by kernel_rfl) (fun _ _ _ h => h) (Or.inl ⟨by rfl, ?y6⟩) hS ?r6
        case y6 => intro wq _; go_simp; all_goals (first | with_reducible rfl | (simp only []; done) | (simp []; done) | (simp; omega) | skip)
        try simp only [Act.put, List.setIfInBounds_toArray, List.set_cons_zero, List.set_cons_succ]
        refine wpAnyC_done (by kernel_rfl) ?_ _
        go_wp2_with fail
        go_roundw
        case rel => exact ⟨k + 1, by omega, by go_num, Lib.hid (by rw [HT.out, cut_add_none (pick_bad HK.out HCB.out)]; exact hS0.out.later hS.2.2)⟩
        case measure => simp [intOf]; omega
      · have HCB := Lib.hid hcb
        clear hcb
        refine wp_region_C (fun v => (v.cell? ⟨w.heap.size, 0, none⟩ = some (.bool wd) ∧ v.cell? ⟨w.heap.size, 1, none⟩ = some (.slice A gs.length c) ∧ v.cell? ⟨w.heap.size, 2, none⟩ = some (.int .i64 ot)) ∧ v.cell? ⟨R, o + k, none⟩ = some (.int .i64 x) ∧ Below wr.heap.size wr v) (by kernel_rfl) ?_
        refine wpAnyC_take (i := 0) (v := ?v7) rfl (by kernel_rfl) (fun _ _ _ h => h) (Or.inl ⟨by rfl, ?y7⟩) hS ?r7
        case y7 => rintro wq ⟨⟨c0, c1, c2⟩, ck, -⟩; go_simp; try with_reducible rfl
        try simp only [Act.put, List.setIfInBounds_toArray, List.set_cons_zero, List.set_cons_succ]
        refine wpAnyC_take (i := 1) (v := ?v8) rfl (by kernel_rfl) (fun _ _ _ h => h) (Or.inl ⟨by rfl, ?y8⟩) hS ?r8
        case y8 => intro wq _; go_simp; all_goals (first | with_reducible rfl | (simp only []; done) | (simp []; done) | (simp; omega) | skip)
        try simp only [Act.put, List.setIfInBounds_toArray, List.set_cons_zero, List.set_cons_succ]
        refine wpAnyC_take (i := 2) (v := ?v9) rfl (by kernel_rfl) (fun _ _ _ h => h) (Or.inl ⟨by rfl, ?y9⟩) hS ?r9
        case y9 => intro wq _; go_simp; all_goals (first | with_reducible rfl | (simp only []; done) | (simp []; done) | (simp; omega) | skip)
        try simp only [Act.put, List.setIfInBounds_toArray, List.set_cons_zero, List.set_cons_succ]
        refine wpAnyC_take (i := 3) (v := .pointer (some ⟨R, o + k, none⟩)) rfl (by kernel_rfl) (fun _ _ _ h => h) (Or.inl ⟨by rfl, ?y10⟩) hS ?r10
        case y10 => intro wq _; go_simp; all_goals (first | with_reducible rfl | (simp only []; done) | (simp []; done) | (simp; omega) | skip)
        try simp only [Act.put, List.setIfInBounds_toArray, List.set_cons_zero, List.set_cons_succ]
        refine wpAnyC_take (i := 4) (v := ?v11) rfl (by kernel_rfl) (fun _ _ _ h => h) (Or.inl ⟨by rfl, ?y11⟩) hS ?r11
        case y11 => rintro wq ⟨⟨c0, c1, c2⟩, ck, -⟩; go_simp; try with_reducible rfl
        try simp only [Act.put, List.setIfInBounds_toArray, List.set_cons_zero, List.set_cons_succ]
        refine wpAnyC_one (j := 5) (by kernel_rfl) rfl (fun K hK => ?_)
        go_simp
        go_at_call 64
        refine (rcode_any wd A gs.length c ot x _).mono ?_
        rw [HCB.out]
        rintro e V ⟨rfl, kk⟩
        have hbv : Below wr.heap.size wr V := ((Below.refl wr.heap.size wr).drew).trans kk
        have hS := HC.out V hbv
        clear kk
        go_wp2_with fail
        refine hK.out _ _ ⟨hS, ?_⟩
        clear hK K
        try simp only [Act.put, List.setIfInBounds_toArray, List.set_cons_zero, List.set_cons_succ]
        refine wpAnyC_take (i := 6) (v := .bool false) rfl (by kernel_rfl) (fun _ _ _ h => h) (Or.inl ⟨by rfl, ?y12⟩) hS ?r12
        case y12 => intro wq _; go_simp; all_goals (first | with_reducible rfl | (simp only []; done) | (simp []; done) | (simp; omega) | skip)
        try simp only [Act.put, List.setIfInBounds_toArray, List.set_cons_zero, List.set_cons_succ]
        refine wpAnyC_done (by kernel_rfl) ?_ _
        go_wp2_with fail
        have hS1 := Lib.hid (hS0.out.later hS.2.2)
        clear HC hS hS0
        have hx0 := HX.out
        have HC : Hid (∀ v, Below V.heap.size V v → (fun v => (v.cell? ⟨w.heap.size, 0, none⟩ = some (.bool wd) ∧ v.cell? ⟨w.heap.size, 1, none⟩ = some (.slice A gs.length c) ∧ v.cell? ⟨w.heap.size, 2, none⟩ = some (.int .i64 ot)) ∧ v.cell? ⟨R, o + k, none⟩ = some (.int .i64 x) ∧ Below V.heap.size V v) v) := Lib.hid (fun v hb => ⟨(hS1.out.later hb).f.cells, ((HI.out.below (hS1.out.later hb).below).at_k hx0), hb⟩)
        have hS := HC.out V.drew ((Below.refl V.heap.size V).drew)
        clear hx0
        obtain ⟨g, hg⟩ : ∃ g, findG ot gs x = g := ⟨_, rfl⟩
        have HGC := Lib.hid (show g.code = x by rw [← hg]; exact find_code gs ot x)
        have hgt : g.text.size ≤ 9223372036854775807 := by rw [← hg]; exact findG_text HG.out.text
        have HF := Lib.hid hg
        clear hg
        refine wp_region_C (fun v => (v.cell? ⟨w.heap.size, 0, none⟩ = some (.bool wd) ∧ v.cell? ⟨w.heap.size, 1, none⟩ = some (.slice A gs.length c) ∧ v.cell? ⟨w.heap.size, 2, none⟩ = some (.int .i64 ot)) ∧ v.cell? ⟨R, o + k, none⟩ = some (.int .i64 x) ∧ Below V.heap.size V v) (by kernel_rfl) ?_
        refine wpAnyC_take (i := 0) (v := ?v13) rfl (by kernel_rfl) (fun _ _ _ h => h) (Or.inl ⟨by rfl, ?y13⟩) hS ?r13
        case y13 => rintro wq ⟨⟨c0, c1, c2⟩, ck, -⟩; go_simp; try with_reducible rfl
        try simp only [Act.put, List.setIfInBounds_toArray, List.set_cons_zero, List.set_cons_succ]
        refine wpAnyC_take (i := 1) (v := ?v14) rfl (by kernel_rfl) (fun _ _ _ h => h) (Or.inl ⟨by rfl, ?y14⟩) hS ?r14
        case y14 => intro wq _; go_simp; all_goals (first | with_reducible rfl | (simp only []; done) | (simp []; done) | (simp; omega) | skip)
        try simp only [Act.put, List.setIfInBounds_toArray, List.set_cons_zero, List.set_cons_succ]
        refine wpAnyC_take (i := 2) (v := ?v15) rfl (by kernel_rfl) (fun _ _ _ h => h) (Or.inl ⟨by rfl, ?y15⟩) hS ?r15
        case y15 => intro wq _; go_simp; all_goals (first | with_reducible rfl | (simp only []; done) | (simp []; done) | (simp; omega) | skip)
        try simp only [Act.put, List.setIfInBounds_toArray, List.set_cons_zero, List.set_cons_succ]
        refine wpAnyC_take (i := 3) (v := .pointer (some ⟨R, o + k, none⟩)) rfl (by kernel_rfl) (fun _ _ _ h => h) (Or.inl ⟨by rfl, ?y16⟩) hS ?r16
        case y16 => intro wq _; go_simp; all_goals (first | with_reducible rfl | (simp only []; done) | (simp []; done) | (simp; omega) | skip)
        try simp only [Act.put, List.setIfInBounds_toArray, List.set_cons_zero, List.set_cons_succ]
        refine wpAnyC_take (i := 4) (v := ?v17) rfl (by kernel_rfl) (fun _ _ _ h => h) (Or.inl ⟨by rfl, ?y17⟩) hS ?r17
        case y17 => rintro wq ⟨⟨c0, c1, c2⟩, ck, -⟩; go_simp; try with_reducible rfl
        try simp only [Act.put, List.setIfInBounds_toArray, List.set_cons_zero, List.set_cons_succ]
        refine wpAnyC_two (i := 5) (j := 6) (by kernel_rfl) rfl rfl (fun K hK => ?_) (fun K hK => ?_)
        · go_simp
          go_at_call 65
          refine (rfind_any wd A gs.length c ot gs x _ (HG.out.below (hS1.out.later (((Below.refl V.heap.size V).drew))).below) hn).mono ?_
          rw [HF.out]
          rintro e v2 ⟨rfl, kk⟩
          have hb2 : Below V.heap.size V v2 := (((Below.refl V.heap.size V).drew)).trans (kk.mono (((Below.refl V.heap.size V).drew)).size)
          clear kk
          have hS := HC.out v2 hb2
          go_wp2_with fail
          refine hK.out _ _ ⟨hS, ?_⟩
          clear hK K
          try simp only [Act.put, List.setIfInBounds_toArray, List.set_cons_zero, List.set_cons_succ]
          refine wpAnyC_one (j := 6) (by kernel_rfl) rfl (fun K hK => ?_)
          go_simp
          refine hK.out _ _ ⟨HC.out _ (hb2.alloc hb2.size _), ?_⟩
          clear hK K
          try simp only [Act.put, List.setIfInBounds_toArray, List.set_cons_zero, List.set_cons_succ]
          refine wpAnyC_one (j := 7) (by kernel_rfl) rfl (fun K hK => ?_)
          go_simp
          refine hK.out _ _ ⟨HC.out _ (hb2.alloc hb2.size (.cells #[.int .i64 g.code, .int .i64 g.width, .string g.text] 73)), ?_⟩
          clear hK K
          try simp only [Act.put, List.setIfInBounds_toArray, List.set_cons_zero, List.set_cons_succ]
          have HY := Lib.hid (And.intro (hS1.out.later (hb2.alloc hb2.size (.cells #[.int .i64 g.code, .int .i64 g.width, .string g.text] 73))) (Whole.made v2 73 #[.int .i64 g.code, .int .i64 g.width, .string g.text]))
          clear HC hS hb2
          generalize v2.alloc (.cells #[.int .i64 g.code, .int .i64 g.width, .string g.text] 73) = Y at *
          refine wpAnyC_done (by kernel_rfl) ?_ _
          generalize v2.heap.size = Q at *
          clear hS1
          have hG : Whole Y Q 73 #[.int .i64 g.code, .int .i64 g.width, .string g.text] := HY.out.2
          obtain ⟨f0, f1, f2⟩ := HY.out.1.f.cells
          have g0 : Y.cell? ⟨Q, 0, none⟩ = some (.int .i64 g.code) := hG.reads 0
          have lF := Whole.lt HY.out.1.f
          have lQ := hG.lt
          go_wp2_with fail
          clear f0 f1 f2 g0 lF lQ hG
          go_loopw [9, 10] (fun s9 s10 wx => ∃ i : Nat, i ≤ gs.length ∧ s10 = .int .i64 i ∧ s9 = .bool (decide (0 < ot) || (hitG (gs.take i) x).isSome) ∧ Hid (RcSt w wx P wd A gs.length c ot (cutG wd ot gs (keep.take k)) ∧ Whole wx Q 73 #[.int .i64 g.code, .int .i64 g.width, .string g.text])) (fun _ s10 _ => gs.length - (intOf s10).toNat)
          case atStart => exact ⟨0, by omega, rfl, by rw [List.take_zero]; show _ = Value.bool (_ || false); rw [Bool.or_false], HY⟩
          case round =>
            clear HY
            obtain ⟨i, hi, rfl, rfl, hJ⟩ := hrel
            obtain ⟨f0, f1, f2⟩ := hJ.out.1.f.cells
            have lF := Whole.lt hJ.out.1.f
            obtain ⟨g0, g1, g2⟩ := gl_cells hJ.out.2
            have lQ := hJ.out.2.lt
            by_cases hli : i < gs.length
            · obtain ⟨q, hq⟩ : ∃ q, gs[i]? = some q := ⟨_, List.getElem?_eq_getElem hli⟩
              obtain ⟨R3, o3, rfl, hR3, hc3⟩ := (HG.out.below hJ.out.1.below).at_ (by omega)
              obtain ⟨q0, -, -⟩ := hc3 i q hq
              have HH := Lib.hid (hit_take hq (x := x))
              have d3 : decide ((i : Int) < (gs.length : Int)) = true := by simp; omega
              have d4 : decide (i < gs.length) = true := by simp; omega
              clear hq hc3
              obtain ⟨b, hb⟩ : ∃ b, (decide (0 < ot) || (hitG (gs.take i) x).isSome) = b := ⟨_, rfl⟩
              rw [hb]
              have HBb := Lib.hid hb
              clear hb
              cases b with
              | true =>
                go_wp2_with fail
                go_quiet (fail)
                go_wp2_with fail
                go_roundw
                case rel => exact ⟨i + 1, by omega, by go_num, by rw [HH.out, ← Bool.or_assoc, HBb.out, Bool.true_or], Lib.hid ⟨hJ.out.1.later (below_drewN (Below.refl _ _) _), Whole.drawn hJ.out.2 _⟩⟩
                case measure => simp [intOf]; omega
              | false =>
                by_cases he : q.code = g.code
                · have d5 : (q.code == g.code) = true := by simp; omega
                  have HE := Lib.hid (show (q.code == x) = true by rw [← HGC.out]; exact d5)
                  go_wp2_with fail
                  go_quiet (fail)
                  go_wp2_with fail
                  go_roundw
                  case rel => exact ⟨i + 1, by omega, by go_num, by rw [HH.out, ← Bool.or_assoc, HBb.out, HE.out]; rfl, Lib.hid ⟨hJ.out.1.later (below_drewN (Below.refl _ _) _), Whole.drawn hJ.out.2 _⟩⟩
                  case measure => simp [intOf]; omega
                · have d5 : (q.code == g.code) = false := by simp; omega
                  have HE := Lib.hid (show (q.code == x) = false by rw [← HGC.out]; exact d5)
                  go_wp2_with fail
                  go_quiet (fail)
                  go_wp2_with fail
                  go_roundw
                  case rel => exact ⟨i + 1, by omega, by go_num, by rw [HH.out, ← Bool.or_assoc, HBb.out, HE.out]; rfl, Lib.hid ⟨hJ.out.1.later (below_drewN (Below.refl _ _) _), Whole.drawn hJ.out.2 _⟩⟩
                  case measure => simp [intOf]; omega
            · obtain rfl : i = gs.length := by omega
              have d3 : decide ((gs.length : Int) < (gs.length : Int)) = false := by simp
              have d4 : decide (gs.length < gs.length) = false := by simp
              rw [List.take_length]
              obtain ⟨b, hb⟩ : ∃ b, (decide (0 < ot) || (hitG gs x).isSome) = b := ⟨_, rfl⟩
              rw [hb]
              have HBb := Lib.hid hb
              clear hb
              obtain ⟨A', c', hP, hGl, -⟩ := hJ.out.1.o
              have hLn : (cutG wd ot gs (keep.take k)).length ≤ 1000000 := by have := cut_len (wd := wd) (ot := ot) (gs := gs) (keep := keep.take k); simp at this; omega
              have HL := Lib.hid (And.intro hGl (And.intro hLn hP))
              obtain ⟨p0, p1, p2⟩ := FB.cells hP
              have lP := hP.lt
              clear hGl hLn hP
              go_wp2_with fail
              refine (insert_any A' _ c' _ g _ HL.out.1 HL.out.2.1 hgt).mono ?_
              rintro e v3 ⟨hb3, h3⟩
              have hst := Lib.hid (hJ.out.1.later hb3)
              rw [HGC.out] at h3
              cases hh : (hitG (cutG wd ot gs (keep.take k)) x).isSome with
              | true =>
                have HHh := Lib.hid hh
                rw [hh, if_pos rfl] at h3
                subst h3
                clear hh hb3
                cases b
                all_goals
                  go_wp2_with fail
                  go_roundw
                  case rel => exact ⟨k + 1, by omega, by go_num, Lib.hid (by rw [HT.out, cut_ref_step HCB.out, HHh.out, if_neg (by simp)]; exact hst.out)⟩
                  case measure => simp [intOf]; omega
              | false =>
                have HHh := Lib.hid hh
                rw [hh, if_neg (by simp)] at h3
                obtain ⟨A3, c3, rfl, hg3, hl3⟩ := h3
                have H3 := Lib.hid (And.intro hg3 (And.intro hl3 hb3))
                have hP3 := HL.out.2.2.here hb3
                have rd3 := hP3.reads
                have ft3 := hP3.thawed
                have lP3 := hP3.lt
                clear hh hb3 hg3 hl3 hP3 p0 p1 p2 lP g0 g1 g2 f0 f1 f2 lF lQ
                cases b with
                | false =>
                  go_wp2_with fail
                  go_roundw
                  case rel => exact ⟨k + 1, by omega, by go_num, Lib.hid (by rw [HT.out, cut_ref_step HCB.out, HBb.out, if_neg (by simp)]; exact hst.out)⟩
                  case measure => simp [intOf]; omega
                | true =>
                  go_wp2_with fail
                  go_roundw
                  case rel => exact ⟨k + 1, by omega, by go_num, Lib.hid (by rw [HT.out, cut_ref_step HCB.out, HBb.out, HHh.out, if_pos (show (true && !false) = true from rfl), HF.out]; exact hJ.out.1.put H3.out.2.2 H3.out.1 H3.out.2.1)⟩
                  case measure => simp [intOf]; omega
        · go_simp
          have hb1 : Below V.heap.size V (V.alloc (.cells #[.int .i64 0, .int .i64 0, .string ⟨#[]⟩] 73)).drew := ((Below.refl V.heap.size V).alloc (Nat.le_refl _) _).drew
          have hZ := (Whole.made V 73 #[.int .i64 0, .int .i64 0, .string ⟨#[]⟩]).drawn1
          refine hK.out _ _ ⟨HC.out _ hb1, ?_⟩
          clear hK K
          try simp only [Act.put, List.setIfInBounds_toArray, List.set_cons_zero, List.set_cons_succ]
          refine wpAnyC_one (j := 5) (by kernel_rfl) rfl (fun K hK => ?_)
          go_simp
          go_at_call 65
          refine (rfind_any wd A gs.length c ot gs x _ (HG.out.below (hS1.out.later (hb1)).below) hn).mono ?_
          rw [HF.out]
          rintro e v2 ⟨rfl, kk⟩
          have hZ := hZ.here kk
          have rdZ := hZ.reads
          have ftZ := hZ.thawed
          have lZ := hZ.lt
          have hb2 : Below V.heap.size V v2 := (hb1).trans (kk.mono (hb1).size)
          clear kk
          have hS := HC.out v2 hb2
          go_wp2_with fail
          refine hK.out _ _ ⟨hS, ?_⟩
          clear hK K
          try simp only [Act.put, List.setIfInBounds_toArray, List.set_cons_zero, List.set_cons_succ]
          refine wpAnyC_one (j := 7) (by kernel_rfl) rfl (fun K hK => ?_)
          go_simp
          refine hK.out _ _ ⟨HC.out _ (((hb2.setCell (p := ⟨V.heap.size, 0, none⟩) (Nat.le_refl _) (.int .i64 g.code)).setCell (p := ⟨V.heap.size, 1, none⟩) (Nat.le_refl _) (.int .i64 g.width)).setCell (p := ⟨V.heap.size, 2, none⟩) (Nat.le_refl _) (.string g.text)), ?_⟩
          clear hK K
          try simp only [Act.put, List.setIfInBounds_toArray, List.set_cons_zero, List.set_cons_succ]
          have HY := Lib.hid (And.intro (hS1.out.later (((hb2.setCell (p := ⟨V.heap.size, 0, none⟩) (Nat.le_refl _) (.int .i64 g.code)).setCell (p := ⟨V.heap.size, 1, none⟩) (Nat.le_refl _) (.int .i64 g.width)).setCell (p := ⟨V.heap.size, 2, none⟩) (Nat.le_refl _) (.string g.text))) (((hZ.set 0 (.int .i64 g.code)).set 1 (.int .i64 g.width)).set 2 (.string g.text)))
          clear HC hS hb2
          generalize ((v2.setCell ⟨V.heap.size, 0, none⟩ (.int .i64 g.code)).setCell ⟨V.heap.size, 1, none⟩ (.int .i64 g.width)).setCell ⟨V.heap.size, 2, none⟩ (.string g.text) = Y at *
          refine wpAnyC_done (by kernel_rfl) ?_ _
          clear hZ rdZ ftZ lZ hb1
          generalize V.heap.size = Q at *
          clear hS1
          have hG : Whole Y Q 73 #[.int .i64 g.code, .int .i64 g.width, .string g.text] := HY.out.2
          obtain ⟨f0, f1, f2⟩ := HY.out.1.f.cells
          have g0 : Y.cell? ⟨Q, 0, none⟩ = some (.int .i64 g.code) := hG.reads 0
          have lF := Whole.lt HY.out.1.f
          have lQ := hG.lt
          go_wp2_with fail
          clear f0 f1 f2 g0 lF lQ hG
          go_loopw [9, 10] (fun s9 s10 wx => ∃ i : Nat, i ≤ gs.length ∧ s10 = .int .i64 i ∧ s9 = .bool (decide (0 < ot) || (hitG (gs.take i) x).isSome) ∧ Hid (RcSt w wx P wd A gs.length c ot (cutG wd ot gs (keep.take k)) ∧ Whole wx Q 73 #[.int .i64 g.code, .int .i64 g.width, .string g.text])) (fun _ s10 _ => gs.length - (intOf s10).toNat)
          case atStart => exact ⟨0, by omega, rfl, by rw [List.take_zero]; show _ = Value.bool (_ || false); rw [Bool.or_false], HY⟩
          case round =>
            clear HY
            obtain ⟨i, hi, rfl, rfl, hJ⟩ := hrel
            obtain ⟨f0, f1, f2⟩ := hJ.out.1.f.cells
            have lF := Whole.lt hJ.out.1.f
            obtain ⟨g0, g1, g2⟩ := gl_cells hJ.out.2
            have lQ := hJ.out.2.lt
            by_cases hli : i < gs.length
            · obtain ⟨q, hq⟩ : ∃ q, gs[i]? = some q := ⟨_, List.getElem?_eq_getElem hli⟩
              obtain ⟨R3, o3, rfl, hR3, hc3⟩ := (HG.out.below hJ.out.1.below).at_ (by omega)
              obtain ⟨q0, -, -⟩ := hc3 i q hq
              have HH := Lib.hid (hit_take hq (x := x))
              have d3 : decide ((i : Int) < (gs.length : Int)) = true := by simp; omega
              have d4 : decide (i < gs.length) = true := by simp; omega
              clear hq hc3
              obtain ⟨b, hb⟩ : ∃ b, (decide (0 < ot) || (hitG (gs.take i) x).isSome) = b := ⟨_, rfl⟩
              rw [hb]
              have HBb := Lib.hid hb
              clear hb
              cases b with
              | true =>
                go_wp2_with fail
                go_quiet (fail)
                go_wp2_with fail
                go_roundw
                case rel => exact ⟨i + 1, by omega, by go_num, by rw [HH.out, ← Bool.or_assoc, HBb.out, Bool.true_or], Lib.hid ⟨hJ.out.1.later (below_drewN (Below.refl _ _) _), Whole.drawn hJ.out.2 _⟩⟩
                case measure => simp [intOf]; omega
              | false =>
                by_cases he : q.code = g.code
                · have d5 : (q.code == g.code) = true := by simp; omega
                  have HE := Lib.hid (show (q.code == x) = true by rw [← HGC.out]; exact d5)
                  go_wp2_with fail
                  go_quiet (fail)
                  go_wp2_with fail
                  go_roundw
                  case rel => exact ⟨i + 1, by omega, by go_num, by rw [HH.out, ← Bool.or_assoc, HBb.out, HE.out]; rfl, Lib.hid ⟨hJ.out.1.later (below_drewN (Below.refl _ _) _), Whole.drawn hJ.out.2 _⟩⟩
                  case measure => simp [intOf]; omega
                · have d5 : (q.code == g.code) = false := by simp; omega
                  have HE := Lib.hid (show (q.code == x) = false by rw [← HGC.out]; exact d5)
                  go_wp2_with fail
                  go_quiet (fail)
                  go_wp2_with fail
                  go_roundw
                  case rel => exact ⟨i + 1, by omega, by go_num, by rw [HH.out, ← Bool.or_assoc, HBb.out, HE.out]; rfl, Lib.hid ⟨hJ.out.1.later (below_drewN (Below.refl _ _) _), Whole.drawn hJ.out.2 _⟩⟩
                  case measure => simp [intOf]; omega
            · obtain rfl : i = gs.length := by omega
              have d3 : decide ((gs.length : Int) < (gs.length : Int)) = false := by simp
              have d4 : decide (gs.length < gs.length) = false := by simp
              rw [List.take_length]
              obtain ⟨b, hb⟩ : ∃ b, (decide (0 < ot) || (hitG gs x).isSome) = b := ⟨_, rfl⟩
              rw [hb]
              have HBb := Lib.hid hb
              clear hb
              obtain ⟨A', c', hP, hGl, -⟩ := hJ.out.1.o
              have hLn : (cutG wd ot gs (keep.take k)).length ≤ 1000000 := by have := cut_len (wd := wd) (ot := ot) (gs := gs) (keep := keep.take k); simp at this; omega
              have HL := Lib.hid (And.intro hGl (And.intro hLn hP))
              obtain ⟨p0, p1, p2⟩ := FB.cells hP
              have lP := hP.lt
              clear hGl hLn hP
              go_wp2_with fail
              refine (insert_any A' _ c' _ g _ HL.out.1 HL.out.2.1 hgt).mono ?_
              rintro e v3 ⟨hb3, h3⟩
              have hst := Lib.hid (hJ.out.1.later hb3)
              rw [HGC.out] at h3
              cases hh : (hitG (cutG wd ot gs (keep.take k)) x).isSome with
              | true =>
                have HHh := Lib.hid hh
                rw [hh, if_pos rfl] at h3
                subst h3
                clear hh hb3
                cases b
                all_goals
                  go_wp2_with fail
                  go_roundw
                  case rel => exact ⟨k + 1, by omega, by go_num, Lib.hid (by rw [HT.out, cut_ref_step HCB.out, HHh.out, if_neg (by simp)]; exact hst.out)⟩
                  case measure => simp [intOf]; omega
              | false =>
                have HHh := Lib.hid hh
                rw [hh, if_neg (by simp)] at h3
                obtain ⟨A3, c3, rfl, hg3, hl3⟩ := h3
                have H3 := Lib.hid (And.intro hg3 (And.intro hl3 hb3))
                have hP3 := HL.out.2.2.here hb3
                have rd3 := hP3.reads
                have ft3 := hP3.thawed
                have lP3 := hP3.lt
                clear hh hb3 hg3 hl3 hP3 p0 p1 p2 lP g0 g1 g2 f0 f1 f2 lF lQ
                cases b with
                | false =>
                  go_wp2_with fail
                  go_roundw
                  case rel => exact ⟨k + 1, by omega, by go_num, Lib.hid (by rw [HT.out, cut_ref_step HCB.out, HBb.out, if_neg (by simp)]; exact hst.out)⟩
                  case measure => simp [intOf]; omega
                | true =>
                  go_wp2_with fail
                  go_roundw
                  case rel => exact ⟨k + 1, by omega, by go_num, Lib.hid (by rw [HT.out, cut_ref_step HCB.out, HBb.out, HHh.out, if_pos (show (true && !false) = true from rfl), HF.out]; exact hJ.out.1.put H3.out.2.2 H3.out.1 H3.out.2.1)⟩
                  case measure => simp [intOf]; omega
    · obtain rfl : k = keep.length := by omega
      have d1 : decide ((keep.length : Int) < (keep.length : Int)) = false := by simp
      have d2 : decide (keep.length < keep.length) = false := by simp
      rw [List.take_length] at hS0
      obtain ⟨A', c', hP, hGl, hlow⟩ := hS0.out.o
      obtain ⟨p0, p1, p2⟩ := FB.cells hP
      have lP := hP.lt
      have rd := hS0.out.r.reads
      have ft := hS0.out.r.thawed
      have lR := hS0.out.r.lt
      have HL := Lib.hid (And.intro ((((hGl.set hlow ⟨w.heap.size + 1, 0, none⟩ hS0.out.lo (.bool wd)).set hlow ⟨w.heap.size + 1, 1, none⟩ hS0.out.lo (.slice A' (cutG wd ot gs keep).length c')).set hlow ⟨w.heap.size + 1, 2, none⟩ hS0.out.lo (.int .i64 0))) hS0.out.below)
      have HLW := Lib.hid hlow
      clear hGl hP hlow
      go_wp2_with fail
      refine bodyPost_ret (v := .tuple #[.agg #[.bool wd, .slice A' (cutG wd ot gs keep).length c', .int .i64 0], .int .i64 0]) (by simp [results, Tryz.results34, go_sem, rd]) rfl ⟨A', _, c', rfl, HL.out.1, ?_, fun R o e => by have h1 := HLW.out R o e; have h2 := hS0.out.lo; omega⟩
      (repeat (first | with_reducible refine Below.drew ?_ | with_reducible refine bdrewN ?_ _ | (with_reducible refine Below.setCell ?_ ?_ _; rotate_left; focus (first | exact Nat.le_refl _ | omega | (simp; omega) | (simp; done))) | (with_reducible refine Below.alloc ?_ ?_ _; rotate_left; focus (first | exact Nat.le_refl _ | omega | (simp; omega) | (simp; done))))); with_reducible exact HL.out.2
end Go.Proofs.YtdlmhienolmncaaGreat
