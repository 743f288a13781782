/- The walks of box's atMost, Check, checkBoth, lesser, greater, Meets, cornersOf. -/
import Derived.Test.YtdlmhienolmncaaGreatBoxMath
import Derived.Test.YtdlmhienolmncaaGreatDecCmp
import Derived.Test.YtdlmhienolmncaaGreatMem
namespace Go.Proofs.YtdlmhienolmncaaGreat
open Go.RowKit Dec

theorem cell_later' {w w' : World} (hb : Below w.heap.size w w') {b o : Nat} {v : Value} (h : w.cell? ⟨b, o, none⟩ = some v) : w'.cell? ⟨b, o, none⟩ = some v :=
  (hb.cell (p := ⟨b, o, none⟩) (World.block_lt_of_cell? _ _ h)).trans h
theorem cmp_le (x y : Int) : (Lib.compareInt x y ≤ 0 ↔ x ≤ y) ∧ (0 ≤ Lib.compareInt x y ↔ y ≤ x) ∧ (0 < Lib.compareInt x y ↔ y < x) := by
  unfold Lib.compareInt
  split
  · omega
  · split <;> omega

/-- A decimal's two cells, a box's eight, as values. -/
abbrev BV.val (b : BV) : Value := .agg #[.int .i64 b.x0.m, .int .i64 b.x0.s, .int .i64 b.y0.m, .int .i64 b.y0.s, .int .i64 b.x1.m, .int .i64 b.x1.s, .int .i64 b.y1.m, .int .i64 b.y1.s]
/-- A box in a block of its own. -/
abbrev BIn (w : World) (B : Nat) (b : BV) : Prop := w.cell? ⟨B, 0, none⟩ = some (.int .i64 b.x0.m) ∧ w.cell? ⟨B, 1, none⟩ = some (.int .i64 b.x0.s) ∧ w.cell? ⟨B, 2, none⟩ = some (.int .i64 b.y0.m) ∧ w.cell? ⟨B, 3, none⟩ = some (.int .i64 b.y0.s) ∧ w.cell? ⟨B, 4, none⟩ = some (.int .i64 b.x1.m) ∧ w.cell? ⟨B, 5, none⟩ = some (.int .i64 b.x1.s) ∧ w.cell? ⟨B, 6, none⟩ = some (.int .i64 b.y1.m) ∧ w.cell? ⟨B, 7, none⟩ = some (.int .i64 b.y1.s)
theorem BIn.later {w w' : World} {B : Nat} {b : BV} (h : BIn w B b) (hb : Below w.heap.size w w') : BIn w' B b := by
  obtain ⟨a0, a1, a2, a3, a4, a5, a6, a7⟩ := h
  exact ⟨cell_later' hb a0, cell_later' hb a1, cell_later' hb a2, cell_later' hb a3, cell_later' hb a4, cell_later' hb a5, cell_later' hb a6, cell_later' hb a7⟩
theorem BIn.made (w : World) (T : TypeId) (b : BV) : BIn (w.alloc (.cells #[.int .i64 b.x0.m, .int .i64 b.x0.s, .int .i64 b.y0.m, .int .i64 b.y0.s, .int .i64 b.x1.m, .int .i64 b.x1.s, .int .i64 b.y1.m, .int .i64 b.y1.s] T)) w.heap.size b := by
  have h := Whole.made w T #[.int .i64 b.x0.m, .int .i64 b.x0.s, .int .i64 b.y0.m, .int .i64 b.y0.s, .int .i64 b.x1.m, .int .i64 b.x1.s, .int .i64 b.y1.m, .int .i64 b.y1.s]
  exact ⟨h.reads 0, h.reads 1, h.reads 2, h.reads 3, h.reads 4, h.reads 5, h.reads 6, h.reads 7⟩
theorem BIn.lt {w : World} {B : Nat} {b : BV} (h : BIn w B b) : B < w.heap.size := World.block_lt_of_cell? _ _ h.1
theorem BIn.old {w : World} {B : Nat} {b : BV} (h : BIn w B b) (o : Obj) : BIn (w.alloc o) B b := h.later ((Below.refl _ _).alloc (Nat.le_refl _) o)

/-- What Compare answers. -/
def CmpIs (a b : DV) (c E : Int) : Prop := (a.Ok ∧ b.Ok ∧ c = Lib.compareInt a.v b.v ∧ E = 0) ∨ (¬ (a.Ok ∧ b.Ok) ∧ c = 0 ∧ E = 1)
theorem compare_any (a b : DV) (w : World) (c E : Int) (h : CmpIs a b c E) :
    Calls Tryz.prog 80 #[.agg #[.int .i64 a.m, .int .i64 a.s], .agg #[.int .i64 b.m, .int .i64 b.s]] w fun e w' => e = .returned (.tuple #[.int .i64 c, .int .i64 E]) ∧ Below w.heap.size w w' := by
  rcases h with ⟨ha, hb, rfl, rfl⟩ | ⟨h, rfl, rfl⟩
  · exact cmp_ok _ _ _ _ w ha hb
  · exact cmp_bad _ _ _ _ w h

theorem atMost_bad (a b : DV) (w : World) (h : Hid (CmpIs a b 0 1)) :
    Calls Tryz.prog 48 #[.agg #[.int .i64 a.m, .int .i64 a.s], .agg #[.int .i64 b.m, .int .i64 b.s]] w fun e w' => e = .returned (.bool false) ∧ Below w.heap.size w w' := by
  go_enter Tryz.func48, Tryz.ntmps48
  go_wp2_with fail
  refine (compare_any a b _ 0 1 h.out).mono ?_
  rintro e w1 ⟨rfl, hb⟩
  go_wp2
  go_ret
  exact ⟨rfl, by (repeat (first | with_reducible exact Below.refl _ _ | with_reducible refine Below.drew ?_ | with_reducible refine bdrewN ?_ _ | (with_reducible refine Below.setCell ?_ ?_ _; rotate_left; focus (first | exact Nat.le_refl _ | omega | (simp; omega) | (simp; done))) | (with_reducible refine Below.alloc ?_ ?_ _; rotate_left; focus (first | exact Nat.le_refl _ | omega | (simp; omega) | (simp; done))) | (with_reducible refine Below.trans ?_ (Below.mono (by assumption) ?_); rotate_left; focus (first | exact Nat.le_refl _ | omega | (simp; omega) | (simp; done)))))⟩
theorem atMost_yes (a b : DV) (w : World) (c : Int) (h : Hid (CmpIs a b c 0)) (hc : c ≤ 0) :
    Calls Tryz.prog 48 #[.agg #[.int .i64 a.m, .int .i64 a.s], .agg #[.int .i64 b.m, .int .i64 b.s]] w fun e w' => e = .returned (.bool true) ∧ Below w.heap.size w w' := by
  go_enter Tryz.func48, Tryz.ntmps48
  go_wp2_with fail
  refine (compare_any a b _ c 0 h.out).mono ?_
  rintro e w1 ⟨rfl, hb⟩
  go_wp2
  go_ret
  exact ⟨by simp, by (repeat (first | with_reducible exact Below.refl _ _ | with_reducible refine Below.drew ?_ | with_reducible refine bdrewN ?_ _ | (with_reducible refine Below.setCell ?_ ?_ _; rotate_left; focus (first | exact Nat.le_refl _ | omega | (simp; omega) | (simp; done))) | (with_reducible refine Below.alloc ?_ ?_ _; rotate_left; focus (first | exact Nat.le_refl _ | omega | (simp; omega) | (simp; done))) | (with_reducible refine Below.trans ?_ (Below.mono (by assumption) ?_); rotate_left; focus (first | exact Nat.le_refl _ | omega | (simp; omega) | (simp; done)))))⟩
theorem atMost_no (a b : DV) (w : World) (c : Int) (h : Hid (CmpIs a b c 0)) (hc : 0 < c) :
    Calls Tryz.prog 48 #[.agg #[.int .i64 a.m, .int .i64 a.s], .agg #[.int .i64 b.m, .int .i64 b.s]] w fun e w' => e = .returned (.bool false) ∧ Below w.heap.size w w' := by
  go_enter Tryz.func48, Tryz.ntmps48
  go_wp2_with fail
  refine (compare_any a b _ c 0 h.out).mono ?_
  rintro e w1 ⟨rfl, hb⟩
  go_wp2
  go_ret
  exact ⟨by simp; exact hc, by (repeat (first | with_reducible exact Below.refl _ _ | with_reducible refine Below.drew ?_ | with_reducible refine bdrewN ?_ _ | (with_reducible refine Below.setCell ?_ ?_ _; rotate_left; focus (first | exact Nat.le_refl _ | omega | (simp; omega) | (simp; done))) | (with_reducible refine Below.alloc ?_ ?_ _; rotate_left; focus (first | exact Nat.le_refl _ | omega | (simp; omega) | (simp; done))) | (with_reducible refine Below.trans ?_ (Below.mono (by assumption) ?_); rotate_left; focus (first | exact Nat.le_refl _ | omega | (simp; omega) | (simp; done)))))⟩

theorem atMost_any (a b : DV) (w : World) (r : Bool) (h : leB a b = r) :
    Calls Tryz.prog 48 #[.agg #[.int .i64 a.m, .int .i64 a.s], .agg #[.int .i64 b.m, .int .i64 b.s]] w fun e w' => e = .returned (.bool r) ∧ Below w.heap.size w w' := by
  have k := cmp_le a.v b.v
  cases r with
  | true =>
    have hh := leB_iff.1 h
    exact atMost_yes a b w _ (.inl ⟨hh.1, hh.2.1, rfl, rfl⟩) (k.1.2 hh.2.2)
  | false =>
    have hh := leB_not.1 h
    by_cases ho : a.Ok ∧ b.Ok
    · exact atMost_no a b w _ (.inl ⟨ho.1, ho.2, rfl, rfl⟩) (k.2.2.2 (Int.lt_of_not_ge fun q => hh ⟨ho.1, ho.2, q⟩))
    · exact atMost_bad a b w (.inr ⟨ho, rfl, rfl⟩)

theorem lesser_any (a b : DV) (w : World) :
    Calls Tryz.prog 135 #[.agg #[.int .i64 a.m, .int .i64 a.s], .agg #[.int .i64 b.m, .int .i64 b.s]] w fun e w' => e = .returned (.agg #[.int .i64 (lesD a b).m, .int .i64 (lesD a b).s]) ∧ Below w.heap.size w w' := by
  cases h : leB a b
  · rw [lesD_no h]
    have H := Lib.hid h
    clear h
    go_enter Tryz.func135, Tryz.ntmps135
    go_wp2_with fail
    refine (atMost_any a b _ false H.out).mono ?_
    rintro e w1 ⟨rfl, hb⟩
    obtain ⟨hc, hf⟩ := bcell hb
    have hz := hb.size
    simp at hz
    have l0 : w.heap.size < w1.heap.size := (by omega); have l1 : w.heap.size + 1 < w1.heap.size := (by omega); have l2 : w.heap.size + 1 + 1 < w1.heap.size := (by omega)
    go_wp2
    exact bodyPost_ret (v := .agg #[.int .i64 b.m, .int .i64 b.s]) (by simp [results, Tryz.results135, go_sem, hc]) rfl ⟨rfl, by (repeat (first | with_reducible exact Below.refl _ _ | with_reducible refine Below.drew ?_ | with_reducible refine bdrewN ?_ _ | (with_reducible refine Below.setCell ?_ ?_ _; rotate_left; focus (first | exact Nat.le_refl _ | omega | (simp; omega) | (simp; done))) | (with_reducible refine Below.alloc ?_ ?_ _; rotate_left; focus (first | exact Nat.le_refl _ | omega | (simp; omega) | (simp; done))) | (with_reducible refine Below.trans ?_ (Below.mono (by assumption) ?_); rotate_left; focus (first | exact Nat.le_refl _ | omega | (simp; omega) | (simp; done)))))⟩
  · rw [lesD_yes h]
    have H := Lib.hid h
    clear h
    go_enter Tryz.func135, Tryz.ntmps135
    go_wp2_with fail
    refine (atMost_any a b _ true H.out).mono ?_
    rintro e w1 ⟨rfl, hb⟩
    obtain ⟨hc, hf⟩ := bcell hb
    have hz := hb.size
    simp at hz
    have l0 : w.heap.size < w1.heap.size := (by omega); have l1 : w.heap.size + 1 < w1.heap.size := (by omega); have l2 : w.heap.size + 1 + 1 < w1.heap.size := (by omega)
    go_wp2
    exact bodyPost_ret (v := .agg #[.int .i64 a.m, .int .i64 a.s]) (by simp [results, Tryz.results135, go_sem, hc]) rfl ⟨rfl, by (repeat (first | with_reducible exact Below.refl _ _ | with_reducible refine Below.drew ?_ | with_reducible refine bdrewN ?_ _ | (with_reducible refine Below.setCell ?_ ?_ _; rotate_left; focus (first | exact Nat.le_refl _ | omega | (simp; omega) | (simp; done))) | (with_reducible refine Below.alloc ?_ ?_ _; rotate_left; focus (first | exact Nat.le_refl _ | omega | (simp; omega) | (simp; done))) | (with_reducible refine Below.trans ?_ (Below.mono (by assumption) ?_); rotate_left; focus (first | exact Nat.le_refl _ | omega | (simp; omega) | (simp; done)))))⟩
theorem greater_any (a b : DV) (w : World) :
    Calls Tryz.prog 136 #[.agg #[.int .i64 a.m, .int .i64 a.s], .agg #[.int .i64 b.m, .int .i64 b.s]] w fun e w' => e = .returned (.agg #[.int .i64 (greD a b).m, .int .i64 (greD a b).s]) ∧ Below w.heap.size w w' := by
  cases h : leB a b
  · rw [greD_no h]
    have H := Lib.hid h
    clear h
    go_enter Tryz.func136, Tryz.ntmps136
    go_wp2_with fail
    refine (atMost_any a b _ false H.out).mono ?_
    rintro e w1 ⟨rfl, hb⟩
    obtain ⟨hc, hf⟩ := bcell hb
    have hz := hb.size
    simp at hz
    have l0 : w.heap.size < w1.heap.size := (by omega); have l1 : w.heap.size + 1 < w1.heap.size := (by omega); have l2 : w.heap.size + 1 + 1 < w1.heap.size := (by omega)
    go_wp2
    exact bodyPost_ret (v := .agg #[.int .i64 a.m, .int .i64 a.s]) (by simp [results, Tryz.results136, go_sem, hc]) rfl ⟨rfl, by (repeat (first | with_reducible exact Below.refl _ _ | with_reducible refine Below.drew ?_ | with_reducible refine bdrewN ?_ _ | (with_reducible refine Below.setCell ?_ ?_ _; rotate_left; focus (first | exact Nat.le_refl _ | omega | (simp; omega) | (simp; done))) | (with_reducible refine Below.alloc ?_ ?_ _; rotate_left; focus (first | exact Nat.le_refl _ | omega | (simp; omega) | (simp; done))) | (with_reducible refine Below.trans ?_ (Below.mono (by assumption) ?_); rotate_left; focus (first | exact Nat.le_refl _ | omega | (simp; omega) | (simp; done)))))⟩
  · rw [greD_yes h]
    have H := Lib.hid h
    clear h
    go_enter Tryz.func136, Tryz.ntmps136
    go_wp2_with fail
    refine (atMost_any a b _ true H.out).mono ?_
    rintro e w1 ⟨rfl, hb⟩
    obtain ⟨hc, hf⟩ := bcell hb
    have hz := hb.size
    simp at hz
    have l0 : w.heap.size < w1.heap.size := (by omega); have l1 : w.heap.size + 1 < w1.heap.size := (by omega); have l2 : w.heap.size + 1 + 1 < w1.heap.size := (by omega)
    go_wp2
    exact bodyPost_ret (v := .agg #[.int .i64 b.m, .int .i64 b.s]) (by simp [results, Tryz.results136, go_sem, hc]) rfl ⟨rfl, by (repeat (first | with_reducible exact Below.refl _ _ | with_reducible refine Below.drew ?_ | with_reducible refine bdrewN ?_ _ | (with_reducible refine Below.setCell ?_ ?_ _; rotate_left; focus (first | exact Nat.le_refl _ | omega | (simp; omega) | (simp; done))) | (with_reducible refine Below.alloc ?_ ?_ _; rotate_left; focus (first | exact Nat.le_refl _ | omega | (simp; omega) | (simp; done))) | (with_reducible refine Below.trans ?_ (Below.mono (by assumption) ?_); rotate_left; focus (first | exact Nat.le_refl _ | omega | (simp; omega) | (simp; done)))))⟩

/-- What Check answers of a box; what checkBoth answers. -/
def ChkIs (b : BV) (E : Int) : Prop := (b.Ok ∧ E = 0) ∨ (¬ b.Ok ∧ E = 1)
theorem bcheck_any (b : BV) (w : World) (E : Int) (h : ChkIs b E) :
    Calls Tryz.prog 23 #[b.val] w fun e w' => e = .returned (.int .i64 E) ∧ Below w.heap.size w w' := by
  cases hx : leB b.x0 b.x1
  · obtain rfl : E = 1 := by
      rcases h with ⟨h, -⟩ | ⟨-, h⟩
      · exact absurd (h.1.symm.trans hx) (by simp)
      · exact h
    have HX := Lib.hid hx
    clear hx h
    go_enter Tryz.func23, Tryz.ntmps23
    go_wp2_with fail
    refine (atMost_any b.x0 b.x1 _ false HX.out).mono ?_
    rintro e w1 ⟨rfl, hb⟩
    go_wp2
    go_ret
    exact ⟨rfl, by (repeat (first | with_reducible exact Below.refl _ _ | with_reducible refine Below.drew ?_ | with_reducible refine bdrewN ?_ _ | (with_reducible refine Below.setCell ?_ ?_ _; rotate_left; focus (first | exact Nat.le_refl _ | omega | (simp; omega) | (simp; done))) | (with_reducible refine Below.alloc ?_ ?_ _; rotate_left; focus (first | exact Nat.le_refl _ | omega | (simp; omega) | (simp; done))) | (with_reducible refine Below.trans ?_ (Below.mono (by assumption) ?_); rotate_left; focus (first | exact Nat.le_refl _ | omega | (simp; omega) | (simp; done)))))⟩
  · cases hy : leB b.y0 b.y1
    all_goals
      have HX := Lib.hid hx
      have HY := Lib.hid hy
      have HE := Lib.hid h
      clear hx hy h
      go_enter Tryz.func23, Tryz.ntmps23
      go_wp2_with fail
      refine (atMost_any b.x0 b.x1 _ true HX.out).mono ?_
      rintro e w1 ⟨rfl, hb⟩
      obtain ⟨hc, hf⟩ := bcell hb
      have hz := hb.size
      simp at hz
      have l0 : w.heap.size < w1.heap.size := (by omega)
      go_wp2_with fail
      refine (atMost_any b.y0 b.y1 _ _ HY.out).mono ?_
      rintro e w2 ⟨rfl, hb⟩
      go_wp2
      go_ret
      refine ⟨?_, by (repeat (first | with_reducible exact Below.refl _ _ | with_reducible refine Below.drew ?_ | with_reducible refine bdrewN ?_ _ | (with_reducible refine Below.setCell ?_ ?_ _; rotate_left; focus (first | exact Nat.le_refl _ | omega | (simp; omega) | (simp; done))) | (with_reducible refine Below.alloc ?_ ?_ _; rotate_left; focus (first | exact Nat.le_refl _ | omega | (simp; omega) | (simp; done))) | (with_reducible refine Below.trans ?_ (Below.mono (by assumption) ?_); rotate_left; focus (first | exact Nat.le_refl _ | omega | (simp; omega) | (simp; done)))))⟩
      rcases HE.out with ⟨h, rfl⟩ | ⟨h, rfl⟩
      first | rfl | exact absurd (h.2.symm.trans HY.out) (by simp)
      first | rfl | exact absurd ⟨HX.out, HY.out⟩ h
end Go.Proofs.YtdlmhienolmncaaGreat
