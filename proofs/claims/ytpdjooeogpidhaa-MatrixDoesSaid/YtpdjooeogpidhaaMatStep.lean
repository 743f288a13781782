/- The walks of matrix's One, Step. -/
import Derived.Test.YtpdjooeogpidhaaMatMap
namespace Go.Proofs.Ytpdjooeogpidhaa
open Go.RowKit Dec

theorem one_any (w : World) :
    Calls Try.prog 14 #[] w fun e w' => e = .returned MV.one.val ∧ Below w.heap.size w w' := by
  go_enter Try.func14, Try.ntmps14
  go_wp2
  exact bodyPost_ret (v := MV.one.val) (by simp [results, Try.results14, go_sem, MV.one, DV.one, DV.zero]) rfl ⟨rfl, (Below.refl _ _).alloc (Nat.le_refl _) _⟩

/-- What Step answers. -/
def StepIs (x y : DV) (r : MV) (E : Int) : Prop := (x.Ok ∧ y.Ok ∧ r = ⟨.one, .zero, .zero, .one, x, y⟩ ∧ E = 0) ∨ (¬ (x.Ok ∧ y.Ok) ∧ r = .zero ∧ E = 1)
theorem step_any (x y : DV) (r : MV) (E : Int) (w : World) (h : StepIs x y r E) :
    Calls Try.prog 9 #[.agg #[.int .i64 x.m, .int .i64 x.s], .agg #[.int .i64 y.m, .int .i64 y.s]] w (IsM r E w) := by
  rcases h with ⟨hx, hy, rfl, rfl⟩ | ⟨h, rfl, rfl⟩
  · have H : Hid ((⟨x, y⟩ : PV).Ok) := ⟨hx, hy⟩
    clear hx hy
    go_enter Try.func9, Try.ntmps9
    go_wp2_with fail
    refine (two_any ⟨x, y⟩ _ _ 0 (.inl ⟨H.out, rfl⟩) _ (by simp)).mono ?_
    rintro e w1 ⟨rfl, hb⟩
    obtain ⟨hc, hf⟩ := bcell hb
    have hz := hb.size
    simp at hz
    have l0 : w.heap.size < w1.heap.size := by omega
    have l1 : w.heap.size + 1 < w1.heap.size := by omega
    have l2 : w.heap.size + 1 + 1 < w1.heap.size := by omega
    go_wp2_with fail
    refine (one_any _).mono ?_
    rintro e w2 ⟨rfl, hk⟩
    have hb := hb.trans (hk.mono hb.size)
    have B2 : Hid (Below w.heap.size w w2) := by
      refine Below.trans ?_ (hb.mono (by simp; omega))
      (repeat (first | with_reducible refine Below.drew ?_ | with_reducible refine bdrewN ?_ _ | (with_reducible refine Below.setCell ?_ ?_ _; rotate_left; focus (first | exact Nat.le_refl _ | omega | (simp; omega) | (simp; done))) | (with_reducible refine Below.alloc ?_ ?_ _; rotate_left; focus (first | exact Nat.le_refl _ | omega | (simp; omega) | (simp; done))))); with_reducible exact (Below.refl _ _)
    clear hc hf hz hk l0 l1 l2
    obtain ⟨hc, hf⟩ := bcell hb
    have hz := hb.size
    simp at hz
    have l0 : w.heap.size < w2.heap.size := by omega
    have l1 : w.heap.size + 1 < w2.heap.size := by omega
    have l2 : w.heap.size + 1 + 1 < w2.heap.size := by omega
    go_wp2
    go_region
    go_wp2
    refine bodyPost_ret (v := .tuple #[MV.val ⟨.one, .zero, .zero, .one, x, y⟩, .int .i64 0]) (by simp [results, Try.results9, go_sem, hc, l2, MV.one, DV.zero]) rfl ⟨rfl, ?_⟩
    (repeat (first | with_reducible refine Below.drew ?_ | with_reducible refine bdrewN ?_ _ | (with_reducible refine Below.setCell ?_ ?_ _; rotate_left; focus (first | exact Nat.le_refl _ | omega | (simp; omega) | (simp; done))) | (with_reducible refine Below.alloc ?_ ?_ _; rotate_left; focus (first | exact Nat.le_refl _ | omega | (simp; omega) | (simp; done))))); with_reducible exact B2.out
  · have H : Hid (¬ (⟨x, y⟩ : PV).Ok) := h
    clear h
    go_enter Try.func9, Try.ntmps9
    go_wp2_with fail
    refine (two_any ⟨x, y⟩ _ _ 1 (.inr ⟨H.out, rfl⟩) _ (by simp)).mono ?_
    rintro e w1 ⟨rfl, hb⟩
    obtain ⟨hc, hf⟩ := bcell hb
    have hz := hb.size
    simp at hz
    have l0 : w.heap.size < w1.heap.size := by omega
    have l1 : w.heap.size + 1 < w1.heap.size := by omega
    have l2 : w.heap.size + 1 + 1 < w1.heap.size := by omega
    have B1 : Hid (Below w.heap.size w w1) := by
      refine Below.trans ?_ (hb.mono (by simp; omega))
      (repeat (first | with_reducible refine Below.drew ?_ | with_reducible refine bdrewN ?_ _ | (with_reducible refine Below.setCell ?_ ?_ _; rotate_left; focus (first | exact Nat.le_refl _ | omega | (simp; omega) | (simp; done))) | (with_reducible refine Below.alloc ?_ ?_ _; rotate_left; focus (first | exact Nat.le_refl _ | omega | (simp; omega) | (simp; done))))); with_reducible exact (Below.refl _ _)
    go_wp2
    refine bodyPost_ret (v := .tuple #[MV.zero.val, .int .i64 1]) (by simp [results, Try.results9, go_sem, hc, MV.zero, DV.zero]) rfl ⟨rfl, ?_⟩
    (repeat (first | with_reducible refine Below.drew ?_ | with_reducible refine bdrewN ?_ _ | (with_reducible refine Below.setCell ?_ ?_ _; rotate_left; focus (first | exact Nat.le_refl _ | omega | (simp; omega) | (simp; done))) | (with_reducible refine Below.alloc ?_ ?_ _; rotate_left; focus (first | exact Nat.le_refl _ | omega | (simp; omega) | (simp; done))))); with_reducible exact B1.out

end Go.Proofs.Ytpdjooeogpidhaa
