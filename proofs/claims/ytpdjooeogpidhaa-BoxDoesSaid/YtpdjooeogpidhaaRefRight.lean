/- The reference's Right and Neg: the walks. -/
import Derived.Test.YtpdjooeogpidhaaRefLess
import Derived.Test.YtpdjooeogpidhaaRefLift
namespace Go.Proofs.Ytpdjooeogpidhaa
open Go.RowKit Dec

theorem ret_bool {a b : Bool} (h : a = b) : Ending.returned (.bool a) = .returned (.bool b) := by rw [h]
theorem tm10 (m : Int) : m.tmod 10 = 0 ↔ m % 10 = 0 := by rw [← Int.dvd_iff_tmod_eq_zero, ← Int.dvd_iff_emod_eq_zero]

set_option maxRecDepth 100000 in
theorem right_any (m s : Int) (w : World) : Calls Try.prog 30 #[.agg #[.int .i64 m, .int .i64 s]] w fun e w' => e = .returned (.bool (decide (Valid m s))) ∧ Below w.heap.size w w' := by
  obtain ⟨B, hB⟩ : ∃ B, B = decide (Valid m s) := ⟨_, rfl⟩
  rw [← hB]
  have H := Lib.hid hB
  clear hB
  go_enter Try.func30, Try.ntmps30
  go_wp2
  all_goals go_ret
  all_goals refine ⟨?_, (Below.refl _ _).alloc (Nat.le_refl _) _⟩
  all_goals rw [H.out]
  all_goals refine ret_bool ?_
  all_goals rw [Bool.eq_iff_iff, decide_eq_true_iff]
  all_goals simp [Valid, tm10]
  all_goals omega

end Go.Proofs.Ytpdjooeogpidhaa
