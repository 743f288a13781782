/- Small calls of ascii. -/
import Derived.Test.YtbbckpdpahkfkaaAscMath
import Derived.Test.YtbbckpdpahkfkaaByteStr
import Derived.Test.YtbbckpdpahkfkaaLaidGen
import Derived.Laws.RangeString
import Derived.Laws.RangeAny
import Derived.Laws.Strings
import Derived.Laws.Strings2
import Derived.Laws.Strings3
import Derived.Laws.Concat
import Derived.IntWalk
import Derived.Deep.CutRange
import Derived.Deep.RegionWith
import Derived.BigQuiet
import Derived.Deep.QuietTactic
namespace Go.Proofs.Ytbbckpdpahkfkaa
open Go.RowKit

theorem space_any (c : Nat) (w : World) :
    Calls Try.prog 27 #[.int .i32 c] w fun e w' => e = .returned (.bool (isW c)) ∧ w = w' := by
  obtain ⟨b, hb⟩ : ∃ b, isW c = b := ⟨_, rfl⟩
  rw [hb]
  have k : (((c : Int) == 0) = true ∧ b = true) ∨ (((c : Int) == 0) = false ∧ ((c : Int) == 9) = true ∧ b = true) ∨ (((c : Int) == 0) = false ∧ ((c : Int) == 9) = false ∧ ((c : Int) == 10) = true ∧ b = true) ∨ (((c : Int) == 0) = false ∧ ((c : Int) == 9) = false ∧ ((c : Int) == 10) = false ∧ ((c : Int) == 12) = true ∧ b = true) ∨ (((c : Int) == 0) = false ∧ ((c : Int) == 9) = false ∧ ((c : Int) == 10) = false ∧ ((c : Int) == 12) = false ∧ ((c : Int) == 13) = true ∧ b = true) ∨ (((c : Int) == 0) = false ∧ ((c : Int) == 9) = false ∧ ((c : Int) == 10) = false ∧ ((c : Int) == 12) = false ∧ ((c : Int) == 13) = false ∧ ((c : Int) == 32) = true ∧ b = true) ∨ (((c : Int) == 0) = false ∧ ((c : Int) == 9) = false ∧ ((c : Int) == 10) = false ∧ ((c : Int) == 12) = false ∧ ((c : Int) == 13) = false ∧ ((c : Int) == 32) = false ∧ b = false) := by
    subst hb
    unfold isW
    simp only [beq_iff_eq, beq_eq_false_iff_ne, Bool.or_eq_true, Bool.or_eq_false_iff, ne_eq]
    omega
  clear hb
  rcases k with ⟨h1, rfl⟩ | ⟨h1, h2, rfl⟩ | ⟨h1, h2, h3, rfl⟩ | ⟨h1, h2, h3, h4, rfl⟩ | ⟨h1, h2, h3, h4, h5, rfl⟩ | ⟨h1, h2, h3, h4, h5, h6, rfl⟩ | ⟨h1, h2, h3, h4, h5, h6, rfl⟩
  all_goals
    go_enter Try.func27, Try.ntmps27
    go_wp2
    go_ret
    exact ⟨rfl, rfl⟩
theorem allowed_any (m : Int) (b : Bool) (w : World) (h : decide (0 ≤ m ∧ m ≤ 1048576) = b) :
    Calls Try.prog 22 #[.int .i64 m] w fun e w' => e = .returned (.bool b) ∧ w = w' := by
  have k : (decide (0 ≤ m) = true ∧ decide (m ≤ 1048576) = true ∧ b = true) ∨ (decide (0 ≤ m) = true ∧ decide (m ≤ 1048576) = false ∧ b = false) ∨ (decide (0 ≤ m) = false ∧ b = false) := by
    subst h
    simp only [decide_eq_true_eq, decide_eq_false_iff_not]
    omega
  clear h
  rcases k with ⟨h1, h2, rfl⟩ | ⟨h1, h2, rfl⟩ | ⟨h1, rfl⟩
  all_goals
    go_enter Try.func22, Try.ntmps22
    go_wp2
    go_ret
    exact ⟨rfl, rfl⟩
end Go.Proofs.Ytbbckpdpahkfkaa
