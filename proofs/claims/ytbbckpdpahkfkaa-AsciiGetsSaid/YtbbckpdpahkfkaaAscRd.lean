/- ascii's reference: White, Digit. -/
import Derived.Test.YtbbckpdpahkfkaaAscRc
namespace Go.Proofs.Ytbbckpdpahkfkaa
open Go.RowKit

theorem white_ref (c : Nat) (w : World) :
    Calls Try.prog 26 #[.int .u8 c] w fun e w' => e = .returned (.bool (isW c)) ∧ w = w' := by
  obtain ⟨b, hb⟩ : ∃ b, isW c = b := ⟨_, rfl⟩
  rw [hb]
  have k : (((c : Int) == 0) = true ∧ b = true) ∨ (((c : Int) == 0) = false ∧ ((c : Int) == 9) = true ∧ b = true) ∨ (((c : Int) == 0) = false ∧ ((c : Int) == 9) = false ∧ ((c : Int) == 10) = true ∧ b = true) ∨ (((c : Int) == 0) = false ∧ ((c : Int) == 9) = false ∧ ((c : Int) == 10) = false ∧ ((c : Int) == 12) = true ∧ b = true) ∨ (((c : Int) == 0) = false ∧ ((c : Int) == 9) = false ∧ ((c : Int) == 10) = false ∧ ((c : Int) == 12) = false ∧ ((c : Int) == 13) = true ∧ b = true) ∨ (((c : Int) == 0) = false ∧ ((c : Int) == 9) = false ∧ ((c : Int) == 10) = false ∧ ((c : Int) == 12) = false ∧ ((c : Int) == 13) = false ∧ ((c : Int) == 32) = true ∧ b = true) ∨ (((c : Int) == 0) = false ∧ ((c : Int) == 9) = false ∧ ((c : Int) == 10) = false ∧ ((c : Int) == 12) = false ∧ ((c : Int) == 13) = false ∧ ((c : Int) == 32) = false ∧ b = false) := by
    subst hb
    unfold isW
    simp only [beq_iff_eq, beq_eq_false_iff_ne, Bool.or_eq_true, Bool.or_eq_false_iff, ne_eq]
    omega
  clear hb
  rcases k with ⟨h1, rfl⟩ | ⟨h1, h2, rfl⟩ | ⟨h1, h2, h3, rfl⟩ | ⟨h1, h2, h3, h4, rfl⟩ | ⟨h1, h2, h3, h4, h5, rfl⟩ | ⟨h1, h2, h3, h4, h5, h6, rfl⟩ | ⟨h1, h2, h3, h4, h5, h6, rfl⟩
  all_goals
    go_enter Try.func26, Try.ntmps26
    go_wp2
    go_ret
    exact ⟨rfl, rfl⟩
def digI (c : Nat) : Int := match digM c with
  | some d => (d : Int)
  | none => -1
theorem digit_ref (c : Nat) (w : World) (hc : c < 256) :
    Calls Try.prog 25 #[.int .u8 c] w fun e w' => e = .returned (.int .i64 (digI c)) ∧ w = w' := by
  obtain ⟨v, hv⟩ : ∃ v, digI c = v := ⟨_, rfl⟩
  rw [hv]
  have k : (decide ((48 : Int) ≤ c) = true ∧ decide ((c : Int) ≤ 57) = true ∧ v = (c : Int) - 48 ∧ IntKind.u8.wrap ((c : Int) - 48) = (c : Int) - 48) ∨
      (∃ b, (decide ((48 : Int) ≤ c) = b ∧ (b = false ∨ decide ((c : Int) ≤ 57) = false)) ∧
        ((decide ((65 : Int) ≤ c) = true ∧ decide ((c : Int) ≤ 70) = true ∧ v = (c : Int) - 65 + 10 ∧ IntKind.u8.wrap ((c : Int) - 65) = (c : Int) - 65) ∨
        (∃ b2, (decide ((65 : Int) ≤ c) = b2 ∧ (b2 = false ∨ decide ((c : Int) ≤ 70) = false)) ∧
          ((decide ((97 : Int) ≤ c) = true ∧ decide ((c : Int) ≤ 102) = true ∧ v = (c : Int) - 97 + 10 ∧ IntKind.u8.wrap ((c : Int) - 97) = (c : Int) - 97) ∨
          (∃ b3, (decide ((97 : Int) ≤ c) = b3 ∧ (b3 = false ∨ decide ((c : Int) ≤ 102) = false)) ∧ v = -1))))) := by
    have hw : ∀ x : Int, 0 ≤ x → x < 256 → IntKind.u8.wrap x = x := fun x h0 h1 => by show x % 256 = x; omega
    subst hv
    unfold digI digM
    by_cases h1 : 48 ≤ c ∧ c ≤ 57
    · left
      rw [if_pos h1]
      exact ⟨by simp; omega, by simp; omega, by show ((c - 48 : Nat) : Int) = _; omega, hw _ (by omega) (by omega)⟩
    · right
      refine ⟨_, ⟨rfl, by simp; omega⟩, ?_⟩
      rw [if_neg h1]
      by_cases h2 : 65 ≤ c ∧ c ≤ 70
      · left
        rw [if_pos h2]
        exact ⟨by simp; omega, by simp; omega, by show ((c - 65 + 10 : Nat) : Int) = _; omega, hw _ (by omega) (by omega)⟩
      · right
        refine ⟨_, ⟨rfl, by simp; omega⟩, ?_⟩
        rw [if_neg h2]
        by_cases h3 : 97 ≤ c ∧ c ≤ 102
        · left
          rw [if_pos h3]
          exact ⟨by simp; omega, by simp; omega, by show ((c - 97 + 10 : Nat) : Int) = _; omega, hw _ (by omega) (by omega)⟩
        · right
          refine ⟨_, ⟨rfl, by simp; omega⟩, ?_⟩
          rw [if_neg h3]
  clear hv
  rcases k with ⟨h1, h2, rfl, h3⟩ | ⟨b, ⟨h1, rfl | h2⟩, ⟨h3, h4, rfl, h5⟩ | ⟨b2, ⟨h3, rfl | h4⟩, ⟨h5, h6, rfl, h7⟩ | ⟨b3, ⟨h5, rfl | h6⟩, rfl⟩⟩⟩
  all_goals try cases b
  all_goals try cases b2
  all_goals try cases b3
  all_goals
    go_enter Try.func25, Try.ntmps25
    go_wp2
    go_ret
    exact ⟨rfl, rfl⟩
end Go.Proofs.Ytbbckpdpahkfkaa
