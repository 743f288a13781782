/- The walks of dec's Mul and Make. -/
import Derived.Test.YtdiaijdobglaaaaGreatDoorDecAdd
namespace Go.Proofs.YtdiaijdobglaaaaGreatDoor
open Go.RowKit Dec

theorem sign_neg {m m' : Int} (h : (!(decide (m < 0) == decide (m' < 0))) = true) : m * m' ≤ 0 := by
  by_cases h1 : m < 0
  · by_cases h2 : m' < 0
    · simp [h1, h2] at h
    · exact Int.mul_nonpos_of_nonpos_of_nonneg (by omega) (by omega)
  · by_cases h2 : m' < 0
    · rw [Int.mul_comm]; exact Int.mul_nonpos_of_nonpos_of_nonneg (by omega) (by omega)
    · simp [h1, h2] at h
theorem sign_pos {m m' : Int} (h : (!(decide (m < 0) == decide (m' < 0))) = false) : 0 ≤ m * m' := by
  by_cases h1 : m < 0
  · by_cases h2 : m' < 0
    · exact Int.mul_nonneg_of_nonpos_of_nonpos (by omega) (by omega)
    · simp [h1, h2] at h
  · by_cases h2 : m' < 0
    · simp [h1, h2] at h
    · exact Int.mul_nonneg (by omega) (by omega)

theorem mul_scale (m m' : Int) (s s' : Nat) (h : s ≤ 9) (h' : s' ≤ 9) : m * m' * 10 ^ 18 = (m * p10 (9 - s)) * (m' * p10 (9 - s')) * 10 ^ (s + s') := by
  show m * m' * p10 18 = (m * p10 (9 - s)) * (m' * p10 (9 - s')) * p10 (s + s')
  rw [show (18 : Nat) = (9 - s) + (9 - s') + (s + s') by omega, p10_add, p10_add]
  generalize p10 (9 - s) = x
  generalize p10 (9 - s') = y
  generalize p10 (s + s') = z
  rw [← Int.mul_assoc, show m * m' * (x * y) = m * x * (m' * y) by rw [Int.mul_assoc, Int.mul_assoc, ← Int.mul_assoc m', Int.mul_comm m' x, Int.mul_assoc]]

end Go.Proofs.YtdiaijdobglaaaaGreatDoor

