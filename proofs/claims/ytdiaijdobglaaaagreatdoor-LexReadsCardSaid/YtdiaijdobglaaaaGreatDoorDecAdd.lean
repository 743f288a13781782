/- The walks of dec's widen, Add, Mul and Make. -/
import Derived.Test.YtdiaijdobglaaaaGreatDoorDecSettle
import Derived.Test.YtdiaijdobglaaaaGreatDoorDecSums
namespace Go.Proofs.YtdiaijdobglaaaaGreatDoor
open Go.RowKit Dec

theorem magnitude_eqd (m : Int) (w : World) (h0 : -4611686018427387904 ≤ m) (h1 : m ≤ 4611686018427387904) :
    Calls Tryz.prog 46 #[.int .i64 m] w fun e w' => e = .returned (.int .u64 (m.natAbs : Int)) ∧ w' = w :=
  (magnitude_any m w h0 h1).mono fun _ _ h => ⟨h.1, h.2.symm⟩

theorem widen_fits {m : Int} {j : Nat} (h : (m.natAbs : Int) * p10 j ≤ 1999999999999999998) : decide (1999999999999999998 / p10 j < (m.natAbs : Int)) = false := by
  have hp := p10_pos j
  rw [decide_eq_false_iff_not, Int.not_lt]
  exact (Int.le_ediv_iff_mul_le (by omega)).2 h
theorem widen_not {m : Int} {j : Nat} (h : 1999999999999999998 < (m.natAbs : Int) * p10 j) : decide (1999999999999999998 / p10 j < (m.natAbs : Int)) = true := by
  have hp := p10_pos j
  rw [decide_eq_true_iff, ← Int.not_le]
  exact fun h' => Int.not_lt.2 ((Int.le_ediv_iff_mul_le (by omega)).1 h') h
theorem abs_mul {m : Int} {j : Nat} (h : (m.natAbs : Int) * p10 j ≤ 1999999999999999998) : -1999999999999999998 ≤ m * p10 j ∧ m * p10 j ≤ 1999999999999999998 := by
  have hp := p10_pos j
  have e : ((m * p10 j).natAbs : Int) = (m.natAbs : Int) * p10 j := by
    rw [Int.natAbs_mul, Int.natCast_mul, Int.natAbs_of_nonneg (a := p10 j) (by omega)]
  omega

/-- ErrArg's answer. -/
def IsArg (w : World) (e : Ending) (w' : World) : Prop := e = .returned (.tuple #[.agg #[.int .i64 0, .int .i64 0], .int .i64 1]) ∧ Below w.heap.size w w'

end Go.Proofs.YtdiaijdobglaaaaGreatDoor

