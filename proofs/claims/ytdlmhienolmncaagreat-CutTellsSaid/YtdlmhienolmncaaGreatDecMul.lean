/- The walk of math/bits.Div64 at the divisor 10. -/
import Derived.Test.YtdlmhienolmncaaGreatDecWalkB
import Derived.Deep.QuietTactic
import Derived.BigQuiet
import Derived.Laws.Bits64b
import Derived.Test.YtdlmhienolmncaaGreatShelf
import Derived.Test.YtdlmhienolmncaaGreatDecVals
namespace Go.Proofs.YtdlmhienolmncaaGreat
open Go.RowKit Dec

theorem bdrewN {B : Nat} {a w : World} (h : Below B a w) (n : Nat) : Below B a (w.drewN n) := h.trans ⟨rfl, rfl, rfl, Nat.le_refl _, fun _ _ => rfl⟩
theorem uw (x : Int) : IntKind.u64.wrap x = x % 18446744073709551616 := IntKind.wrap_u64 x

theorem or_disjoint (a b : Nat) (hb : b < 2 ^ 60) : a * 2 ^ 60 ||| b = a * 2 ^ 60 + b := by
  rw [Nat.mul_comm, ← Nat.two_pow_add_eq_or_of_lt hb]

theorem d_or (hi lo : Nat) (h2 : hi ≤ 9) (hlo : lo < 18446744073709551616) :
    bits BinOp.or IntKind.u64 ((hi : Int) * 1152921504606846976) ((lo : Int) / 16) = ((hi * 1152921504606846976 + lo / 16 : Nat) : Int) := by
  have h := bits_or_u64_nat (hi * 1152921504606846976) (lo / 16) (by omega) (by omega)
  have e := or_disjoint hi (lo / 16) (by omega)
  have e2 : (2 : Nat) ^ 60 = 1152921504606846976 := by decide
  rw [e2] at e
  rw [e] at h
  have c1 : ((hi * 1152921504606846976 : Nat) : Int) = (hi : Int) * 1152921504606846976 := by omega
  have c2 : ((lo / 16 : Nat) : Int) = (lo : Int) / 16 := by omega
  rw [c1, c2] at h
  exact h
theorem d_and (x : Nat) (hx : x < 16) : bits BinOp.and IntKind.u64 ((x * 1152921504606846976 : Nat) : Int) 4294967295 = 0 := by
  have h := bits_and_u64_nat (x * 1152921504606846976) 4294967295 (by omega) (by omega)
  have e : (x * 1152921504606846976) &&& 4294967295 = (x * 1152921504606846976) % 4294967296 := Nat.and_two_pow_sub_one_eq_mod _ 32
  rw [e, show (x * 1152921504606846976) % 4294967296 = 0 by omega] at h
  exact h
theorem d_and1 : bits BinOp.and IntKind.u64 11529215046068469760 4294967295 = 0 := d_and 10 (by omega)
theorem d_tdiv (a d : Nat) (h : d < 18446744073709551616) : IntKind.u64.wrap ((d : Int).tdiv a) = ((d / a : Nat) : Int) := by
  have := Nat.div_le_self d a
  rw [Int.tdiv_eq_ediv_of_nonneg (by omega), uw, ← Int.natCast_ediv]
  generalize d / a = q at *
  omega
theorem d_sub (a d : Nat) (h : d < 18446744073709551616) : IntKind.u64.wrap ((d : Int) - IntKind.u64.wrap (((d / a : Nat) : Int) * a)) = ((d % a : Nat) : Int) := by
  have e := Nat.div_add_mod d a
  have l := Nat.div_mul_le_self d a
  have m := Nat.mod_le d a
  rw [Nat.mul_comm] at e
  rw [← Int.natCast_mul, uw, uw]
  generalize d / a * a = p at *
  generalize d % a = q at *
  omega
theorem d_X (Q R U : Nat) (hR : R < 2684354560) (hU : U < 4294967296) :
    IntKind.u64.wrap (IntKind.u64.wrap (IntKind.u64.wrap (((Q * 2684354560 + R : Nat) : Int) * 4294967296) + (U : Int)) - IntKind.u64.wrap ((Q : Int) * 11529215046068469760)) = ((R * 4294967296 + U : Nat) : Int) := by
  rw [uw, uw, uw, uw]; omega
theorem d_F (P T : Nat) (hT : T < 2684354560) :
    IntKind.u64.wrap (IntKind.u64.wrap (IntKind.u64.wrap (((P * 2684354560 + T : Nat) : Int) * 4294967296)) - IntKind.u64.wrap ((P : Int) * 11529215046068469760)) / 1152921504606846976 = ((T / 268435456 : Nat) : Int) := by
  rw [uw, uw, uw, uw]; omega
theorem d_V (lo : Nat) : IntKind.u64.wrap ((lo : Int) * 1152921504606846976) = ((lo % 16 * 1152921504606846976 : Nat) : Int) := by
  rw [uw]; omega
theorem d_U (x : Nat) : ((x * 1152921504606846976 : Nat) : Int) / 4294967296 = ((x * 268435456 : Nat) : Int) := by omega

end Go.Proofs.YtdlmhienolmncaaGreat

/- The walk of dec's settle: the noughts behind are struck (a loop over math/bits.Div64); the answer is the decimal of v / 10^s, or ErrOver. -/
namespace Go.Proofs.YtdlmhienolmncaaGreat
open Go.RowKit Dec

/-- What settle leaves: the decimal of v / 10^t as a value, or ErrOver. -/
def IsTold (v : Int) (t : Nat) (w : World) (e : Ending) (w' : World) : Prop :=
  ∃ M S E : Int, e = .returned (.tuple #[.agg #[.int .i64 M, .int .i64 S], .int .i64 E]) ∧ Denotes v t M S E ∧ Below w.heap.size w w'

theorem st_mod (H L : Nat) : (H * 18446744073709551616 + L) % 10 = (H % 10 * 18446744073709551616 + L) % 10 := by omega
theorem st_quo (H L : Nat) : (H * 18446744073709551616 + L) / 10 = H / 10 * 18446744073709551616 + (H % 10 * 18446744073709551616 + L) / 10 := by omega
theorem vint {k : IntKind} {a b : Int} (h : a = b) : Value.int k a = Value.int k b := by rw [h]
theorem leaf_ok {v m : Int} {s k H L hi lo : Nat} (hv : v.natAbs = hi * 18446744073709551616 + lo) (hst : strip s (hi * 18446744073709551616 + lo) = (H * 18446744073709551616 + L, k)) (hm : m.natAbs = L)
    (hsg : (v ≤ 0 ∧ m ≤ 0) ∨ (0 ≤ v ∧ 0 ≤ m)) (hH : H = 0) (hL : L ≤ 999999999999999999) (hk : k ≤ 9) : Denotes v s m k 0 := by
  refine den_strip hv ?_ hsg (by rw [hst]) (by omega) hk
  rw [hst, hH]; omega
theorem leaf_over {v : Int} {s k H L hi lo : Nat} (hv : v.natAbs = hi * 18446744073709551616 + lo) (hst : strip s (hi * 18446744073709551616 + lo) = (H * 18446744073709551616 + L, k)) (h : 0 < H ∨ 999999999999999999 < L ∨ 9 < k) : Denotes v s 0 0 5 := by
  refine den_over hv ?_
  rw [hst]
  show 999999999999999999 < H * 18446744073709551616 + L ∨ 9 < k
  omega
theorem below_cell {w : World} (T : Nat) (n : Nat) (x y : Value) : Below w.heap.size w ((((w.alloc (.cells #[.int .i64 0, .int .i64 0] T)).drewN n).setCell ⟨w.heap.size, 0, none⟩ x).setCell ⟨w.heap.size, 1, none⟩ y) :=
  ((bdrewN ((Below.refl _ _).alloc (Nat.le_refl _) _) n).setCell (Nat.le_refl _) _).setCell (Nat.le_refl _) _

end Go.Proofs.YtdlmhienolmncaaGreat

/- The walks of dec's widen, Add, Mul and Make. -/
namespace Go.Proofs.YtdlmhienolmncaaGreat
open Go.RowKit Dec

theorem widen_fits {m : Int} {j : Nat} (h : (m.natAbs : Int) * p10 j ≤ 1999999999999999998) : decide (1999999999999999998 / p10 j < (m.natAbs : Int)) = false := by
  have hp := p10_pos j
  rw [decide_eq_false_iff_not, Int.not_lt]
  exact (Int.le_ediv_iff_mul_le (by omega)).2 h
theorem widen_not {m : Int} {j : Nat} (h : 1999999999999999998 < (m.natAbs : Int) * p10 j) : decide (1999999999999999998 / p10 j < (m.natAbs : Int)) = true := by
  have hp := p10_pos j
  rw [decide_eq_true_iff, ← Int.not_le]
  exact fun h' => Int.not_lt.2 ((Int.le_ediv_iff_mul_le (by omega)).1 h') h
theorem abs_mul {m : Int} {j : Nat} (h : (m.natAbs : Int) * p10 j ≤ 1999999999999999998) : -1999999999999999998 ≤ m * p10 j ∧ m * p10 j ≤ 1999999999999999998 := by
  have hp := p10_pos j
  have e : ((m * p10 j).natAbs : Int) = (m.natAbs : Int) * p10 j := by
    rw [Int.natAbs_mul, Int.natCast_mul, Int.natAbs_of_nonneg (a := p10 j) (by omega)]
  omega

/-- ErrArg's answer. -/
def IsArg (w : World) (e : Ending) (w' : World) : Prop := e = .returned (.tuple #[.agg #[.int .i64 0, .int .i64 0], .int .i64 1]) ∧ Below w.heap.size w w'

end Go.Proofs.YtdlmhienolmncaaGreat

/- The walks of dec's Mul and Make. -/
namespace Go.Proofs.YtdlmhienolmncaaGreat
open Go.RowKit Dec

theorem sign_neg {m m' : Int} (h : (!(decide (m < 0) == decide (m' < 0))) = true) : m * m' ≤ 0 := by
  by_cases h1 : m < 0
  · by_cases h2 : m' < 0
    · simp [h1, h2] at h
    · exact Int.mul_nonpos_of_nonpos_of_nonneg (by omega) (by omega)
  · by_cases h2 : m' < 0
    · rw [Int.mul_comm]; exact Int.mul_nonpos_of_nonpos_of_nonneg (by omega) (by omega)
    · simp [h1, h2] at h
theorem sign_pos {m m' : Int} (h : (!(decide (m < 0) == decide (m' < 0))) = false) : 0 ≤ m * m' := by
  by_cases h1 : m < 0
  · by_cases h2 : m' < 0
    · exact Int.mul_nonneg_of_nonpos_of_nonpos (by omega) (by omega)
    · simp [h1, h2] at h
  · by_cases h2 : m' < 0
    · simp [h1, h2] at h
    · exact Int.mul_nonneg (by omega) (by omega)

theorem mul_scale (m m' : Int) (s s' : Nat) (h : s ≤ 9) (h' : s' ≤ 9) : m * m' * 10 ^ 18 = (m * p10 (9 - s)) * (m' * p10 (9 - s')) * 10 ^ (s + s') := by
  show m * m' * p10 18 = (m * p10 (9 - s)) * (m' * p10 (9 - s')) * p10 (s + s')
  rw [show (18 : Nat) = (9 - s) + (9 - s') + (s + s') by omega, p10_add, p10_add]
  generalize p10 (9 - s) = x
  generalize p10 (9 - s') = y
  generalize p10 (s + s') = z
  rw [← Int.mul_assoc, show m * m' * (x * y) = m * x * (m' * y) by rw [Int.mul_assoc, Int.mul_assoc, ← Int.mul_assoc m', Int.mul_comm m' x, Int.mul_assoc]]

end Go.Proofs.YtdlmhienolmncaaGreat

