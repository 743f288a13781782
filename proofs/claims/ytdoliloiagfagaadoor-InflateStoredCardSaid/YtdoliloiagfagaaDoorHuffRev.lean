/- huff's reverse. -/
import Derived.Test.YtdoliloiagfagaaDoorHuffCodesW
namespace Go.Proofs.YtdoliloiagfagaaDoor
open Go.RowKit

/-- The first i bits of a number, the lowest one first, read as a number whose highest is the first. -/
def revB (c : Nat) : Nat → Nat
  | 0 => 0
  | i + 1 => 2 * revB c i + c / 2 ^ i % 2
theorem revB_lt (c i : Nat) : revB c i < 2 ^ i := by
  induction i with
  | zero => simp [revB]
  | succ i ih => unfold revB; rw [Nat.pow_succ]; omega
theorem revB_le (c i : Nat) (h : i ≤ 15) : revB c i < 32768 := by
  have h1 := revB_lt c i
  have h2 : 2 ^ i ≤ 2 ^ 15 := Nat.pow_le_pow_right (by decide) h
  omega
theorem ofInt_i64 (a : Nat) (h : a < 9223372036854775808) : (BitVec.ofInt 64 (a : Int)).toNat = a := by
  rw [BitVec.ofInt_natCast, BitVec.toNat_ofNat]; exact Nat.mod_eq_of_lt (by omega)
theorem wrap_i64 (a : Nat) (h : a < 9223372036854775808) : IntKind.i64.wrap (a : Int) = a := by
  exact IntWalk.i64_in _ ⟨by omega, by omega⟩
theorem i64_or (a b : Nat) (ha : a < 9223372036854775808) (hb : b < 9223372036854775808) : bits .or .i64 (a : Int) (b : Int) = ((a ||| b : Nat) : Int) := by
  have hx : a ||| b < 2 ^ 63 := Nat.or_lt_two_pow (by omega) (by omega)
  show IntKind.i64.wrap ((BitVec.ofInt 64 (a : Int) ||| BitVec.ofInt 64 (b : Int)).toNat : Int) = _
  rw [BitVec.toNat_or, ofInt_i64 a ha, ofInt_i64 b hb, wrap_i64 _ (by omega)]
theorem i64_and (a b : Nat) (ha : a < 9223372036854775808) (hb : b < 9223372036854775808) : bits .and .i64 (a : Int) (b : Int) = ((a &&& b : Nat) : Int) := by
  have hx : a &&& b < 2 ^ 63 := Nat.and_lt_two_pow _ (by omega)
  show IntKind.i64.wrap ((BitVec.ofInt 64 (a : Int) &&& BitVec.ofInt 64 (b : Int)).toNat : Int) = _
  rw [BitVec.toNat_and, ofInt_i64 a ha, ofInt_i64 b hb, wrap_i64 _ (by omega)]
theorem int_div_pow (c i : Nat) : (c : Int) / 2 ^ i = ((c / 2 ^ i : Nat) : Int) := by push_cast; rfl
theorem rev_next (c i : Nat) : (c : Int) / 2 ^ i / 2 = ((c / 2 ^ (i + 1) : Nat) : Int) := by
  rw [int_div_pow, Nat.pow_succ, ← Nat.div_div_eq_div_mul]
  omega
theorem rev_bit (c i : Nat) (hc : c < 4611686018427387904) (hi : i < 15) : bits .or .i64 ((revB c i : Int) * 2) (bits .and .i64 ((c : Int) / 2 ^ i) 1) = (revB c (i + 1) : Int) := by
  have h1 := revB_le c i (by omega)
  have h2 : c / 2 ^ i ≤ c := Nat.div_le_self _ _
  rw [int_div_pow]
  have e1 : bits .and .i64 ((c / 2 ^ i : Nat) : Int) 1 = ((c / 2 ^ i % 2 : Nat) : Int) := by
    have := i64_and (c / 2 ^ i) 1 (by omega) (by omega)
    rw [Nat.and_one_is_mod] at this
    exact this
  have e2 : (revB c i : Int) * 2 = ((revB c i * 2 : Nat) : Int) := by push_cast; rfl
  rw [e1, e2, i64_or _ _ (by omega) (by omega)]
  have e3 := or_above (c / 2 ^ i % 2) (revB c i) 1 (by omega)
  rw [Nat.or_comm, show revB c i * 2 = revB c i * 2 ^ 1 from rfl, e3, Nat.pow_one]
  show ((c / 2 ^ i % 2 + revB c i * 2 : Nat) : Int) = ((2 * revB c i + c / 2 ^ i % 2 : Nat) : Int)
  rw [Nat.mul_comm, Nat.add_comm]
set_option maxHeartbeats 1000000 in
theorem reverse_any (c n : Nat) (w : World) (hc : c < 4611686018427387904) (hn : n ≤ 15) :
    Calls Tryd.prog 70 #[.int .i64 c, .int .i64 n] w fun e w' => e = .returned (.int .i64 (revB c n : Int)) ∧ w' = w := by
  go_enter Tryd.func70, Tryd.ntmps70
  go_wp2
  go_loopw [0, 5, 7] (fun x y z wr => ∃ i : Nat, i ≤ n ∧ z = .int .i64 i ∧ x = .int .i64 (c / 2 ^ i : Nat) ∧ y = .int .i64 (revB c i : Int) ∧ wr = w) (fun _ _ z _ => n - (intOf z).toNat)
  case atStart => exact ⟨0, by omega, rfl, by simp, by simp [revB], rfl⟩
  case round =>
    obtain ⟨i, hi, rfl, rfl, rfl, rfl⟩ := hrel
    by_cases hlt : i < n
    · have h1 := revB_le c i (by omega)
      have h2 : c / 2 ^ i ≤ c := Nat.div_le_self _ _
      go_wp2
      go_roundw
      case rel => exact ⟨i + 1, by omega, by go_num, congrArg (Value.int .i64) (rev_next c i), congrArg (Value.int .i64) (rev_bit c i hc (by omega)), trivial⟩
      case measure => simp [intOf]; omega
    · obtain rfl : i = n := by omega
      go_wp2
      go_ret
      exact ⟨rfl, rfl⟩
end Go.Proofs.YtdoliloiagfagaaDoor
