/- The walk of math/bits.Div64 at the divisor 10. -/
import Derived.Test.YtdiaijdobglaaaaGreatDoorDecWalkB
import Derived.Deep.QuietTactic
import Derived.BigQuiet
import Derived.Laws.Bits64b
namespace Go.Proofs.YtdiaijdobglaaaaGreatDoor
open Go.RowKit Dec

theorem bdrewNd {B : Nat} {a w : World} (h : Below B a w) (n : Nat) : Below B a (w.drewN n) := h.trans ⟨rfl, rfl, rfl, Nat.le_refl _, fun _ _ => rfl⟩
theorem uw (x : Int) : IntKind.u64.wrap x = x % 18446744073709551616 := IntKind.wrap_u64 x

theorem or_disjoint (a b : Nat) (hb : b < 2 ^ 60) : a * 2 ^ 60 ||| b = a * 2 ^ 60 + b := by
  rw [Nat.mul_comm, ← Nat.two_pow_add_eq_or_of_lt hb]

theorem d_or (hi lo : Nat) (h2 : hi ≤ 9) (hlo : lo < 18446744073709551616) :
    bits BinOp.or IntKind.u64 ((hi : Int) * 1152921504606846976) ((lo : Int) / 16) = ((hi * 1152921504606846976 + lo / 16 : Nat) : Int) := by
  have h := bits_or_u64_nat (hi * 1152921504606846976) (lo / 16) (by omega) (by omega)
  have e := or_disjoint hi (lo / 16) (by omega)
  have e2 : (2 : Nat) ^ 60 = 1152921504606846976 := by decide
  rw [e2] at e
  rw [e] at h
  have c1 : ((hi * 1152921504606846976 : Nat) : Int) = (hi : Int) * 1152921504606846976 := by omega
  have c2 : ((lo / 16 : Nat) : Int) = (lo : Int) / 16 := by omega
  rw [c1, c2] at h
  exact h
theorem d_and (x : Nat) (hx : x < 16) : bits BinOp.and IntKind.u64 ((x * 1152921504606846976 : Nat) : Int) 4294967295 = 0 := by
  have h := bits_and_u64_nat (x * 1152921504606846976) 4294967295 (by omega) (by omega)
  have e : (x * 1152921504606846976) &&& 4294967295 = (x * 1152921504606846976) % 4294967296 := Nat.and_two_pow_sub_one_eq_mod _ 32
  rw [e, show (x * 1152921504606846976) % 4294967296 = 0 by omega] at h
  exact h
theorem d_and1 : bits BinOp.and IntKind.u64 11529215046068469760 4294967295 = 0 := d_and 10 (by omega)
theorem d_tdiv (a d : Nat) (h : d < 18446744073709551616) : IntKind.u64.wrap ((d : Int).tdiv a) = ((d / a : Nat) : Int) := by
  have := Nat.div_le_self d a
  rw [Int.tdiv_eq_ediv_of_nonneg (by omega), uw, ← Int.natCast_ediv]
  generalize d / a = q at *
  omega
theorem d_sub (a d : Nat) (h : d < 18446744073709551616) : IntKind.u64.wrap ((d : Int) - IntKind.u64.wrap (((d / a : Nat) : Int) * a)) = ((d % a : Nat) : Int) := by
  have e := Nat.div_add_mod d a
  have l := Nat.div_mul_le_self d a
  have m := Nat.mod_le d a
  rw [Nat.mul_comm] at e
  rw [← Int.natCast_mul, uw, uw]
  generalize d / a * a = p at *
  generalize d % a = q at *
  omega
theorem d_X (Q R U : Nat) (hR : R < 2684354560) (hU : U < 4294967296) :
    IntKind.u64.wrap (IntKind.u64.wrap (IntKind.u64.wrap (((Q * 2684354560 + R : Nat) : Int) * 4294967296) + (U : Int)) - IntKind.u64.wrap ((Q : Int) * 11529215046068469760)) = ((R * 4294967296 + U : Nat) : Int) := by
  rw [uw, uw, uw, uw]; omega
theorem d_F (P T : Nat) (hT : T < 2684354560) :
    IntKind.u64.wrap (IntKind.u64.wrap (IntKind.u64.wrap (((P * 2684354560 + T : Nat) : Int) * 4294967296)) - IntKind.u64.wrap ((P : Int) * 11529215046068469760)) / 1152921504606846976 = ((T / 268435456 : Nat) : Int) := by
  rw [uw, uw, uw, uw]; omega
theorem d_V (lo : Nat) : IntKind.u64.wrap ((lo : Int) * 1152921504606846976) = ((lo % 16 * 1152921504606846976 : Nat) : Int) := by
  rw [uw]; omega
theorem d_U (x : Nat) : ((x * 1152921504606846976 : Nat) : Int) / 4294967296 = ((x * 268435456 : Nat) : Int) := by omega

end Go.Proofs.YtdiaijdobglaaaaGreatDoor

