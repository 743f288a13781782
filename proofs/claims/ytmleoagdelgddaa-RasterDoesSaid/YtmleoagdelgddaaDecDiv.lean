/- The walk of math/bits.Div64 at the divisor 10. -/
import Derived.Test.YtmleoagdelgddaaDecWalkB
import Derived.Deep.QuietTactic
import Derived.BigQuiet
import Derived.Laws.Bits64b
namespace Go.Proofs.Ytmleoagdelgddaa
open Go.RowKit Dec

theorem bdrewN {B : Nat} {a w : World} (h : Below B a w) (n : Nat) : Below B a (w.drewN n) := h.trans ⟨rfl, rfl, rfl, Nat.le_refl _, fun _ _ => rfl⟩
theorem div64_low (lo : Nat) (w : World) (hlo : (lo : Int) ≤ 18446744073709551615) :
    Calls Try.prog 96 #[.int .u64 0, .int .u64 lo, .int .u64 10] w fun e w' => e = .returned (.tuple #[.int .u64 ((lo / 10 : Nat) : Int), .int .u64 ((lo % 10 : Nat) : Int)]) ∧ ∃ n, w' = w.drewN n := by
  go_enter Try.func96, Try.ntmps96
  go_wp2
  go_quiet (fail)
  go_wp2
  go_ret2
  exact ⟨rfl, _, rfl⟩

set_option maxRecDepth 100000 in
set_option maxHeartbeats 1000000 in
theorem div64_high (hi lo A V U Q R X P T F : Nat) (w : World) (h1 : 1 ≤ hi) (h2 : hi ≤ 9) (_hlo : (lo : Int) ≤ 18446744073709551615)
    (HL : Hid (∀ w, Calls Try.prog 97 #[.int .u64 10] w fun e w' => e = .returned (.int .i64 60) ∧ w = w'))
    (HOR : Hid (bits BinOp.or IntKind.u64 ((hi : Int) * 1152921504606846976) ((lo : Int) / 16) = A)) (_hA : (A : Int) < 11529215046068469760)
    (HV : Hid (IntKind.u64.wrap ((lo : Int) * 1152921504606846976) = V)) (_hV2 : (V : Int) ≤ 18446744073709551615) (HAND : Hid (bits BinOp.and IntKind.u64 V 4294967295 = 0)) (HAND1 : Hid (bits BinOp.and IntKind.u64 11529215046068469760 4294967295 = 0))
    (HU : Hid ((V : Int) / 4294967296 = U)) (hU : (U : Int) < 4294967296) (HQ : Hid (IntKind.u64.wrap ((A : Int).tdiv 2684354560) = Q)) (hQ : (Q : Int) < 4294967296) (HR : Hid (IntKind.u64.wrap ((A : Int) - IntKind.u64.wrap ((Q : Int) * 2684354560)) = R)) (hR : (R : Int) < 2684354560)
    (HX : Hid (IntKind.u64.wrap (IntKind.u64.wrap (IntKind.u64.wrap ((A : Int) * 4294967296) + (U : Int)) - IntKind.u64.wrap ((Q : Int) * 11529215046068469760)) = X)) (_hX : (X : Int) < 11529215046068469760)
    (HP : Hid (IntKind.u64.wrap ((X : Int).tdiv 2684354560) = P)) (hP : (P : Int) < 4294967296) (HT : Hid (IntKind.u64.wrap ((X : Int) - IntKind.u64.wrap ((P : Int) * 2684354560)) = T)) (hT : (T : Int) < 2684354560)
    (HF : Hid (IntKind.u64.wrap (IntKind.u64.wrap (IntKind.u64.wrap ((X : Int) * 4294967296)) - IntKind.u64.wrap ((P : Int) * 11529215046068469760)) / 1152921504606846976 = F)) :
    Calls Try.prog 96 #[.int .u64 hi, .int .u64 lo, .int .u64 10] w fun e w' => e = .returned (.tuple #[.int .u64 ((Q : Int) * 4294967296 + P), .int .u64 (F : Int)]) ∧ w' = w := by
  have h3 : ¬ (10 ≤ (hi : Int)) := by omega
  have h4 : ((hi : Int) == 0) = false := by rw [beq_eq_false_iff_ne]; omega
  have dQ : decide (4294967296 ≤ (Q : Int)) = false := by rw [decide_eq_false_iff_not]; omega
  have dR : decide (4294967296 * (R : Int) + (U : Int) < 0) = false := by rw [decide_eq_false_iff_not]; omega
  have dP : decide (4294967296 ≤ (P : Int)) = false := by rw [decide_eq_false_iff_not]; omega
  have dT : decide (4294967296 * (T : Int) < 0) = false := by rw [decide_eq_false_iff_not]; omega
  go_enter Try.func96, Try.ntmps96
  go_wp2_with fail
  refine (HL.out _).mono ?_; rintro e w1 ⟨rfl, rfl⟩
  go_wp2
  rw [HOR.out, HV.out, HAND.out, HAND1.out, HU.out, HQ.out, HR.out]
  clear HOR HV HAND HAND1 HU HQ HR
  refine wp_loop_rounds 1 ?_; rw [rounds_succ]
  go_wp2
  rw [HX.out, HP.out, HT.out]
  clear HX HP HT
  refine wp_loop_rounds 1 ?_; rw [rounds_succ]
  go_wp2
  rw [HF.out]
  go_ret2
  exact ⟨rfl, rfl⟩

theorem uw (x : Int) : IntKind.u64.wrap x = x % 18446744073709551616 := IntKind.wrap_u64 x

theorem or_disjoint (a b : Nat) (hb : b < 2 ^ 60) : a * 2 ^ 60 ||| b = a * 2 ^ 60 + b := by
  rw [Nat.mul_comm, ← Nat.two_pow_add_eq_or_of_lt hb]

theorem d_or (hi lo : Nat) (h2 : hi ≤ 9) (hlo : lo < 18446744073709551616) :
    bits BinOp.or IntKind.u64 ((hi : Int) * 1152921504606846976) ((lo : Int) / 16) = ((hi * 1152921504606846976 + lo / 16 : Nat) : Int) := by
  have h := bits_or_u64_nat (hi * 1152921504606846976) (lo / 16) (by omega) (by omega)
  have e := or_disjoint hi (lo / 16) (by omega)
  have e2 : (2 : Nat) ^ 60 = 1152921504606846976 := by decide
  rw [e2] at e
  rw [e] at h
  have c1 : ((hi * 1152921504606846976 : Nat) : Int) = (hi : Int) * 1152921504606846976 := by omega
  have c2 : ((lo / 16 : Nat) : Int) = (lo : Int) / 16 := by omega
  rw [c1, c2] at h
  exact h
theorem d_and (x : Nat) (hx : x < 16) : bits BinOp.and IntKind.u64 ((x * 1152921504606846976 : Nat) : Int) 4294967295 = 0 := by
  have h := bits_and_u64_nat (x * 1152921504606846976) 4294967295 (by omega) (by omega)
  have e : (x * 1152921504606846976) &&& 4294967295 = (x * 1152921504606846976) % 4294967296 := Nat.and_two_pow_sub_one_eq_mod _ 32
  rw [e, show (x * 1152921504606846976) % 4294967296 = 0 by omega] at h
  exact h
theorem d_and1 : bits BinOp.and IntKind.u64 11529215046068469760 4294967295 = 0 := d_and 10 (by omega)
theorem d_tdiv (a d : Nat) (h : d < 18446744073709551616) : IntKind.u64.wrap ((d : Int).tdiv a) = ((d / a : Nat) : Int) := by
  have := Nat.div_le_self d a
  rw [Int.tdiv_eq_ediv_of_nonneg (by omega), uw, ← Int.natCast_ediv]
  generalize d / a = q at *
  omega
theorem d_sub (a d : Nat) (h : d < 18446744073709551616) : IntKind.u64.wrap ((d : Int) - IntKind.u64.wrap (((d / a : Nat) : Int) * a)) = ((d % a : Nat) : Int) := by
  have e := Nat.div_add_mod d a
  have l := Nat.div_mul_le_self d a
  have m := Nat.mod_le d a
  rw [Nat.mul_comm] at e
  rw [← Int.natCast_mul, uw, uw]
  generalize d / a * a = p at *
  generalize d % a = q at *
  omega
theorem d_X (Q R U : Nat) (hR : R < 2684354560) (hU : U < 4294967296) :
    IntKind.u64.wrap (IntKind.u64.wrap (IntKind.u64.wrap (((Q * 2684354560 + R : Nat) : Int) * 4294967296) + (U : Int)) - IntKind.u64.wrap ((Q : Int) * 11529215046068469760)) = ((R * 4294967296 + U : Nat) : Int) := by
  rw [uw, uw, uw, uw]; omega
theorem d_F (P T : Nat) (hT : T < 2684354560) :
    IntKind.u64.wrap (IntKind.u64.wrap (IntKind.u64.wrap (((P * 2684354560 + T : Nat) : Int) * 4294967296)) - IntKind.u64.wrap ((P : Int) * 11529215046068469760)) / 1152921504606846976 = ((T / 268435456 : Nat) : Int) := by
  rw [uw, uw, uw, uw]; omega
theorem d_V (lo : Nat) : IntKind.u64.wrap ((lo : Int) * 1152921504606846976) = ((lo % 16 * 1152921504606846976 : Nat) : Int) := by
  rw [uw]; omega
theorem d_U (x : Nat) : ((x * 1152921504606846976 : Nat) : Int) / 4294967296 = ((x * 268435456 : Nat) : Int) := by omega

theorem div64_any (hi lo : Nat) (w : World) (h2 : hi ≤ 9) (hlo : lo < 18446744073709551616)
    (HL : Hid (∀ w, Calls Try.prog 97 #[.int .u64 10] w fun e w' => e = .returned (.int .i64 60) ∧ w = w')) :
    Calls Try.prog 96 #[.int .u64 hi, .int .u64 lo, .int .u64 10] w fun e w' => e = .returned (.tuple #[.int .u64 (((hi * 18446744073709551616 + lo) / 10 : Nat) : Int), .int .u64 (((hi * 18446744073709551616 + lo) % 10 : Nat) : Int)]) ∧ ∃ n, w' = w.drewN n := by
  by_cases h0 : hi = 0
  · subst h0
    refine (div64_low lo w (by omega)).mono ?_
    rintro e w' ⟨rfl, hw⟩
    refine ⟨?_, hw⟩
    rw [Nat.zero_mul, Nat.zero_add]
  · obtain ⟨A, hA⟩ : ∃ A, A = hi * 1152921504606846976 + lo / 16 := ⟨_, rfl⟩
    obtain ⟨X, hX⟩ : ∃ X, X = A % 2684354560 * 4294967296 + lo % 16 * 268435456 := ⟨_, rfl⟩
    refine (div64_high hi lo A (lo % 16 * 1152921504606846976) (lo % 16 * 268435456) (A / 2684354560) (A % 2684354560) X (X / 2684354560) (X % 2684354560) (X % 2684354560 / 268435456) w (by omega) h2 (by omega) HL
      (by rw [hA]; exact d_or hi lo h2 hlo) (by omega) (d_V lo) (by omega) (d_and _ (by omega)) d_and1 (d_U _) (by omega) (d_tdiv 2684354560 A (by omega)) (by omega) (d_sub 2684354560 A (by omega)) (by omega)
      (by have := d_X (A / 2684354560) (A % 2684354560) (lo % 16 * 268435456) (by omega) (by omega); rw [Nat.div_add_mod'] at this; rw [hX]; exact this) (by omega)
      (d_tdiv 2684354560 X (by omega)) (by omega) (d_sub 2684354560 X (by omega)) (by omega)
      (by have := d_F (X / 2684354560) (X % 2684354560) (by omega); rw [Nat.div_add_mod'] at this; exact this)).mono ?_
    rintro e w' ⟨rfl, rfl⟩
    refine ⟨?_, 0, by simp [World.drewN_zero]⟩
    have e1 : ((A / 2684354560 : Nat) : Int) * 4294967296 + ((X / 2684354560 : Nat) : Int) = (((hi * 18446744073709551616 + lo) / 10 : Nat) : Int) := by omega
    have e2 : ((X % 2684354560 / 268435456 : Nat) : Int) = (((hi * 18446744073709551616 + lo) % 10 : Nat) : Int) := by omega
    rw [e1, e2]
end Go.Proofs.Ytmleoagdelgddaa
