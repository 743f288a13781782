/- The plain mathematics of sums and products of decimals. No program stands in it. -/
import Derived.Test.YtmleoagdelgddaaDecMath
namespace Go.Proofs.Ytmleoagdelgddaa.Dec

/-- A valid decimal's number, times 10^9. -/
def val9 (m s : Int) : Int := m * p10 (9 - s.toNat)

theorem p10_add (a b : Nat) : p10 (a + b) = p10 a * p10 b := Int.pow_add 10 a b

theorem sum_scale (a b : Int) (sa sb ja jb t : Nat) (h1 : sa + ja = t) (h2 : sb + jb = t) (ht : t ≤ 9) :
    (a * p10 ja + b * p10 jb) * 10 ^ 9 = (a * p10 (9 - sa) + b * p10 (9 - sb)) * 10 ^ t := by
  show (a * p10 ja + b * p10 jb) * p10 9 = (a * p10 (9 - sa) + b * p10 (9 - sb)) * p10 t
  rw [Int.add_mul, Int.add_mul, Int.mul_assoc, Int.mul_assoc, Int.mul_assoc, Int.mul_assoc, ← p10_add, ← p10_add, ← p10_add, ← p10_add,
    show ja + 9 = 9 - sa + t by omega, show jb + 9 = 9 - sb + t by omega]

/-- A sum whose one part is too great at the other's scale can't be told. -/
theorem sum_over {a b : Int} {sa sb ja jb t : Nat} (hb : Valid b sb) (h1 : sa + ja = t) (h2 : sb + jb = t) (hmax : ja = 0 ∨ jb = 0) (ha : -999999999999999999 ≤ a ∧ a ≤ 999999999999999999)
    (hbig : 1999999999999999998 < (a.natAbs : Int) * p10 ja) : Denotes (a * p10 ja + b * p10 jb) t 0 0 5 := by
  have hja : ja ≠ 0 := by
    intro h; subst h; rw [p10_zero] at hbig; omega
  obtain ⟨j, rfl⟩ : ∃ j, ja = j + 1 := ⟨ja - 1, by omega⟩
  obtain rfl : jb = 0 := by omega
  obtain ⟨b1, b2, b3, b4, b5⟩ := hb
  have hx : b % 10 ≠ 0 := b5.resolve_left (by omega)
  have habs : (a * p10 (j + 1)).natAbs = a.natAbs * (p10 (j + 1)).natAbs := Int.natAbs_mul _ _
  have hp := p10_pos (j + 1)
  have habs2 : ((a * p10 (j + 1)).natAbs : Int) = (a.natAbs : Int) * p10 (j + 1) := by
    rw [habs, Int.natCast_mul, Int.natAbs_of_nonneg (a := p10 (j + 1)) (by omega)]
  rw [p10_zero, Int.mul_one]
  have e10 : a * p10 (j + 1) = (a * p10 j) * 10 := by rw [p10_succ, Int.mul_assoc]
  generalize hA : a * p10 (j + 1) = A at *
  refine .inr ⟨rfl, rfl, rfl, fun m' s' hv' e => ?_⟩
  obtain ⟨v1, v2, v3, v4, v5⟩ := hv'
  have en := congrArg Int.natAbs e
  rw [natAbs_mul10, natAbs_mul10] at en
  have c1 : s'.toNat = 0 ∨ m'.natAbs % 10 ≠ 0 := v5.elim (fun a => .inl (by omega)) (fun a => .inr ((mod10_abs m').1 a))
  have c2 : t = 0 ∨ (A + b).natAbs % 10 ≠ 0 := .inr ((mod10_abs _).1 (by omega))
  obtain ⟨x, y⟩ := canon _ _ _ _ en c1 c2
  omega

theorem den_comm {v v' : Int} {t : Nat} {m s e : Int} (h : Denotes v t m s e) (hv : v = v') : Denotes v' t m s e := hv ▸ h

end Go.Proofs.Ytmleoagdelgddaa.Dec
