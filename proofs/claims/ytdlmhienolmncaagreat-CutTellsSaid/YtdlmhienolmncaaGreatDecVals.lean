/- The plain mathematics of sums and products of decimals. No program stands in it. -/
import Derived.Test.YtdlmhienolmncaaGreatDecMath
namespace Go.Proofs.YtdlmhienolmncaaGreat.Dec

/-- A valid decimal's number, times 10^9. -/
def val9 (m s : Int) : Int := m * p10 (9 - s.toNat)

theorem p10_add (a b : Nat) : p10 (a + b) = p10 a * p10 b := Int.pow_add 10 a b

theorem sum_scale (a b : Int) (sa sb ja jb t : Nat) (h1 : sa + ja = t) (h2 : sb + jb = t) (ht : t ≤ 9) :
    (a * p10 ja + b * p10 jb) * 10 ^ 9 = (a * p10 (9 - sa) + b * p10 (9 - sb)) * 10 ^ t := by
  show (a * p10 ja + b * p10 jb) * p10 9 = (a * p10 (9 - sa) + b * p10 (9 - sb)) * p10 t
  rw [Int.add_mul, Int.add_mul, Int.mul_assoc, Int.mul_assoc, Int.mul_assoc, Int.mul_assoc, ← p10_add, ← p10_add, ← p10_add, ← p10_add,
    show ja + 9 = 9 - sa + t by omega, show jb + 9 = 9 - sb + t by omega]

/-- A sum whose one part is too great at the other's scale can't be told. -/
theorem sum_over {a b : Int} {sa sb ja jb t : Nat} (hb : Valid b sb) (h1 : sa + ja = t) (h2 : sb + jb = t) (hmax : ja = 0 ∨ jb = 0) (ha : -999999999999999999 ≤ a ∧ a ≤ 999999999999999999)
    (hbig : 1999999999999999998 < (a.natAbs : Int) * p10 ja) : Denotes (a * p10 ja + b * p10 jb) t 0 0 5 := by
  have hja : ja ≠ 0 := by
    intro h; subst h; rw [p10_zero] at hbig; omega
  obtain ⟨j, rfl⟩ : ∃ j, ja = j + 1 := ⟨ja - 1, by omega⟩
  obtain rfl : jb = 0 := by omega
  obtain ⟨b1, b2, b3, b4, b5⟩ := hb
  have hx : b % 10 ≠ 0 := b5.resolve_left (by omega)
  have habs : (a * p10 (j + 1)).natAbs = a.natAbs * (p10 (j + 1)).natAbs := Int.natAbs_mul _ _
  have hp := p10_pos (j + 1)
  have habs2 : ((a * p10 (j + 1)).natAbs : Int) = (a.natAbs : Int) * p10 (j + 1) := by
    rw [habs, Int.natCast_mul, Int.natAbs_of_nonneg (a := p10 (j + 1)) (by omega)]
  rw [p10_zero, Int.mul_one]
  have e10 : a * p10 (j + 1) = (a * p10 j) * 10 := by rw [p10_succ, Int.mul_assoc]
  generalize hA : a * p10 (j + 1) = A at *
  refine .inr ⟨rfl, rfl, rfl, fun m' s' hv' e => ?_⟩
  obtain ⟨v1, v2, v3, v4, v5⟩ := hv'
  have en := congrArg Int.natAbs e
  rw [natAbs_mul10, natAbs_mul10] at en
  have c1 : s'.toNat = 0 ∨ m'.natAbs % 10 ≠ 0 := v5.elim (fun a => .inl (by omega)) (fun a => .inr ((mod10_abs m').1 a))
  have c2 : t = 0 ∨ (A + b).natAbs % 10 ≠ 0 := .inr ((mod10_abs _).1 (by omega))
  obtain ⟨x, y⟩ := canon _ _ _ _ en c1 c2
  omega

theorem den_comm {v v' : Int} {t : Nat} {m s e : Int} (h : Denotes v t m s e) (hv : v = v') : Denotes v' t m s e := hv ▸ h

end Go.Proofs.YtdlmhienolmncaaGreat.Dec
/- Plain facts of decimals' values. No program stands in it. -/
namespace Go.Proofs.YtdlmhienolmncaaGreat
open Go.RowKit Dec

theorem Denotes_valid {v : Int} {t : Nat} {m s e : Int} (h : Denotes v t m s e) : Valid m s ∧ (e = 0 ∨ e = 5) := by
  rcases h with ⟨he, hv, -⟩ | ⟨he, hm, hs, -⟩
  · exact ⟨hv, .inl he⟩
  · subst hm; subst hs; exact ⟨by decide, .inr he⟩

theorem neg_val (m s : Int) : val9 m s + val9 (-m) s = 0 := by unfold val9; rw [Int.neg_mul]; omega

theorem den_zero : Denotes 0 9 0 0 0 := den_ok (by decide) (by decide)

theorem valid_neg {m s : Int} (h : Valid m s) : Valid (-m) s := by
  obtain ⟨a, b, c, d, e⟩ := h
  exact ⟨by omega, by omega, c, d, by omega⟩

theorem ten_scale {m : Int} {s : Nat} {M S E : Int} (h : Denotes m s M S E) : Denotes (10 * m) (s + 1) M S E :=
  h.scale (by rw [Int.pow_succ, Int.mul_comm 10 m, Int.mul_assoc, Int.mul_comm 10])

theorem make_told (m : Int) (s : Nat) : ∃ M S E, Denotes m s M S E := by
  by_cases hx : (strip s m.natAbs).1 ≤ 999999999999999999 ∧ (strip s m.natAbs).2 ≤ 9
  · by_cases hm : 0 ≤ m
    · exact ⟨((strip s m.natAbs).1 : Int), _, _, den_strip rfl (by simp) (.inr ⟨hm, by omega⟩) rfl (by simpa using hx.1) hx.2⟩
    · exact ⟨-((strip s m.natAbs).1 : Int), _, _, den_strip rfl (by simp) (.inl ⟨by omega, by omega⟩) rfl (by simpa using hx.1) hx.2⟩
  · exact ⟨0, 0, 5, den_over rfl (by omega)⟩

theorem val_inj {m s m' s' : Int} (hv : Valid m s) (hv' : Valid m' s') (h : val9 m s = val9 m' s') : m = m' ∧ s = s' := by
  obtain ⟨s, rfl⟩ : ∃ n : Nat, s = n := ⟨s.toNat, by have := hv.2.2.1; omega⟩
  obtain ⟨s', rfl⟩ : ∃ n : Nat, s' = n := ⟨s'.toNat, by have := hv'.2.2.1; omega⟩
  have h9 := hv.2.2.2.1
  have h9' := hv'.2.2.2.1
  refine valid_unique hv hv' ?_
  unfold val9 at h
  rw [Int.toNat_natCast, Int.toNat_natCast] at h ⊢
  have e1 : m * 10 ^ s' * 10 ^ 9 = m * p10 (9 - s) * 10 ^ (s + s') := by
    show m * p10 s' * p10 9 = m * p10 (9 - s) * p10 (s + s')
    rw [Int.mul_assoc, Int.mul_assoc, ← p10_add, ← p10_add, show s' + 9 = 9 - s + (s + s') by omega]
  have e2 : m' * 10 ^ s * 10 ^ 9 = m' * p10 (9 - s') * 10 ^ (s + s') := by
    show m' * p10 s * p10 9 = m' * p10 (9 - s') * p10 (s + s')
    rw [Int.mul_assoc, Int.mul_assoc, ← p10_add, ← p10_add, show s + 9 = 9 - s' + (s + s') by omega]
  refine Int.eq_of_mul_eq_mul_right (Int.ne_of_gt (pow_pos10 9)) ?_
  rw [e1, e2, h]

theorem val_of_den {v m s : Int} (h : Denotes v 9 m s 0) : val9 m s = v := by
  rcases h with ⟨_, hv, h⟩ | ⟨h, _⟩
  · obtain ⟨s, rfl⟩ : ∃ n : Nat, s = n := ⟨s.toNat, by have := hv.2.2.1; omega⟩
    have h9 := hv.2.2.2.1
    unfold val9
    rw [Int.toNat_natCast] at h ⊢
    refine Int.eq_of_mul_eq_mul_right (Int.ne_of_gt (pow_pos10 s)) ?_
    rw [← h]
    show m * p10 (9 - s) * p10 s = m * p10 9
    rw [Int.mul_assoc, ← p10_add, show 9 - s + s = 9 by omega]
  · cases h

theorem sign_val {m s : Int} : (m < 0 ↔ val9 m s < 0) ∧ (m = 0 ↔ val9 m s = 0) := by
  have hp := p10_pos (9 - s.toNat)
  unfold val9
  rcases Int.lt_trichotomy m 0 with h | h | h
  · have := Int.mul_neg_of_neg_of_pos h (show 0 < p10 (9 - s.toNat) by omega)
    omega
  · subst h; simp
  · have := Int.mul_pos h (show 0 < p10 (9 - s.toNat) by omega)
    omega

theorem val_of_den18 {v m s : Int} (h : Denotes v 18 m s 0) : val9 m s * 10 ^ 9 = v := by
  rcases h with ⟨_, hv, h⟩ | ⟨h, _⟩
  · obtain ⟨s, rfl⟩ : ∃ n : Nat, s = n := ⟨s.toNat, by have := hv.2.2.1; omega⟩
    have h9 := hv.2.2.2.1
    unfold val9
    rw [Int.toNat_natCast] at h ⊢
    refine Int.eq_of_mul_eq_mul_right (Int.ne_of_gt (pow_pos10 s)) ?_
    rw [← h]
    show m * p10 (9 - s) * p10 9 * p10 s = m * p10 18
    rw [Int.mul_assoc, Int.mul_assoc, ← p10_add, ← p10_add, show 9 - s + (9 + s) = 18 by omega]
  · cases h

theorem den_self {m s : Int} (hv : Valid m s) : Denotes (val9 m s) 9 m s 0 := by
  obtain ⟨s, rfl⟩ : ∃ n : Nat, s = n := ⟨s.toNat, by have := hv.2.2.1; omega⟩
  have h9 := hv.2.2.2.1
  refine den_ok hv ?_
  unfold val9
  rw [Int.toNat_natCast]
  show m * p10 9 = m * p10 (9 - s) * p10 s
  rw [Int.mul_assoc, ← p10_add, show 9 - s + s = 9 by omega]

theorem den_zero_added {m s : Int} (hv : Valid m s) : Denotes (val9 m s + val9 0 0) 9 m s 0 := by
  rw [show val9 0 0 = 0 by decide, Int.add_zero]; exact den_self hv

theorem den_one {m s : Int} (hv : Valid m s) : Denotes (val9 m s * val9 1 0) 18 m s 0 := (den_self hv).scale (by
  rw [show val9 1 0 = 10 ^ 9 by decide, Int.mul_assoc]; rfl)
end Go.Proofs.YtdlmhienolmncaaGreat
