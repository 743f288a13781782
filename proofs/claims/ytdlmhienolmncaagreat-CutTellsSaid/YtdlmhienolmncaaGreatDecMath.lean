/- The plain mathematics of decimals: a number has at most one valid decimal; what the program's loops reckon. No program stands in it. -/
import Derived.IntWalk
namespace Go.Proofs.YtdlmhienolmncaaGreat.Dec

/-- A valid decimal (P1.1's terms). -/
def Valid (m s : Int) : Prop := -999999999999999999 ≤ m ∧ m ≤ 999999999999999999 ∧ 0 ≤ s ∧ s ≤ 9 ∧ (s = 0 ∨ m % 10 ≠ 0)
instance (m s : Int) : Decidable (Valid m s) := by unfold Valid; exact inferInstance

/-- (m, s, e) is the answer 'the decimal of v / 10^t': the valid one with e = 0, or zero with e = 5 where there is none. -/
def Denotes (v : Int) (t : Nat) (m s e : Int) : Prop :=
  (e = 0 ∧ Valid m s ∧ m * 10 ^ t = v * 10 ^ s.toNat) ∨ (e = 5 ∧ m = 0 ∧ s = 0 ∧ ∀ m' s', Valid m' s' → m' * 10 ^ t ≠ v * 10 ^ s'.toNat)

theorem pow_pos10 (n : Nat) : (0 : Int) < 10 ^ n := Int.pow_pos (by decide)
theorem npow_pos10 (n : Nat) : 0 < 10 ^ n := Nat.pow_pos (by decide)

theorem canon_lt (a b s q : Nat) (h : a * 10 ^ s = b * 10 ^ q) (ha : q = 0 ∨ a % 10 ≠ 0) (hlt : s < q) : False := by
  obtain ⟨d, rfl⟩ : ∃ d, q = s + d + 1 := ⟨q - s - 1, by omega⟩
  have e : a * 10 ^ s = (b * 10 ^ d * 10) * 10 ^ s := by
    rw [h, Nat.pow_add, Nat.pow_add]
    simp only [Nat.pow_one, Nat.mul_comm, Nat.mul_left_comm]
  have e2 := Nat.eq_of_mul_eq_mul_right (npow_pos10 s) e
  rcases ha with ha | ha
  · omega
  · exact ha (by rw [e2]; exact Nat.mul_mod_left _ _)

theorem canon (a b s q : Nat) (h : a * 10 ^ s = b * 10 ^ q) (ha : q = 0 ∨ a % 10 ≠ 0) (hb : s = 0 ∨ b % 10 ≠ 0) : s = q ∧ a = b := by
  rcases Nat.lt_trichotomy s q with h1 | h1 | h1
  · exact (canon_lt a b s q h ha h1).elim
  · subst h1
    exact ⟨rfl, Nat.eq_of_mul_eq_mul_right (npow_pos10 s) h⟩
  · exact (canon_lt b a q s h.symm hb h1).elim

theorem mod10_abs (m : Int) : m % 10 ≠ 0 ↔ m.natAbs % 10 ≠ 0 := by omega

theorem natAbs_mul10 (m : Int) (n : Nat) : (m * 10 ^ n).natAbs = m.natAbs * 10 ^ n := by
  rw [Int.natAbs_mul, Int.natAbs_pow]; rfl

/-- Two valid decimals of one number are the same. -/
theorem valid_unique {m s m' s' : Int} (h : Valid m s) (h' : Valid m' s') (e : m * 10 ^ s'.toNat = m' * 10 ^ s.toNat) : m = m' ∧ s = s' := by
  obtain ⟨-, -, a3, -, a5⟩ := h
  obtain ⟨-, -, b3, -, b5⟩ := h'
  have en := congrArg Int.natAbs e
  rw [natAbs_mul10, natAbs_mul10] at en
  have c1 : s.toNat = 0 ∨ m.natAbs % 10 ≠ 0 := a5.elim (fun a => .inl (by omega)) (fun a => .inr ((mod10_abs m).1 a))
  have c2 : s'.toNat = 0 ∨ m'.natAbs % 10 ≠ 0 := b5.elim (fun a => .inl (by omega)) (fun a => .inr ((mod10_abs m').1 a))
  obtain ⟨hs, -⟩ := canon _ _ _ _ en c1 c2
  refine ⟨?_, by omega⟩
  rw [hs] at e
  exact Int.eq_of_mul_eq_mul_right (Int.ne_of_gt (pow_pos10 _)) e

theorem mul_swap (a b c d : Int) (n : Nat) (h1 : a * 10 ^ n = b) (h2 : c * 10 ^ n = d) : a * d = c * b := by
  rw [← h1, ← h2, ← Int.mul_assoc, ← Int.mul_assoc, Int.mul_comm a c]

theorem cross {m v m' : Int} {t s s' : Nat} (h : m * 10 ^ t = v * 10 ^ s) (h' : m' * 10 ^ t = v * 10 ^ s') : m * 10 ^ s' = m' * 10 ^ s := by
  have e : (m * 10 ^ s') * 10 ^ t = (m' * 10 ^ s) * 10 ^ t := by
    calc (m * 10 ^ s') * 10 ^ t = (m * 10 ^ t) * 10 ^ s' := by rw [Int.mul_assoc, Int.mul_comm (10 ^ s'), ← Int.mul_assoc]
      _ = (v * 10 ^ s') * 10 ^ s := by rw [h, Int.mul_assoc, Int.mul_comm (10 ^ s), ← Int.mul_assoc]
      _ = (m' * 10 ^ s) * 10 ^ t := by rw [← h', Int.mul_assoc, Int.mul_comm (10 ^ t), ← Int.mul_assoc]
  exact Int.eq_of_mul_eq_mul_right (Int.ne_of_gt (pow_pos10 _)) e

theorem Denotes.unique {v : Int} {t : Nat} {m s e m' s' e' : Int} (h : Denotes v t m s e) (h' : Denotes v t m' s' e') : m = m' ∧ s = s' ∧ e = e' := by
  rcases h with ⟨rfl, hv, h⟩ | ⟨rfl, rfl, rfl, h⟩
  · rcases h' with ⟨rfl, hv', h'⟩ | ⟨rfl, rfl, rfl, h'⟩
    · obtain ⟨a, b⟩ := valid_unique hv hv' (cross h h')
      exact ⟨a, b, rfl⟩
    · exact (h' _ _ hv h).elim
  · rcases h' with ⟨rfl, hv', h'⟩ | ⟨rfl, rfl, rfl, h'⟩
    · exact (h _ _ hv' h').elim
    · exact ⟨rfl, rfl, rfl⟩

/-- The answer hangs on the number alone. -/
theorem Denotes.scale {v v' : Int} {t t' : Nat} {m s e : Int} (h : Denotes v t m s e) (hv : v * 10 ^ t' = v' * 10 ^ t) : Denotes v' t' m s e := by
  have key : ∀ m s, m * 10 ^ t = v * 10 ^ s ↔ m * 10 ^ t' = v' * 10 ^ s := fun m s => by
    have e1 : (m * 10 ^ t') * 10 ^ t = (m * 10 ^ t) * 10 ^ t' := by rw [Int.mul_assoc, Int.mul_comm (10 ^ t'), ← Int.mul_assoc]
    have e2 : (v' * 10 ^ s) * 10 ^ t = (v * 10 ^ s) * 10 ^ t' := by
      rw [Int.mul_assoc, Int.mul_comm (10 ^ s), ← Int.mul_assoc, ← hv, Int.mul_assoc, Int.mul_comm (10 ^ t'), ← Int.mul_assoc]
    constructor
    · intro h
      refine Int.eq_of_mul_eq_mul_right (Int.ne_of_gt (pow_pos10 t)) ?_
      rw [e1, e2, h]
    · intro h
      refine Int.eq_of_mul_eq_mul_right (Int.ne_of_gt (pow_pos10 t')) ?_
      rw [← e1, ← e2, h]
  rcases h with ⟨he, hv', h⟩ | ⟨he, hm, hs, h⟩
  · exact .inl ⟨he, hv', (key _ _).1 h⟩
  · exact .inr ⟨he, hm, hs, fun m' s' hv' h' => h _ _ hv' ((key _ _).2 h')⟩

theorem den_ok {v : Int} {t : Nat} {m s : Int} (hv : Valid m s) (h : m * 10 ^ t = v * 10 ^ s.toNat) : Denotes v t m s 0 := .inl ⟨rfl, hv, h⟩

/-- A power of ten, under a name that the walk does not open. -/
def p10 (n : Nat) : Int := 10 ^ n
theorem p10_zero : p10 0 = 1 := rfl
theorem p10_succ (n : Nat) : p10 (n + 1) = p10 n * 10 := by unfold p10; rw [Int.pow_succ]
theorem p10_pos (n : Nat) : 1 ≤ p10 n := by have := pow_pos10 n; unfold p10; omega
theorem p10_mono (a b : Nat) (h : a ≤ b) : p10 a ≤ p10 b := by
  obtain ⟨d, rfl⟩ := Nat.le.dest h
  induction d with
  | zero => exact Int.le_refl _
  | succ d ih =>
    have e := p10_succ (a + d)
    have p := p10_pos (a + d)
    have := ih (by omega)
    rw [← Nat.add_assoc, e]; omega
theorem p10_17 (n : Nat) (h : n ≤ 17) : p10 n ≤ 100000000000000000 := p10_mono n 17 h
theorem p10_18 (n : Nat) (h : n ≤ 18) : p10 n ≤ 1000000000000000000 := p10_mono n 18 h
theorem p10_9 (n : Nat) (h : n ≤ 9) : p10 n ≤ 1000000000 := p10_mono n 9 h

/-- Noughts behind are struck. -/
def strip : Nat → Nat → Nat × Nat
  | 0, n => (n, 0)
  | s + 1, n => if n % 10 = 0 then strip s (n / 10) else (n, s + 1)

theorem strip_spec (s n : Nat) : (strip s n).2 ≤ s ∧ (strip s n).1 * 10 ^ s = n * 10 ^ (strip s n).2 ∧ ((strip s n).2 = 0 ∨ (strip s n).1 % 10 ≠ 0) := by
  induction s generalizing n with
  | zero => simp [strip]
  | succ s ih =>
    unfold strip
    by_cases h : n % 10 = 0
    · rw [if_pos h]
      obtain ⟨a, b, c⟩ := ih (n / 10)
      refine ⟨by omega, ?_, c⟩
      have hn : n = n / 10 * 10 := by omega
      rw [Nat.pow_succ, ← Nat.mul_assoc, b, Nat.mul_assoc, Nat.mul_comm (10 ^ _) 10, ← Nat.mul_assoc, ← hn]
    · rw [if_neg h]
      exact ⟨Nat.le_refl _, rfl, .inr h⟩

theorem strip_zero (n : Nat) : strip 0 n = (n, 0) := rfl
theorem strip_go (s n : Nat) (h : n % 10 = 0) : strip (s + 1) n = strip s (n / 10) := by rw [strip, if_pos h]
theorem strip_stop (s n : Nat) (h : n % 10 ≠ 0) : strip (s + 1) n = (n, s + 1) := by rw [strip, if_neg h]

/-- What settle answers. -/
theorem den_strip {v : Int} {s n k : Nat} {m : Int} (hv : v.natAbs = n) (hm : m.natAbs = (strip s n).1) (hsg : (v ≤ 0 ∧ m ≤ 0) ∨ (0 ≤ v ∧ 0 ≤ m)) (hk : k = (strip s n).2)
    (h1 : m.natAbs ≤ 999999999999999999) (h2 : k ≤ 9) : Denotes v s m k 0 := by
  obtain ⟨-, b, c⟩ := strip_spec s n
  subst hk
  refine den_ok ⟨by omega, by omega, by omega, by omega, ?_⟩ ?_
  · rcases c with c | c
    · left; omega
    · right; exact (mod10_abs m).2 (by omega)
  · rw [← hm] at b
    rw [Int.toNat_natCast]
    have e : (m * 10 ^ s).natAbs = (v * 10 ^ (strip s n).2).natAbs := by rw [natAbs_mul10, natAbs_mul10, hv]; exact b
    have p1 := pow_pos10 s
    have p2 := pow_pos10 (strip s n).2
    rcases hsg with ⟨g1, g2⟩ | ⟨g1, g2⟩
    · have s1 : m * 10 ^ s ≤ 0 := Int.mul_nonpos_of_nonpos_of_nonneg g2 (by omega)
      have s2 : v * 10 ^ (strip s n).2 ≤ 0 := Int.mul_nonpos_of_nonpos_of_nonneg g1 (by omega)
      omega
    · have s1 : 0 ≤ m * 10 ^ s := Int.mul_nonneg g2 (by omega)
      have s2 : 0 ≤ v * 10 ^ (strip s n).2 := Int.mul_nonneg g1 (by omega)
      omega

theorem den_over {v : Int} {s n : Nat} (hv : v.natAbs = n) (h : 999999999999999999 < (strip s n).1 ∨ 9 < (strip s n).2) : Denotes v s 0 0 5 := by
  refine .inr ⟨rfl, rfl, rfl, fun m' s' hv' e => ?_⟩
  obtain ⟨-, b, c⟩ := strip_spec s n
  obtain ⟨v1, v2, v3, v4, v5⟩ := hv'
  have en := congrArg Int.natAbs e
  rw [natAbs_mul10, natAbs_mul10, hv] at en
  have e3 : (m'.natAbs * 10 ^ (strip s n).2) * 10 ^ s = ((strip s n).1 * 10 ^ s'.toNat) * 10 ^ s := by
    calc (m'.natAbs * 10 ^ (strip s n).2) * 10 ^ s = (m'.natAbs * 10 ^ s) * 10 ^ (strip s n).2 := by rw [Nat.mul_assoc, Nat.mul_comm (10 ^ _), ← Nat.mul_assoc]
      _ = (n * 10 ^ (strip s n).2) * 10 ^ s'.toNat := by rw [en, Nat.mul_assoc, Nat.mul_comm (10 ^ _), ← Nat.mul_assoc]
      _ = ((strip s n).1 * 10 ^ s'.toNat) * 10 ^ s := by rw [← b, Nat.mul_assoc, Nat.mul_comm (10 ^ _), ← Nat.mul_assoc]
  have e4 := Nat.eq_of_mul_eq_mul_right (npow_pos10 s) e3
  have c1 : s'.toNat = 0 ∨ m'.natAbs % 10 ≠ 0 := v5.elim (fun a => .inl (by omega)) (fun a => .inr ((mod10_abs m').1 a))
  obtain ⟨x, y⟩ := canon _ _ _ _ e4 c1 c
  omega

end Go.Proofs.YtdlmhienolmncaaGreat.Dec
