/- The walks of dec's Mul and Make. -/
import Derived.Test.YtmleoagdelgddaaDecAdd
namespace Go.Proofs.Ytmleoagdelgddaa
open Go.RowKit Dec

theorem mul64_at (A B hi lo : Nat) (w : World) (hA : A < 18446744073709551616) (hB : B < 18446744073709551616) (h : A * B = hi * 18446744073709551616 + lo) (hlo : lo < 18446744073709551616) :
    Calls Try.prog 86 #[.int .u64 A, .int .u64 B] w fun e w' => e = .returned (.tuple #[.int .u64 hi, .int .u64 lo]) ∧ w' = w := by
  have h1 : A * B / 18446744073709551616 = hi := by omega
  have h2 : A * B % 18446744073709551616 = lo := by omega
  have := Try.bits_Mul64 A B hA hB w
  rwa [h1, h2] at this

theorem settle_at (neg : Bool) (hi lo : Nat) (si : Int) (s : Nat) (v : Int) (w : World) (hsi : si = s) (hhi : hi < 18446744073709551616) (hlo : lo < 18446744073709551616) (hs : s ≤ 1000) (hv : v.natAbs = hi * 18446744073709551616 + lo)
    (hn1 : neg = true → v ≤ 0) (hn0 : neg = false → 0 ≤ v) :
    Calls Try.prog 88 #[.bool neg, .int .u64 hi, .int .u64 lo, .int .i64 si] w (IsTold v s w) := by
  subst hsi; exact settle_any neg hi lo s v w hhi hlo hs hv hn1 hn0

theorem mul_bad (m s m' s' : Int) (w : World) (hv : ¬ (Valid m s ∧ Valid m' s')) :
    Calls Try.prog 70 #[.agg #[.int .i64 m, .int .i64 s], .agg #[.int .i64 m', .int .i64 s']] w (IsArg w) := by
  have H := Lib.hid hv
  clear hv
  go_enter Try.func70, Try.ntmps70
  go_wp2_with (go_at_call 82; refine (checkBoth_bad _ _ _ _ _ H.out).mono ?_; rintro e w1 ⟨rfl, hb⟩; obtain ⟨hc, hf⟩ := bcell hb; have hz := hb.size; simp at hz)
  exact bodyPost_ret (v := .tuple #[.agg #[.int .i64 0, .int .i64 0], .int .i64 1]) (by simp [results, Try.results70, go_sem, hc]) rfl ⟨rfl, ((((((Below.refl _ _).alloc (Nat.le_refl _) _).alloc (by simp) _).alloc (by simp; omega) _).trans (hb.mono (by simp; omega))).setCell (by simp; omega) _).setCell (by simp; omega) _⟩

theorem sign_neg {m m' : Int} (h : (!(decide (m < 0) == decide (m' < 0))) = true) : m * m' ≤ 0 := by
  by_cases h1 : m < 0
  · by_cases h2 : m' < 0
    · simp [h1, h2] at h
    · exact Int.mul_nonpos_of_nonpos_of_nonneg (by omega) (by omega)
  · by_cases h2 : m' < 0
    · rw [Int.mul_comm]; exact Int.mul_nonpos_of_nonpos_of_nonneg (by omega) (by omega)
    · simp [h1, h2] at h
theorem sign_pos {m m' : Int} (h : (!(decide (m < 0) == decide (m' < 0))) = false) : 0 ≤ m * m' := by
  by_cases h1 : m < 0
  · by_cases h2 : m' < 0
    · exact Int.mul_nonneg_of_nonpos_of_nonpos (by omega) (by omega)
    · simp [h1, h2] at h
  · by_cases h2 : m' < 0
    · simp [h1, h2] at h
    · exact Int.mul_nonneg (by omega) (by omega)

theorem mul_exact (m m' : Int) (s s' : Nat) (w : World) (hv : Valid m s) (hv' : Valid m' s') :
    Calls Try.prog 70 #[.agg #[.int .i64 m, .int .i64 s], .agg #[.int .i64 m', .int .i64 s']] w (IsTold (m * m') (s + s') w) := by
  have H := Lib.hid hv
  have H' := Lib.hid hv'
  have hm1 := hv.1
  have hm2 := hv.2.1
  have hm3 := hv'.1
  have hm4 := hv'.2.1
  have hs1 := hv.2.2.2.1
  have hs2 := hv'.2.2.2.1
  have habs : (m * m').natAbs = m.natAbs * m'.natAbs := Int.natAbs_mul _ _
  have hle : m.natAbs * m'.natAbs ≤ 999999999999999999 * 999999999999999999 := Nat.mul_le_mul (by omega) (by omega)
  obtain ⟨hi, hhi⟩ : ∃ hi, hi = m.natAbs * m'.natAbs / 18446744073709551616 := ⟨_, rfl⟩
  obtain ⟨lo, hlo⟩ : ∃ lo, lo = m.natAbs * m'.natAbs % 18446744073709551616 := ⟨_, rfl⟩
  have h1 : Hid (m.natAbs * m'.natAbs = hi * 18446744073709551616 + lo) := by show _ = _; omega
  have h2 : Hid (lo < 18446744073709551616) := by show lo < _; omega
  have h3 : Hid (hi < 18446744073709551616) := by show hi < _; omega
  have h4 : Hid ((m * m').natAbs = hi * 18446744073709551616 + lo) := by show _ = _; omega
  clear hv hv' habs hle hhi hlo
  go_enter Try.func70, Try.ntmps70
  go_wp2_with (go_at_call 82; refine (checkBoth_ok _ _ _ _ _ H.out H'.out).mono ?_; rintro e w1 ⟨rfl, hb⟩; obtain ⟨hc, hf⟩ := bcell hb; have hz := hb.size; simp at hz)
  go_quiet ((first | (go_at_call 87; exact Calls.quiet_of_same (magnitude_eq _ _ (by omega) (by omega))) | (go_at_call 86; exact Calls.quiet_of_same (mul64_at _ _ hi lo _ (by omega) (by omega) h1.out h2.out))))
  go_wp2_with fail
  refine (settle_at _ hi lo _ (s + s') (m * m') _ (by omega) h3.out h2.out (by omega) h4.out sign_neg sign_pos).mono ?_
  rintro e w4 ⟨M, S, E, rfl, hd, hk⟩
  have hbb := hb.trans ((bdrewN (Below.refl _ _) nq).trans (hk.mono hb.size))
  have HD := Lib.hid hd
  clear hc hf hz hb hk hd
  obtain ⟨hc, hf⟩ := bcell hbb
  have hz := hbb.size
  simp at hz
  go_wp2
  exact bodyPost_ret (v := .tuple #[.agg #[.int .i64 M, .int .i64 S], .int .i64 E]) (by simp [results, Try.results70, go_sem, hc]) rfl ⟨M, S, E, rfl, HD.out, ((((((Below.refl _ _).alloc (Nat.le_refl _) _).alloc (by simp) _).alloc (by simp; omega) _).trans (hbb.mono (by simp; omega))).setCell (by simp; omega) _).setCell (by simp; omega) _⟩

theorem mul_scale (m m' : Int) (s s' : Nat) (h : s ≤ 9) (h' : s' ≤ 9) : m * m' * 10 ^ 18 = (m * p10 (9 - s)) * (m' * p10 (9 - s')) * 10 ^ (s + s') := by
  show m * m' * p10 18 = (m * p10 (9 - s)) * (m' * p10 (9 - s')) * p10 (s + s')
  rw [show (18 : Nat) = (9 - s) + (9 - s') + (s + s') by omega, p10_add, p10_add]
  generalize p10 (9 - s) = x
  generalize p10 (9 - s') = y
  generalize p10 (s + s') = z
  rw [← Int.mul_assoc, show m * m' * (x * y) = m * x * (m' * y) by rw [Int.mul_assoc, Int.mul_assoc, ← Int.mul_assoc m', Int.mul_comm m' x, Int.mul_assoc]]

theorem mul_ok (m m' : Int) (s s' : Int) (w : World) (hv : Valid m s) (hv' : Valid m' s') :
    Calls Try.prog 70 #[.agg #[.int .i64 m, .int .i64 s], .agg #[.int .i64 m', .int .i64 s']] w (IsTold (val9 m s * val9 m' s') 18 w) := by
  obtain ⟨s, rfl⟩ : ∃ n : Nat, s = n := ⟨s.toNat, by have := hv.2.2.1; omega⟩
  obtain ⟨s', rfl⟩ : ∃ n : Nat, s' = n := ⟨s'.toNat, by have := hv'.2.2.1; omega⟩
  have hs9 := hv.2.2.2.1
  have hs9' := hv'.2.2.2.1
  refine (mul_exact m m' s s' w hv hv').mono ?_
  rintro e w' ⟨M, S, E, he, hd, hb⟩
  exact ⟨M, S, E, he, hd.scale (mul_scale m m' s s' (by omega) (by omega)), hb⟩
end Go.Proofs.Ytmleoagdelgddaa
