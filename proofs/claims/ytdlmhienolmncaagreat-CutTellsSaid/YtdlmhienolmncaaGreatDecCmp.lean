/- The walks of dec's fraction and Compare. -/
import Derived.Test.YtdlmhienolmncaaGreatDecMul
import Derived.Lib.Small
namespace Go.Proofs.YtdlmhienolmncaaGreat
open Go.RowKit Dec

theorem power_eq (n : Nat) (w : World) (hn : n ≤ 18) :
    Calls Tryz.prog 116 #[.int .i64 n] w fun e w' => e = .returned (.int .i64 (p10 n)) ∧ w' = w :=
  (power_any n w hn).mono fun _ _ h => ⟨h.1, h.2.symm⟩

/-- A decimal's fraction, in units of nine digits. -/
def frac (m : Int) (s : Nat) : Int := m.tmod (p10 s) * p10 (9 - s)
/-- A decimal's whole part. -/
def whole (m : Int) (s : Nat) : Int := m.tdiv (p10 s)

theorem val_split (m : Int) (s : Nat) (hs : s ≤ 9) : m * p10 (9 - s) = whole m s * 1000000000 + frac m s := by
  have e := Int.mul_tdiv_add_tmod m (p10 s)
  have e9 : p10 s * p10 (9 - s) = 1000000000 := by rw [← p10_add, show s + (9 - s) = 9 by omega]; rfl
  unfold whole frac
  generalize p10 (9 - s) = y at *
  rw [← e9, ← Int.mul_assoc, ← Int.add_mul, Int.mul_comm (m.tdiv _), e]

theorem frac_bounds (m : Int) (s : Nat) (hs : s ≤ 9) : (-1000000000 < frac m s ∧ frac m s < 1000000000) ∧ (0 ≤ m → 0 ≤ frac m s ∧ 0 ≤ whole m s) ∧ (m ≤ 0 → frac m s ≤ 0 ∧ whole m s ≤ 0) := by
  have hp := p10_pos s
  have hy := p10_pos (9 - s)
  have e9 : p10 s * p10 (9 - s) = 1000000000 := by rw [← p10_add, show s + (9 - s) = 9 by omega]; rfl
  have k1 : 0 ≤ m → 0 ≤ frac m s ∧ 0 ≤ whole m s := fun h => ⟨Int.mul_nonneg (Int.tmod_nonneg _ h) (by omega), Int.tdiv_nonneg h (by omega)⟩
  have k2 : m ≤ 0 → frac m s ≤ 0 ∧ whole m s ≤ 0 := fun h => by
    have a := Int.tmod_nonneg (p10 s) (show 0 ≤ -m by omega)
    have b := Int.tdiv_nonneg (show 0 ≤ -m by omega) (show 0 ≤ p10 s by omega)
    rw [Int.neg_tmod] at a
    rw [Int.neg_tdiv] at b
    exact ⟨Int.mul_nonpos_of_nonpos_of_nonneg (by omega) (by omega), by unfold whole; omega⟩
  have lt := Int.tmod_lt_of_pos m (show 0 < p10 s by omega)
  have gt : - p10 s < m.tmod (p10 s) := by
    have := Int.tmod_lt_of_pos (-m) (show 0 < p10 s by omega)
    rw [Int.neg_tmod] at this; omega
  refine ⟨⟨?_, ?_⟩, k1, k2⟩
  · have := Int.mul_lt_mul_of_pos_right gt (show 0 < p10 (9 - s) by omega)
    rw [Int.neg_mul, e9] at this; exact this
  · have := Int.mul_lt_mul_of_pos_right lt (show 0 < p10 (9 - s) by omega)
    rw [e9] at this; exact this

theorem cmp_val {a b x y p q u v : Int} (ha : a = p * 1000000000 + x) (hb : b = q * 1000000000 + y) (hx : -1000000000 < x ∧ x < 1000000000) (hy : -1000000000 < y ∧ y < 1000000000)
    (su : (0 ≤ u → 0 ≤ x ∧ 0 ≤ p) ∧ (u ≤ 0 → x ≤ 0 ∧ p ≤ 0)) (sv : (0 ≤ v → 0 ≤ y ∧ 0 ≤ q) ∧ (v ≤ 0 → y ≤ 0 ∧ q ≤ 0)) :
    Lib.compareInt a b = if Lib.compareInt p q = 0 then Lib.compareInt x y else Lib.compareInt p q := by
  have h1 : p < q → a < b := by omega
  have h2 : q < p → b < a := by omega
  have h3 : p = q → (x < y ↔ a < b) ∧ (y < x ↔ b < a) := by omega
  unfold Lib.compareInt
  by_cases c1 : p < q
  · have := h1 c1
    rw [if_pos this, if_pos c1]; rfl
  · by_cases c2 : q < p
    · have := h2 c2
      rw [if_neg (show ¬ a < b by omega), if_pos (show a > b by omega), if_neg c1, if_pos (show p > q by omega)]; rfl
    · obtain ⟨k1, k2⟩ := h3 (by omega)
      rw [if_neg c1, if_neg (show ¬ p > q by omega), if_pos rfl]
      by_cases d1 : x < y
      · rw [if_pos d1, if_pos (k1.1 d1)]
      · by_cases d2 : y < x
        · have := k2.1 d2
          rw [if_neg d1, if_pos (show x > y by omega), if_neg (show ¬ a < b by omega), if_pos (show a > b by omega)]
        · have e1 : ¬ a < b := fun h => d1 (k1.2 h)
          have e2 : ¬ b < a := fun h => d2 (k2.2 h)
          rw [if_neg d1, if_neg (show ¬ x > y by omega), if_neg e1, if_neg (show ¬ a > b by omega)]

theorem fraction_any (m : Int) (s : Nat) (w : World) (hs : s ≤ 9) :
    Calls Tryz.prog 117 #[.agg #[.int .i64 m, .int .i64 s]] w fun e w' => e = .returned (.int .i64 (frac m s)) ∧ Below w.heap.size w w' := by
  obtain ⟨j, hj⟩ : ∃ j, s + j = 9 := ⟨9 - s, by omega⟩
  have hfb := (frac_bounds m s hs).1
  unfold frac at hfb ⊢
  rw [show 9 - s = j by omega] at hfb ⊢
  obtain ⟨hb, hb'⟩ := hfb
  have h1 := p10_pos s
  have h2 := p10_9 s (by omega)
  have h3 := p10_pos j
  have h4 := p10_9 j (by omega)
  have e1 : (9 : Int) - s = j := by omega
  have e2 : IntKind.i64.wrap ((9 : Int) - s) = j := by rw [e1]; exact IntWalk.i64_in _ (by omega)
  go_enter Tryz.func117, Tryz.ntmps117
  go_wp2
  go_quiet ((go_at_call 116; exact Calls.quiet_of_same (power_eq _ _ (by omega))))
  go_wp2
  go_ret
  exact ⟨rfl, bdrewN ((Below.refl _ _).alloc (Nat.le_refl _) _) _⟩

theorem cmp_bad (m s m' s' : Int) (w : World) (hv : ¬ (Valid m s ∧ Valid m' s')) :
    Calls Tryz.prog 80 #[.agg #[.int .i64 m, .int .i64 s], .agg #[.int .i64 m', .int .i64 s']] w fun e w' => e = .returned (.tuple #[.int .i64 0, .int .i64 1]) ∧ Below w.heap.size w w' := by
  have H := Lib.hid hv
  clear hv
  go_enter Tryz.func80, Tryz.ntmps80
  go_wp2_with (go_at_call 114; refine (checkBoth_bad _ _ _ _ _ H.out).mono ?_; rintro e w1 ⟨rfl, hb⟩; obtain ⟨hc, hf⟩ := bcell hb; have hz := hb.size; simp at hz)
  go_ret2
  exact ⟨rfl, ((((Below.refl _ _).alloc (Nat.le_refl _) _).alloc (by simp) _).trans (hb.mono (by simp; omega)))⟩

theorem cmp_ok1 (m m' : Int) (s s' : Nat) (w : World) (hv : Valid m s) (hv' : Valid m' s') (hne : (Lib.compareInt (whole m s) (whole m' s') != 0) = true) :
    Calls Tryz.prog 80 #[.agg #[.int .i64 m, .int .i64 s], .agg #[.int .i64 m', .int .i64 s']] w fun e w' => e = .returned (.tuple #[.int .i64 (Lib.compareInt (whole m s) (whole m' s')), .int .i64 0]) ∧ Below w.heap.size w w' := by
  have H := Lib.hid hv
  have H' := Lib.hid hv'
  have hm1 := hv.1
  have hm2 := hv.2.1
  have hm3 := hv'.1
  have hm4 := hv'.2.1
  have hs1 := hv.2.2.2.1
  have hs2 := hv'.2.2.2.1
  have h1 := p10_pos s
  have h2 := p10_9 s (by omega)
  have h3 := p10_pos s'
  have h4 := p10_9 s' (by omega)
  clear hv hv'
  unfold whole at hne ⊢
  go_enter Tryz.func80, Tryz.ntmps80
  go_wp2_with (go_at_call 114; refine (checkBoth_ok _ _ _ _ _ H.out H'.out).mono ?_; rintro e w1 ⟨rfl, hb⟩; obtain ⟨hc, hf⟩ := bcell hb; have hz := hb.size; simp at hz)
  go_quiet ((first | (go_at_call 116; exact Calls.quiet_of_same (power_eq _ _ (by omega))) | (go_at_call 115; exact Calls.quiet_of_same (Tryz.cmp_Compare_int _ _ _))))
  go_wp2
  go_ret2
  exact ⟨rfl, bdrewN ((((Below.refl _ _).alloc (Nat.le_refl _) _).alloc (by simp) _).trans (hb.mono (by simp; omega))) _⟩

set_option maxHeartbeats 2000000 in
theorem cmp_ok2 (m m' : Int) (s s' : Nat) (w : World) (hv : Valid m s) (hv' : Valid m' s') (hne : (Lib.compareInt (whole m s) (whole m' s') != 0) = false) :
    Calls Tryz.prog 80 #[.agg #[.int .i64 m, .int .i64 s], .agg #[.int .i64 m', .int .i64 s']] w fun e w' => e = .returned (.tuple #[.int .i64 (Lib.compareInt (frac m s) (frac m' s')), .int .i64 0]) ∧ Below w.heap.size w w' := by
  have H := Lib.hid hv
  have H' := Lib.hid hv'
  have hm1 := hv.1
  have hm2 := hv.2.1
  have hm3 := hv'.1
  have hm4 := hv'.2.1
  have hs1 := hv.2.2.2.1
  have hs2 := hv'.2.2.2.1
  have h1 := p10_pos s
  have h2 := p10_9 s (by omega)
  have h3 := p10_pos s'
  have h4 := p10_9 s' (by omega)
  clear hv hv'
  unfold whole at hne
  go_enter Tryz.func80, Tryz.ntmps80
  go_wp2_with (go_at_call 114; refine (checkBoth_ok _ _ _ _ _ H.out H'.out).mono ?_; rintro e w1 ⟨rfl, hb⟩; obtain ⟨hc, hf⟩ := bcell hb; have hz := hb.size; simp at hz)
  go_quiet ((first | (go_at_call 116; exact Calls.quiet_of_same (power_eq _ _ (by omega))) | (go_at_call 115; exact Calls.quiet_of_same (Tryz.cmp_Compare_int _ _ _))))
  go_wp2_with fail
  go_region_with ((first | (go_at_call 117; refine (fraction_any _ _ _ (by omega)).mono ?_; rintro e w2 ⟨rfl, hk⟩; have hb := Below.trans hb (c := w2) (by first | (with_reducible exact hk.mono hb.size) | exact (bdrewN (Below.refl _ _) _).trans (hk.mono hb.size)); obtain ⟨hc, hf⟩ := bcell hb; have hz := hb.size; simp at hz) | (go_at_call 115; refine (Tryz.cmp_Compare_int _ _ _).mono ?_; rintro e w' ⟨rfl, rfl⟩)))
  all_goals (go_wp2; go_ret2)
  all_goals exact ⟨rfl, ((((Below.refl _ _).alloc (Nat.le_refl _) _).alloc (by simp) _).trans (hb.mono (by simp; omega)))⟩

theorem cmp_ok (m m' : Int) (s s' : Int) (w : World) (hv : Valid m s) (hv' : Valid m' s') :
    Calls Tryz.prog 80 #[.agg #[.int .i64 m, .int .i64 s], .agg #[.int .i64 m', .int .i64 s']] w fun e w' => e = .returned (.tuple #[.int .i64 (Lib.compareInt (val9 m s) (val9 m' s')), .int .i64 0]) ∧ Below w.heap.size w w' := by
  obtain ⟨s, rfl⟩ : ∃ n : Nat, s = n := ⟨s.toNat, by have := hv.2.2.1; omega⟩
  obtain ⟨s', rfl⟩ : ∃ n : Nat, s' = n := ⟨s'.toNat, by have := hv'.2.2.1; omega⟩
  have hs9 := hv.2.2.2.1
  have hs9' := hv'.2.2.2.1
  have b1 := frac_bounds m s (by omega)
  have b2 := frac_bounds m' s' (by omega)
  have key : Lib.compareInt (val9 m s) (val9 m' s') = if Lib.compareInt (whole m s) (whole m' s') = 0 then Lib.compareInt (frac m s) (frac m' s') else Lib.compareInt (whole m s) (whole m' s') :=
    cmp_val (val_split m s (by omega)) (val_split m' s' (by omega)) b1.1 b2.1 b1.2 b2.2
  rw [key]
  by_cases h : Lib.compareInt (whole m s) (whole m' s') = 0
  · rw [if_pos h]
    exact cmp_ok2 m m' s s' w hv hv' (by rw [h]; rfl)
  · rw [if_neg h]
    exact cmp_ok1 m m' s s' w hv hv' (by rw [bne_iff_ne]; exact h)
end Go.Proofs.YtdlmhienolmncaaGreat
