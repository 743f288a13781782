/- The walks of dec's widen, Add, Mul and Make. -/
import Derived.Test.YtmleoagdelgddaaDecSettle
import Derived.Test.YtmleoagdelgddaaDecSums
namespace Go.Proofs.Ytmleoagdelgddaa
open Go.RowKit Dec

theorem magnitude_eq (m : Int) (w : World) (h0 : -4611686018427387904 ≤ m) (h1 : m ≤ 4611686018427387904) :
    Calls Try.prog 87 #[.int .i64 m] w fun e w' => e = .returned (.int .u64 (m.natAbs : Int)) ∧ w' = w :=
  (magnitude_any m w h0 h1).mono fun _ _ h => ⟨h.1, h.2.symm⟩

theorem widen_fits {m : Int} {j : Nat} (h : (m.natAbs : Int) * p10 j ≤ 1999999999999999998) : decide (1999999999999999998 / p10 j < (m.natAbs : Int)) = false := by
  have hp := p10_pos j
  rw [decide_eq_false_iff_not, Int.not_lt]
  exact (Int.le_ediv_iff_mul_le (by omega)).2 h
theorem widen_not {m : Int} {j : Nat} (h : 1999999999999999998 < (m.natAbs : Int) * p10 j) : decide (1999999999999999998 / p10 j < (m.natAbs : Int)) = true := by
  have hp := p10_pos j
  rw [decide_eq_true_iff, ← Int.not_le]
  exact fun h' => Int.not_lt.2 ((Int.le_ediv_iff_mul_le (by omega)).1 h') h
theorem abs_mul {m : Int} {j : Nat} (h : (m.natAbs : Int) * p10 j ≤ 1999999999999999998) : -1999999999999999998 ≤ m * p10 j ∧ m * p10 j ≤ 1999999999999999998 := by
  have hp := p10_pos j
  have e : ((m * p10 j).natAbs : Int) = (m.natAbs : Int) * p10 j := by
    rw [Int.natAbs_mul, Int.natCast_mul, Int.natAbs_of_nonneg (a := p10 j) (by omega)]
  omega

theorem widen_ok (m s : Int) (t j : Nat) (w : World) (hm : -999999999999999999 ≤ m) (hm' : m ≤ 999999999999999999) (hs : s + j = t) (hj : j ≤ 9) (h : (m.natAbs : Int) * p10 j ≤ 1999999999999999998) :
    Calls Try.prog 89 #[.agg #[.int .i64 m, .int .i64 s], .int .i64 t] w fun e w' => e = .returned (.tuple #[.int .i64 (m * p10 j), .bool true]) ∧ Below w.heap.size w w' := by
  have h1 := p10_pos j
  have h2 := p10_9 j hj
  have e1 : (t : Int) - s = j := by omega
  have hq := widen_fits h
  obtain ⟨hb, hb'⟩ := abs_mul h
  clear h
  go_enter Try.func89, Try.ntmps89
  go_wp2_with (go_at_call 84; refine (power_any j _ (by omega)).mono ?_; rintro e w' ⟨rfl, rfl⟩)
  go_quiet ((go_at_call 87; exact Calls.quiet_of_same (magnitude_eq _ _ (by omega) (by omega))))
  go_wp2
  go_ret2
  exact ⟨rfl, bdrewN ((Below.refl _ _).alloc (Nat.le_refl _) _) _⟩
theorem widen_no (m s : Int) (t j : Nat) (w : World) (hm : -999999999999999999 ≤ m) (hm' : m ≤ 999999999999999999) (hs : s + j = t) (hj : j ≤ 9) (h : 1999999999999999998 < (m.natAbs : Int) * p10 j) :
    Calls Try.prog 89 #[.agg #[.int .i64 m, .int .i64 s], .int .i64 t] w fun e w' => e = .returned (.tuple #[.int .i64 0, .bool false]) ∧ Below w.heap.size w w' := by
  have h1 := p10_pos j
  have h2 := p10_9 j hj
  have e1 : (t : Int) - s = j := by omega
  have hq := widen_not h
  clear h
  go_enter Try.func89, Try.ntmps89
  go_wp2_with (go_at_call 84; refine (power_any j _ (by omega)).mono ?_; rintro e w' ⟨rfl, rfl⟩)
  go_quiet ((go_at_call 87; exact Calls.quiet_of_same (magnitude_eq _ _ (by omega) (by omega))))
  go_wp2
  go_ret2
  exact ⟨rfl, bdrewN ((Below.refl _ _).alloc (Nat.le_refl _) _) _⟩

/-- ErrArg's answer. -/
def IsArg (w : World) (e : Ending) (w' : World) : Prop := e = .returned (.tuple #[.agg #[.int .i64 0, .int .i64 0], .int .i64 1]) ∧ Below w.heap.size w w'

theorem add_bad (m s m' s' : Int) (w : World) (hv : ¬ (Valid m s ∧ Valid m' s')) :
    Calls Try.prog 72 #[.agg #[.int .i64 m, .int .i64 s], .agg #[.int .i64 m', .int .i64 s']] w (IsArg w) := by
  have H := Lib.hid hv
  clear hv
  go_enter Try.func72, Try.ntmps72
  go_wp2_with (go_at_call 82; refine (checkBoth_bad _ _ _ _ _ H.out).mono ?_; rintro e w1 ⟨rfl, hb⟩; obtain ⟨hc, hf⟩ := bcell hb; have hz := hb.size; simp at hz)
  exact bodyPost_ret (v := .tuple #[.agg #[.int .i64 0, .int .i64 0], .int .i64 1]) (by simp [results, Try.results72, go_sem, hc]) rfl ⟨rfl, ((((((Below.refl _ _).alloc (Nat.le_refl _) _).alloc (by simp) _).alloc (by simp; omega) _).trans (hb.mono (by simp; omega))).setCell (by simp; omega) _).setCell (by simp; omega) _⟩

theorem add_fits (m m' : Int) (s s' t j j' : Nat) (w : World) (hv : Valid m s) (hv' : Valid m' s') (ht : t = max s s') (hj : s + j = t) (hj' : s' + j' = t)
    (h : (m.natAbs : Int) * p10 j ≤ 1999999999999999998) (h' : (m'.natAbs : Int) * p10 j' ≤ 1999999999999999998) :
    Calls Try.prog 72 #[.agg #[.int .i64 m, .int .i64 s], .agg #[.int .i64 m', .int .i64 s']] w (IsTold (m * p10 j + m' * p10 j') t w) := by
  obtain ⟨hb1, hb2⟩ := abs_mul h
  obtain ⟨hb3, hb4⟩ := abs_mul h'
  have HH := Lib.hid h
  have HH' := Lib.hid h'
  have H := Lib.hid hv
  have H' := Lib.hid hv'
  have hmax : max (s : Int) s' = t := by omega
  have ht9 : t ≤ 9 := by have := hv.2.2.2.1; have := hv'.2.2.2.1; omega
  clear hv hv' ht h h'
  go_enter Try.func72, Try.ntmps72
  go_wp2_with (go_at_call 82; refine (checkBoth_ok _ _ _ _ _ H.out H'.out).mono ?_; rintro e w1 ⟨rfl, hb⟩; obtain ⟨hc, hf⟩ := bcell hb; have hz := hb.size; simp at hz)
  refine (widen_ok _ _ _ j _ H.out.1 H.out.2.1 (by omega) (by omega) HH.out).mono ?_
  rintro e w2 ⟨rfl, hk⟩
  have hbb := hb.trans (hk.mono hb.size)
  clear hc hf hz hb hk
  obtain ⟨hc, hf⟩ := bcell hbb
  have hz := hbb.size
  simp at hz
  go_wp2_with fail
  refine (widen_ok _ _ _ j' _ H'.out.1 H'.out.2.1 (by omega) (by omega) HH'.out).mono ?_
  rintro e w3 ⟨rfl, hk⟩
  have hb := hbb.trans (hk.mono hbb.size)
  clear hc hf hz hbb hk
  obtain ⟨hc, hf⟩ := bcell hb
  have hz := hb.size
  simp at hz
  go_wp2_with (go_at_call 87; refine (magnitude_any _ _ (by omega) (by omega)).mono ?_; rintro e w' ⟨rfl, rfl⟩)
  refine (settle_any _ 0 (m * p10 j + m' * p10 j').natAbs t (m * p10 j + m' * p10 j') _ (by omega) (by omega) (by omega) (by omega) (fun h => by have := of_decide_eq_true h; omega) (fun h => by have := of_decide_eq_false h; omega)).mono ?_
  rintro e w4 ⟨M, S, E, rfl, hd, hk⟩
  have hbb := hb.trans (hk.mono hb.size)
  have HD := Lib.hid hd
  clear hc hf hz hb hk hd
  obtain ⟨hc, hf⟩ := bcell hbb
  have hz := hbb.size
  simp at hz
  go_wp2
  exact bodyPost_ret (v := .tuple #[.agg #[.int .i64 M, .int .i64 S], .int .i64 E]) (by simp [results, Try.results72, go_sem, hc]) rfl ⟨M, S, E, rfl, HD.out, ((((((Below.refl _ _).alloc (Nat.le_refl _) _).alloc (by simp) _).alloc (by simp; omega) _).trans (hbb.mono (by simp; omega))).setCell (by simp; omega) _).setCell (by simp; omega) _⟩

theorem add_not2 (m m' : Int) (s s' t j j' : Nat) (w : World) (hv : Valid m s) (hv' : Valid m' s') (ht : t = max s s') (hj : s + j = t) (hj' : s' + j' = t)
    (h : (m.natAbs : Int) * p10 j ≤ 1999999999999999998) (h' : 1999999999999999998 < (m'.natAbs : Int) * p10 j') :
    Calls Try.prog 72 #[.agg #[.int .i64 m, .int .i64 s], .agg #[.int .i64 m', .int .i64 s']] w (fun e w' => e = .returned (.tuple #[.agg #[.int .i64 0, .int .i64 0], .int .i64 5]) ∧ Below w.heap.size w w') := by
  have HH := Lib.hid h
  have HH' := Lib.hid h'
  have H := Lib.hid hv
  have H' := Lib.hid hv'
  have hmax : max (s : Int) s' = t := by omega
  have ht9 : t ≤ 9 := by have := hv.2.2.2.1; have := hv'.2.2.2.1; omega
  clear hv hv' ht h h'
  go_enter Try.func72, Try.ntmps72
  go_wp2_with (go_at_call 82; refine (checkBoth_ok _ _ _ _ _ H.out H'.out).mono ?_; rintro e w1 ⟨rfl, hb⟩; obtain ⟨hc, hf⟩ := bcell hb; have hz := hb.size; simp at hz)
  refine (widen_ok _ _ _ j _ H.out.1 H.out.2.1 (by omega) (by omega) HH.out).mono ?_
  rintro e w2 ⟨rfl, hk⟩
  have hbb := hb.trans (hk.mono hb.size)
  clear hc hf hz hb hk
  obtain ⟨hc, hf⟩ := bcell hbb
  have hz := hbb.size
  simp at hz
  go_wp2_with fail
  refine (widen_no _ _ _ j' _ H'.out.1 H'.out.2.1 (by omega) (by omega) HH'.out).mono ?_
  rintro e w3 ⟨rfl, hk⟩
  have hb := hbb.trans (hk.mono hbb.size)
  clear hc hf hz hbb hk
  obtain ⟨hc, hf⟩ := bcell hb
  have hz := hb.size
  simp at hz
  go_wp2
  exact bodyPost_ret (v := .tuple #[.agg #[.int .i64 0, .int .i64 0], .int .i64 5]) (by simp [results, Try.results72, go_sem, hc]) rfl ⟨rfl, ((((((Below.refl _ _).alloc (Nat.le_refl _) _).alloc (by simp) _).alloc (by simp; omega) _).trans (hb.mono (by simp; omega))).setCell (by simp; omega) _).setCell (by simp; omega) _⟩

theorem widen_some (m s : Int) (t j : Nat) (w : World) (hm : -999999999999999999 ≤ m) (hm' : m ≤ 999999999999999999) (hs : s + j = t) (hj : j ≤ 9) :
    Calls Try.prog 89 #[.agg #[.int .i64 m, .int .i64 s], .int .i64 t] w fun e w' => ∃ (n : Int) (b : Bool), e = .returned (.tuple #[.int .i64 n, .bool b]) ∧ Below w.heap.size w w' := by
  by_cases h : (m.natAbs : Int) * p10 j ≤ 1999999999999999998
  · exact (widen_ok m s t j w hm hm' hs hj h).mono fun _ _ ⟨a, b⟩ => ⟨_, _, a, b⟩
  · exact (widen_no m s t j w hm hm' hs hj (by omega)).mono fun _ _ ⟨a, b⟩ => ⟨_, _, a, b⟩

theorem add_not1 (m m' : Int) (s s' t j j' : Nat) (w : World) (hv : Valid m s) (hv' : Valid m' s') (ht : t = max s s') (hj : s + j = t) (hj' : s' + j' = t)
    (h : 1999999999999999998 < (m.natAbs : Int) * p10 j) :
    Calls Try.prog 72 #[.agg #[.int .i64 m, .int .i64 s], .agg #[.int .i64 m', .int .i64 s']] w (fun e w' => e = .returned (.tuple #[.agg #[.int .i64 0, .int .i64 0], .int .i64 5]) ∧ Below w.heap.size w w') := by
  have HH := Lib.hid h
  have H := Lib.hid hv
  have H' := Lib.hid hv'
  have hmax : max (s : Int) s' = t := by omega
  have ht9 : t ≤ 9 := by have := hv.2.2.2.1; have := hv'.2.2.2.1; omega
  clear hv hv' ht h
  go_enter Try.func72, Try.ntmps72
  go_wp2_with (go_at_call 82; refine (checkBoth_ok _ _ _ _ _ H.out H'.out).mono ?_; rintro e w1 ⟨rfl, hb⟩; obtain ⟨hc, hf⟩ := bcell hb; have hz := hb.size; simp at hz)
  refine (widen_no _ _ _ j _ H.out.1 H.out.2.1 (by omega) (by omega) HH.out).mono ?_
  rintro e w2 ⟨rfl, hk⟩
  have hbb := hb.trans (hk.mono hb.size)
  clear hc hf hz hb hk
  obtain ⟨hc, hf⟩ := bcell hbb
  have hz := hbb.size
  simp at hz
  go_wp2_with fail
  refine (widen_some _ _ _ j' _ H'.out.1 H'.out.2.1 (by omega) (by omega)).mono ?_
  rintro e w3 ⟨n3, b3, rfl, hk⟩
  have hb := hbb.trans (hk.mono hbb.size)
  clear hc hf hz hbb hk
  obtain ⟨hc, hf⟩ := bcell hb
  have hz := hb.size
  simp at hz
  go_wp2
  all_goals exact bodyPost_ret (v := .tuple #[.agg #[.int .i64 0, .int .i64 0], .int .i64 5]) (by simp [results, Try.results72, go_sem, hc]) rfl ⟨rfl, ((((((Below.refl _ _).alloc (Nat.le_refl _) _).alloc (by simp) _).alloc (by simp; omega) _).trans (hb.mono (by simp; omega))).setCell (by simp; omega) _).setCell (by simp; omega) _⟩

theorem add_ok (m m' : Int) (s s' : Int) (w : World) (hv : Valid m s) (hv' : Valid m' s') :
    Calls Try.prog 72 #[.agg #[.int .i64 m, .int .i64 s], .agg #[.int .i64 m', .int .i64 s']] w (IsTold (val9 m s + val9 m' s') 9 w) := by
  obtain ⟨s, rfl⟩ : ∃ n : Nat, s = n := ⟨s.toNat, by have := hv.2.2.1; omega⟩
  obtain ⟨s', rfl⟩ : ∃ n : Nat, s' = n := ⟨s'.toNat, by have := hv'.2.2.1; omega⟩
  have hs9 := hv.2.2.2.1
  have hs9' := hv'.2.2.2.1
  obtain ⟨t, ht⟩ : ∃ t, t = max s s' := ⟨_, rfl⟩
  obtain ⟨j, hj⟩ : ∃ j, s + j = t := ⟨t - s, by omega⟩
  obtain ⟨j', hj'⟩ : ∃ j', s' + j' = t := ⟨t - s', by omega⟩
  have hsc := sum_scale m m' s s' j j' t hj hj' (by omega)
  by_cases h : (m.natAbs : Int) * p10 j ≤ 1999999999999999998
  · by_cases h' : (m'.natAbs : Int) * p10 j' ≤ 1999999999999999998
    · refine (add_fits m m' s s' t j j' w hv hv' ht hj hj' h h').mono ?_
      rintro e w' ⟨M, S, E, he, hd, hb⟩
      exact ⟨M, S, E, he, hd.scale hsc, hb⟩
    · refine (add_not2 m m' s s' t j j' w hv hv' ht hj hj' h (by omega)).mono ?_
      rintro e w' ⟨he, hb⟩
      refine ⟨0, 0, 5, he, ?_, hb⟩
      have := sum_over (a := m') (b := m) (sa := s') (sb := s) (ja := j') (jb := j) (t := t) hv hj' hj (by omega) ⟨hv'.1, hv'.2.1⟩ (by omega)
      rw [Int.add_comm] at this
      exact this.scale hsc
  · refine (add_not1 m m' s s' t j j' w hv hv' ht hj hj' (by omega)).mono ?_
    rintro e w' ⟨he, hb⟩
    refine ⟨0, 0, 5, he, ?_, hb⟩
    exact (sum_over (a := m) (b := m') (sa := s) (sb := s') (ja := j) (jb := j') (t := t) hv' hj hj' (by omega) ⟨hv.1, hv.2.1⟩ (by omega)).scale hsc
end Go.Proofs.Ytmleoagdelgddaa
