/- The walk of DecOrder. -/
import Derived.Test.YtdadnljhmfllbaaDoorDecScaleW
namespace Go.Proofs.YtdadnljhmfllbaaDoor
open Go.RowKit Dec

theorem cmp_is (m s m' s' : Int) (w : World) (hv : Valid m s) (hv' : Valid m' s') (X : Int) (hx : Lib.compareInt (val9 m s) (val9 m' s') = X) :
    Calls Tryd.prog 20 #[.agg #[.int .i64 m, .int .i64 s], .agg #[.int .i64 m', .int .i64 s']] w fun e w' => e = .returned (.tuple #[.int .i64 X, .int .i64 0]) ∧ Below w.heap.size w w' := by
  subst hx; exact cmp_ok m m' s s' w hv hv'

/-- What the calls of DecOrder answer at three valid decimals. -/
structure Ordered (Ma Sa Mb Sb Mc Sc X Y Z V Md Sd Ed : Int) : Prop where
  va : Valid Ma Sa
  vb : Valid Mb Sb
  vc : Valid Mc Sc
  x : Lib.compareInt (val9 Ma Sa) (val9 Mb Sb) = X
  y : Lib.compareInt (val9 Mb Sb) (val9 Ma Sa) = Y
  z : Lib.compareInt (val9 Mb Sb) (val9 Mc Sc) = Z
  v : Lib.compareInt (val9 Ma Sa) (val9 Mc Sc) = V
  d : Denotes (val9 Ma Sa + val9 (-Mb) Sb) 9 Md Sd Ed

theorem cmp_cases (x y : Int) : (x < y ∧ Lib.compareInt x y = -1 ∧ Lib.compareInt y x = 1) ∨ (x = y ∧ Lib.compareInt x y = 0 ∧ Lib.compareInt y x = 0) ∨ (y < x ∧ Lib.compareInt x y = 1 ∧ Lib.compareInt y x = -1) := by
  unfold Lib.compareInt
  rcases Int.lt_trichotomy x y with h | h | h
  · left; exact ⟨h, by rw [if_pos h], by rw [if_neg (by omega), if_pos (by omega)]⟩
  · right; left; subst h; exact ⟨rfl, by rw [if_neg (by omega), if_neg (by omega)], by rw [if_neg (by omega), if_neg (by omega)]⟩
  · right; right; exact ⟨h, by rw [if_neg (by omega), if_pos (by omega)], by rw [if_pos h]⟩

theorem val_inj {m s m' s' : Int} (hv : Valid m s) (hv' : Valid m' s') (h : val9 m s = val9 m' s') : m = m' ∧ s = s' := by
  obtain ⟨s, rfl⟩ : ∃ n : Nat, s = n := ⟨s.toNat, by have := hv.2.2.1; omega⟩
  obtain ⟨s', rfl⟩ : ∃ n : Nat, s' = n := ⟨s'.toNat, by have := hv'.2.2.1; omega⟩
  have h9 := hv.2.2.2.1
  have h9' := hv'.2.2.2.1
  refine valid_unique hv hv' ?_
  unfold val9 at h
  rw [Int.toNat_natCast, Int.toNat_natCast] at h ⊢
  have e1 : m * 10 ^ s' * 10 ^ 9 = m * p10 (9 - s) * 10 ^ (s + s') := by
    show m * p10 s' * p10 9 = m * p10 (9 - s) * p10 (s + s')
    rw [Int.mul_assoc, Int.mul_assoc, ← p10_add, ← p10_add, show s' + 9 = 9 - s + (s + s') by omega]
  have e2 : m' * 10 ^ s * 10 ^ 9 = m' * p10 (9 - s') * 10 ^ (s + s') := by
    show m' * p10 s * p10 9 = m' * p10 (9 - s') * p10 (s + s')
    rw [Int.mul_assoc, Int.mul_assoc, ← p10_add, ← p10_add, show s + 9 = 9 - s' + (s + s') by omega]
  refine Int.eq_of_mul_eq_mul_right (Int.ne_of_gt (pow_pos10 9)) ?_
  rw [e1, e2, h]

theorem val_of_den {v m s : Int} (h : Denotes v 9 m s 0) : val9 m s = v := by
  rcases h with ⟨_, hv, h⟩ | ⟨h, _⟩
  · obtain ⟨s, rfl⟩ : ∃ n : Nat, s = n := ⟨s.toNat, by have := hv.2.2.1; omega⟩
    have h9 := hv.2.2.2.1
    unfold val9
    rw [Int.toNat_natCast] at h ⊢
    refine Int.eq_of_mul_eq_mul_right (Int.ne_of_gt (pow_pos10 s)) ?_
    rw [← h]
    show m * p10 (9 - s) * p10 s = m * p10 9
    rw [Int.mul_assoc, ← p10_add, show 9 - s + s = 9 by omega]
  · cases h

theorem sign_val {m s : Int} : (m < 0 ↔ val9 m s < 0) ∧ (m = 0 ↔ val9 m s = 0) := by
  have hp := p10_pos (9 - s.toNat)
  unfold val9
  rcases Int.lt_trichotomy m 0 with h | h | h
  · have := Int.mul_neg_of_neg_of_pos h (show 0 < p10 (9 - s.toNat) by omega)
    omega
  · subst h; simp
  · have := Int.mul_pos h (show 0 < p10 (9 - s.toNat) by omega)
    omega

theorem Ordered.cases {Ma Sa Mb Sb Mc Sc X Y Z V Md Sd Ed : Int} (O : Ordered Ma Sa Mb Sb Mc Sc X Y Z V Md Sd Ed) :
    ((X = -1 ∧ Y = 1 ∧ ¬ (Ma = Mb ∧ Sa = Sb) ∧ (0 < Z ∨ V ≤ 0) ∧ (Ed = 5 ∨ (Ed = 0 ∧ Md < 0))) ∨ (X = 0 ∧ Y = 0 ∧ (Ma = Mb ∧ Sa = Sb) ∧ (0 < Z ∨ V ≤ 0) ∧ (Ed = 5 ∨ (Ed = 0 ∧ Md = 0)))) ∨ (X = 1 ∧ Y = -1 ∧ ¬ (Ma = Mb ∧ Sa = Sb) ∧ (Ed = 5 ∨ (Ed = 0 ∧ 0 < Md))) := by
  obtain ⟨va, vb, vc, x, y, z, v, d⟩ := O
  have hn : val9 (-Mb) Sb = - val9 Mb Sb := by unfold val9; rw [Int.neg_mul]
  have hE : Ed = 5 ∨ (Ed = 0 ∧ ((Md < 0 ↔ val9 Ma Sa < val9 Mb Sb) ∧ (Md = 0 ↔ val9 Ma Sa = val9 Mb Sb))) := by
    rcases (Denotes_valid d).2 with h | h
    · subst h
      have e := val_of_den d
      have s := sign_val (m := Md) (s := Sd)
      rw [e, hn] at s
      exact .inr ⟨rfl, by omega, by omega⟩
    · exact .inl h
  have h1 := cmp_cases (val9 Ma Sa) (val9 Mb Sb)
  have h2 := cmp_cases (val9 Mb Sb) (val9 Mc Sc)
  have h3 := cmp_cases (val9 Ma Sa) (val9 Mc Sc)
  rw [x, y] at h1
  rw [z] at h2
  rw [v] at h3
  by_cases heq : val9 Ma Sa = val9 Mb Sb
  · have hi := val_inj va vb heq
    left; right
    exact ⟨by omega, by omega, hi, by omega, by omega⟩
  · have hi : ¬ (Ma = Mb ∧ Sa = Sb) := fun hi => heq (by rw [hi.1, hi.2])
    by_cases hlt : val9 Ma Sa < val9 Mb Sb
    · left; left
      exact ⟨by omega, by omega, hi, by omega, by omega⟩
    · right
      exact ⟨by omega, by omega, hi, by omega⟩

set_option maxHeartbeats 2000000 in
theorem order_ok (Ma Sa Mb Sb Mc Sc X Y Z V Md Sd Ed : Int) (w : World) (h : Ready w) (O : Ordered Ma Sa Mb Sb Mc Sc X Y Z V Md Sd Ed) :
    Calls Tryd.prog 7 #[.agg #[.int .i64 Ma, .int .i64 Sa], .agg #[.int .i64 Mb, .int .i64 Sb], .agg #[.int .i64 Mc, .int .i64 Sc]] w fun e w' => e = .returned (.bool true) ∧ Below w.heap.size w w' := by
  have HR := Lib.hid h
  have HO := Lib.hid O
  clear h O
  go_enter Tryd.func7, Tryd.ntmps7
  go_wp2_with fail
  refine (cmp_is Ma Sa Mb Sb _ HO.out.va HO.out.vb X HO.out.x).mono ?_
  rintro e w1 ⟨rfl, hb⟩
  obtain ⟨hc, hf⟩ := bcell hb
  have hz := hb.size
  simp at hz
  go_wp2_with fail
  refine (cmp_is Mb Sb Ma Sa _ HO.out.vb HO.out.va Y HO.out.y).mono ?_
  rintro e w2 ⟨rfl, hk⟩
  have hb := hb.trans (hk.mono hb.size)
  clear hc hf hz hk
  obtain ⟨hc, hf⟩ := bcell hb
  have hz := hb.size
  simp at hz
  go_wp2_with fail
  refine (cmp_is Mb Sb Mc Sc _ HO.out.vb HO.out.vc Z HO.out.z).mono ?_
  rintro e w3 ⟨rfl, hk⟩
  have hb := hb.trans (hk.mono hb.size)
  clear hc hf hz hk
  obtain ⟨hc, hf⟩ := bcell hb
  have hz := hb.size
  simp at hz
  go_wp2_with fail
  refine (cmp_is Ma Sa Mc Sc _ HO.out.va HO.out.vc V HO.out.v).mono ?_
  rintro e w4 ⟨rfl, hk⟩
  have hb := hb.trans (hk.mono hb.size)
  clear hc hf hz hk
  obtain ⟨hc, hf⟩ := bcell hb
  have hz := hb.size
  simp at hz
  go_wp2_with fail
  refine (neg_ok Mb Sb _ HO.out.vb).mono ?_
  rintro e w5 ⟨rfl, hk⟩
  have hb := hb.trans (hk.mono hb.size)
  clear hc hf hz hk
  obtain ⟨hc, hf⟩ := bcell hb
  have hz := hb.size
  simp at hz
  have la : w.heap.size < w5.heap.size := by omega
  have lb : w.heap.size + 1 < w5.heap.size := by omega
  go_wp2_with fail
  refine (add_is Ma Sa (-Mb) Sb _ HO.out.va (valid_neg HO.out.vb) Md Sd Ed HO.out.d).mono ?_
  rintro e w6 ⟨rfl, hk⟩
  have hb := (hb.alloc hb.size _).trans (hk.mono (hb.alloc hb.size _).size)
  clear hc hf hz hk la lb
  obtain ⟨hc, hf⟩ := bcell hb
  have hz := hb.size
  simp at hz
  have la : w.heap.size < w6.heap.size := by omega
  have lb : w.heap.size + 1 < w6.heap.size := by omega
  have HB := Lib.hid hb
  have HR2 := Lib.hid ((HR.out.later ((((((Below.refl _ _).alloc (Nat.le_refl _) _).alloc (by simp) _).alloc (by simp; omega) _)).trans (HB.out.mono (by simp; omega)))).alloc (.cells #[.int .i64 Md, .int .i64 Sd] 23))
  have HC := Lib.hid HO.out.cases
  rcases HC.out with (⟨rfl, rfl, hne, hzv, hE⟩ | ⟨rfl, rfl, ⟨rfl, rfl⟩, hzv, hE⟩) | ⟨rfl, rfl, hne, hE⟩
  · clear HC HO
    have HN := Lib.hid hne
    clear hne
    rcases hE with rfl | ⟨rfl, hE⟩
    all_goals
      rcases hzv with hzv | hzv
    all_goals
      go_wp2_with (go_at_call 13; refine (awake_any _ HR2.out).mono ?_; rintro e w7 ⟨rfl, hk⟩; have hb := (hb.alloc hb.size _).trans (hk.mono (hb.alloc hb.size _).size); clear hc hf; obtain ⟨hc, hf⟩ := bcell hb; have hz2 := hb.size; simp at hz2)
    all_goals first
      | exact (HN.out ⟨by assumption, by assumption⟩).elim
      | (go_ret; exact ⟨rfl, ((((((Below.refl _ _).alloc (Nat.le_refl _) _).alloc (by simp) _).alloc (by simp; omega) _)).trans (hb.mono (by simp; omega)))⟩)
  · clear HC HO
    rcases hE with rfl | ⟨rfl, rfl⟩
    all_goals
      rcases hzv with hzv | hzv
    all_goals
      go_wp2_with (go_at_call 13; refine (awake_any _ HR2.out).mono ?_; rintro e w7 ⟨rfl, hk⟩; have hb := (hb.alloc hb.size _).trans (hk.mono (hb.alloc hb.size _).size); clear hc hf; obtain ⟨hc, hf⟩ := bcell hb; have hz2 := hb.size; simp at hz2)
    all_goals
      go_ret
      exact ⟨rfl, ((((((Below.refl _ _).alloc (Nat.le_refl _) _).alloc (by simp) _).alloc (by simp; omega) _)).trans (hb.mono (by simp; omega)))⟩
  · clear HC HO
    have HN := Lib.hid hne
    clear hne
    rcases hE with rfl | ⟨rfl, hE⟩
    · go_wp2_with (go_at_call 13; refine (awake_any _ HR2.out).mono ?_; rintro e w7 ⟨rfl, hk⟩; have hb := (hb.alloc hb.size _).trans (hk.mono (hb.alloc hb.size _).size); clear hc hf; obtain ⟨hc, hf⟩ := bcell hb; have hz2 := hb.size; simp at hz2)
      all_goals first
        | exact (HN.out ⟨by assumption, by assumption⟩).elim
        | (go_ret; exact ⟨rfl, ((((((Below.refl _ _).alloc (Nat.le_refl _) _).alloc (by simp) _).alloc (by simp; omega) _)).trans (hb.mono (by simp; omega)))⟩)
    · have h1 : ¬ Md < 0 := by omega
      have h2 : (Md == 0) = false := by rw [beq_eq_false_iff_ne]; omega
      clear hE
      go_wp2_with (go_at_call 13; refine (awake_any _ HR2.out).mono ?_; rintro e w7 ⟨rfl, hk⟩; have hb := (hb.alloc hb.size _).trans (hk.mono (hb.alloc hb.size _).size); clear hc hf; obtain ⟨hc, hf⟩ := bcell hb; have hz2 := hb.size; simp at hz2)
      all_goals first
        | exact (HN.out ⟨by assumption, by assumption⟩).elim
        | (go_ret; exact ⟨rfl, ((((((Below.refl _ _).alloc (Nat.le_refl _) _).alloc (by simp) _).alloc (by simp; omega) _)).trans (hb.mono (by simp; omega)))⟩)
end Go.Proofs.YtdadnljhmfllbaaDoor
