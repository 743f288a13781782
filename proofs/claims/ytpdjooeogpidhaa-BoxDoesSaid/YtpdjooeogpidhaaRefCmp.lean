/- The reference's Compare: the walk. -/
import Derived.Test.YtpdjooeogpidhaaRefNV
import Derived.Test.YtpdjooeogpidhaaDecCmp
namespace Go.Proofs.Ytpdjooeogpidhaa
open Go.RowKit Dec

/-- What Compare says of two numbers by their signs and digits. -/
def cmpN (b b' : Bool) (x y : Nat) : Int :=
  if b = b' then (if b = true then (if y < x then -1 else if x < y then 1 else 0) else (if x < y then -1 else if y < x then 1 else 0)) else (if b = true then -1 else 1)
theorem p10_nat (k : Nat) : p10 k = ((10 ^ k : Nat) : Int) := by unfold p10; push_cast; rfl
theorem val9_lift {m : Int} {s S : Nat} (hS : s ≤ S) (h9 : S ≤ 9) : val9 m s = m * ((10 ^ (S - s) : Nat) : Int) * p10 (9 - S) := by
  unfold val9
  rw [Int.toNat_natCast, show 9 - s = (S - s) + (9 - S) by omega, p10_add, p10_nat (S - s), Int.mul_assoc]
theorem cmp_is {m m' : Int} {s s' : Nat} (hv : Valid m s) (hv' : Valid m' s') :
    cmpN (decide (m < 0)) (decide (m' < 0)) (10 ^ (max s s' - s) * m.natAbs) (10 ^ (max s s' - s') * m'.natAbs) = Lib.compareInt (val9 m s) (val9 m' s') := by
  have h9 : max s s' ≤ 9 := by have := hv.2.2.2.1; have := hv'.2.2.2.1; omega
  rw [val9_lift (Nat.le_max_left s s') h9, val9_lift (Nat.le_max_right s s') h9]
  have hq := pow_pos10 (9 - max s s')
  have hq' : 0 < p10 (9 - max s s') := hq
  generalize p10 (9 - max s s') = Q at hq'
  have hp1 : 0 < 10 ^ (max s s' - s) := npow_pos10 _
  have hp2 : 0 < 10 ^ (max s s' - s') := npow_pos10 _
  generalize 10 ^ (max s s' - s) = p at *
  generalize 10 ^ (max s s' - s') = p' at *
  have cast1 : ((p * m.natAbs : Nat) : Int) = (p : Int) * (m.natAbs : Int) := by push_cast; rfl
  have cast2 : ((p' * m'.natAbs : Nat) : Int) = (p' : Int) * (m'.natAbs : Int) := by push_cast; rfl
  have sgn1 : m * (p : Int) = if m < 0 then -((p * m.natAbs : Nat) : Int) else ((p * m.natAbs : Nat) : Int) := by
    rw [cast1]
    split
    · rw [show (m.natAbs : Int) = -m by omega, Int.mul_neg, Int.neg_neg, Int.mul_comm]
    · rw [show (m.natAbs : Int) = m by omega, Int.mul_comm]
  have sgn2 : m' * (p' : Int) = if m' < 0 then -((p' * m'.natAbs : Nat) : Int) else ((p' * m'.natAbs : Nat) : Int) := by
    rw [cast2]
    split
    · rw [show (m'.natAbs : Int) = -m' by omega, Int.mul_neg, Int.neg_neg, Int.mul_comm]
    · rw [show (m'.natAbs : Int) = m' by omega, Int.mul_comm]
  have z1 : m < 0 → 0 < p * m.natAbs := fun h => Nat.mul_pos hp1 (by omega)
  have z2 : m' < 0 → 0 < p' * m'.natAbs := fun h => Nat.mul_pos hp2 (by omega)
  rw [sgn1, sgn2]
  generalize p * m.natAbs = x at *
  generalize p' * m'.natAbs = y at *
  clear cast1 cast2 sgn1 sgn2
  have hcmp : ∀ a b : Int, Lib.compareInt (a * Q) (b * Q) = Lib.compareInt a b := fun a b => by
    unfold Lib.compareInt
    have e1 : a * Q < b * Q ↔ a < b := Int.mul_lt_mul_right hq'
    have e2 : a * Q > b * Q ↔ a > b := Int.mul_lt_mul_right hq'
    simp only [e1, e2]
  rw [hcmp]
  unfold cmpN Lib.compareInt
  by_cases h1 : m < 0 <;> by_cases h2 : m' < 0 <;> simp only [h1, h2, decide_true, decide_false, if_true, if_false, reduceCtorEq, Bool.false_eq_true]
  · rcases Nat.lt_trichotomy x y with h | h | h
    · rw [if_neg (by omega), if_pos h, if_neg (by omega), if_pos (by omega)]
    · rw [if_neg (by omega), if_neg (by omega), if_neg (by omega), if_neg (by omega)]
    · rw [if_pos h, if_pos (by omega)]
  · have := z1 h1
    rw [if_pos (by omega)]
  · have := z2 h2
    rw [if_neg (by omega), if_pos (by omega)]
  · rcases Nat.lt_trichotomy x y with h | h | h
    · rw [if_pos h, if_pos (by omega)]
    · rw [if_neg (by omega), if_neg (by omega), if_neg (by omega), if_neg (by omega)]
    · rw [if_neg (by omega), if_pos h, if_neg (by omega), if_pos (by omega)]
theorem refcmp_bad (m s m' s' : Int) (w : World) (hv : ¬ (Valid m s ∧ Valid m' s')) :
    Calls Try.prog 52 #[.agg #[.int .i64 m, .int .i64 s], .agg #[.int .i64 m', .int .i64 s']] w fun e w' => e = .returned (.tuple #[.int .i64 0, .int .i64 1]) ∧ Below w.heap.size w w' := by
  have HA := Lib.hid (Whole.made w 23 #[.int .i64 m, .int .i64 s])
  by_cases h1 : Valid m s
  · have hd : decide (Valid m s) = true := decide_eq_true h1
    have hd' : decide (Valid m' s') = false := decide_eq_false (fun h => hv ⟨h1, h⟩)
    have HD := Lib.hid (And.intro hd hd')
    clear hv h1 hd hd'
    go_enter Try.func52, Try.ntmps52
    go_wp2_with fail
    refine (right_any m s _).mono ?_
    rintro e w1 ⟨rfl, hb⟩
    rw [HD.out.1]
    have hB : Whole w1 (w.heap.size + 1) 23 #[.int .i64 m', .int .i64 s'] := by
      have := (Whole.made (w.alloc (.cells #[.int .i64 m, .int .i64 s] 23)) 23 #[.int .i64 m', .int .i64 s']).here hb
      simpa using this
    have b0 : w1.cell? ⟨w.heap.size + 1, 0, none⟩ = some (.int .i64 m') := hB.reads 0
    have b1 : w1.cell? ⟨w.heap.size + 1, 1, none⟩ = some (.int .i64 s') := hB.reads 1
    have lb := hB.lt
    have HB := Lib.hid ((((Below.refl w.heap.size w).alloc (Nat.le_refl _) (.cells #[.int .i64 m, .int .i64 s] 23)).alloc (by simp) (.cells #[.int .i64 m', .int .i64 s'] 23)).trans (hb.mono (by simp; omega)))
    clear hb hB
    go_wp2_with fail
    refine (right_any m' s' _).mono ?_
    rintro e w2 ⟨rfl, hb⟩
    rw [HD.out.2]
    have HB2 := Lib.hid (HB.out.trans (hb.mono HB.out.size))
    clear hb
    go_wp2_with fail
    go_ret2
    exact ⟨rfl, HB2.out⟩
  · have hd : decide (Valid m s) = false := decide_eq_false h1
    have HD := Lib.hid hd
    clear hv h1 hd
    go_enter Try.func52, Try.ntmps52
    go_wp2_with fail
    refine (right_any m s _).mono ?_
    rintro e w1 ⟨rfl, hb⟩
    rw [HD.out]
    have HB := Lib.hid ((((Below.refl w.heap.size w).alloc (Nat.le_refl _) (.cells #[.int .i64 m, .int .i64 s] 23)).alloc (by simp) (.cells #[.int .i64 m', .int .i64 s'] 23)).trans (hb.mono (by simp; omega)))
    clear hb
    go_wp2_with fail
    go_ret2
    exact ⟨rfl, HB.out⟩
set_option maxRecDepth 100000 in
set_option maxHeartbeats 4000000 in
theorem refcmp_ok (m m' : Int) (s s' : Nat) (w : World) (hv : Valid m s) (hv' : Valid m' s') :
    Calls Try.prog 52 #[.agg #[.int .i64 m, .int .i64 s], .agg #[.int .i64 m', .int .i64 s']] w (fun e w' => e = .returned (.tuple #[.int .i64 (Lib.compareInt (val9 m s) (val9 m' s')), .int .i64 0]) ∧ Below w.heap.size w w') := by
  have hd : Hid (decide (Valid m s) = true) := decide_eq_true hv
  have hd' : Hid (decide (Valid m' s') = true) := decide_eq_true hv'
  have hcmp := cmp_is hv hv'
  have h1 := hv.1
  have h2 := hv.2.1
  have h3 := hv'.1
  have h4 := hv'.2.1
  have h5 := hv.2.2.2.1
  have h6 := hv'.2.2.2.1
  have HC := Lib.hid hcmp
  have HWA := Lib.hid (show Whole ((w.alloc (.cells #[.int .i64 m, .int .i64 s] 23)).alloc (.cells #[.int .i64 m', .int .i64 s'] 23)) w.heap.size 23 #[.int .i64 m, .int .i64 s] ∧ Whole ((w.alloc (.cells #[.int .i64 m, .int .i64 s] 23)).alloc (.cells #[.int .i64 m', .int .i64 s'] 23)) (w.heap.size + 1) 23 #[.int .i64 m', .int .i64 s'] ∧ Below w.heap.size w ((w.alloc (.cells #[.int .i64 m, .int .i64 s] 23)).alloc (.cells #[.int .i64 m', .int .i64 s'] 23)) from
    ⟨(Whole.made _ _ _).old _, by have := Whole.made (w.alloc (.cells #[.int .i64 m, .int .i64 s] 23)) 23 #[.int .i64 m', .int .i64 s']; simpa using this, ((Below.refl w.heap.size w).alloc (Nat.le_refl _) _).alloc (by simp) _⟩)
  clear hv hv' hcmp
  go_enter Try.func52, Try.ntmps52
  go_wp2_with fail
  refine (right_any m s _).mono ?_
  rintro e w1 ⟨rfl, hb⟩
  rw [hd.out]
  have HW1 := Lib.hid (show _ ∧ _ ∧ _ from ⟨HWA.out.1.here hb, HWA.out.2.1.here hb, HWA.out.2.2.trans (hb.mono HWA.out.2.2.size)⟩)
  clear hb HWA
  have b0 : w1.cell? ⟨w.heap.size + 1, 0, none⟩ = some (.int .i64 m') := HW1.out.2.1.reads 0
  have b1 : w1.cell? ⟨w.heap.size + 1, 1, none⟩ = some (.int .i64 s') := HW1.out.2.1.reads 1
  have lb := HW1.out.2.1.lt
  go_wp2_with fail
  refine (right_any m' s' _).mono ?_
  rintro e w2 ⟨rfl, hb⟩
  rw [hd'.out]
  have HW2 := Lib.hid (show _ ∧ _ ∧ _ from ⟨HW1.out.1.here hb, HW1.out.2.1.here hb, HW1.out.2.2.trans (hb.mono HW1.out.2.2.size)⟩)
  clear hb HW1 b0 b1 lb
  have a0 : w2.cell? ⟨w.heap.size, 0, none⟩ = some (.int .i64 m) := HW2.out.1.reads 0
  have a1 : w2.cell? ⟨w.heap.size, 1, none⟩ = some (.int .i64 s) := HW2.out.1.reads 1
  have la := HW2.out.1.lt
  go_wp2_with fail
  refine (of_num m s _ (by omega)).mono ?_
  rintro e w3 ⟨v6, rfl, hown, hb⟩
  obtain ⟨av6, cv6, rfl⟩ := own_slice' hown
  have HW3 := Lib.hid (show Whole (w3.alloc (.cells #[.bool (decide (m < 0)), .slice av6 (digs m.natAbs).length cv6, .int .i64 s] 90)) (w.heap.size + 1) 23 #[.int .i64 m', .int .i64 s'] ∧ Below w.heap.size w (w3.alloc (.cells #[.bool (decide (m < 0)), .slice av6 (digs m.natAbs).length cv6, .int .i64 s] 90)) ∧ NV (w3.alloc (.cells #[.bool (decide (m < 0)), .slice av6 (digs m.natAbs).length cv6, .int .i64 s] 90)) w3.heap.size (decide (m < 0)) (digs m.natAbs) s (.slice av6 (digs m.natAbs).length cv6) w2.heap.size ∧ w.heap.size ≤ w3.heap.size from by
    have h := HW2.out.2.2.trans (hb.mono HW2.out.2.2.size)
    exact ⟨(HW2.out.2.1.here hb).old _, h.alloc h.size _, NV.made hown, h.size⟩)
  clear hb HW2 a0 a1 la hown
  have b0 : (w3.alloc (.cells #[.bool (decide (m < 0)), .slice av6 (digs m.natAbs).length cv6, .int .i64 s] 90)).cell? ⟨w.heap.size + 1, 0, none⟩ = some (.int .i64 m') := HW3.out.1.reads 0
  have b1 : (w3.alloc (.cells #[.bool (decide (m < 0)), .slice av6 (digs m.natAbs).length cv6, .int .i64 s] 90)).cell? ⟨w.heap.size + 1, 1, none⟩ = some (.int .i64 s') := HW3.out.1.reads 1
  have lb := HW3.out.1.lt
  go_wp2_with fail
  refine (of_num m' s' _ (by omega)).mono ?_
  rintro e w4 ⟨v7, rfl, hown, hb⟩
  obtain ⟨av7, cv7, rfl⟩ := own_slice' hown
  have hl6 := lifted_len 0 m.natAbs (by omega)
  have hl7 := lifted_len 0 m'.natAbs (by omega)
  have hS : (max (s : Int) (s' : Int)) = ((max s s' : Nat) : Int) := by omega
  have hS9 : max s s' ≤ 9 := by omega
  have hlen6 : (digs m.natAbs).length ≤ 18 := digs_len 18 _ (by omega)
  have hlen7 : (digs m'.natAbs).length ≤ 18 := digs_len 18 _ (by omega)
  clear b0 b1 lb
  go_upto_region 5 with fail
  generalize hbA : decide (m < 0) = bA at *
  generalize hbB : decide (m' < 0) = bB at *
  have hu1 : m.natAbs ≤ 999999999999999999 := by omega
  have hu2 : m'.natAbs ≤ 999999999999999999 := by omega
  generalize m.natAbs = u at *
  generalize m'.natAbs = u' at *
  have HW4 := Lib.hid (show Below w.heap.size w (w4.alloc (.cells #[.bool bB, .slice av7 (digs u').length cv7, .int .i64 s'] 90)) ∧ NV (w4.alloc (.cells #[.bool bB, .slice av7 (digs u').length cv7, .int .i64 s'] 90)) w3.heap.size bA (digs u) s (.slice av6 (digs u).length cv6) w2.heap.size ∧ NV (w4.alloc (.cells #[.bool bB, .slice av7 (digs u').length cv7, .int .i64 s'] 90)) w4.heap.size bB (digs u') s' (.slice av7 (digs u').length cv7) _ ∧ w3.heap.size ≠ w4.heap.size ∧ w.heap.size ≤ w3.heap.size ∧ w.heap.size ≤ w4.heap.size from by
    have h := HW3.out.2.1.trans (hb.mono HW3.out.2.1.size)
    have hz := hb.size
    have hz2 := HW3.out.2.2.2
    simp at hz
    exact ⟨h.alloc h.size _, (HW3.out.2.2.1.later hb).old _, NV.made hown, by omega, by omega, by omega⟩)
  clear hb HW3 hown hl6 hl7
  generalize w3.heap.size = P6 at *
  generalize hW4 : w4.alloc (.cells #[.bool bB, .slice av7 (digs u').length cv7, .int .i64 s'] 90) = W4 at *
  generalize w4.heap.size = P7 at *
  clear hW4
  obtain ⟨a0, a1, a2, af, al⟩ := HW4.out.2.1.cells
  obtain ⟨b0, b1, b2, bf, bl⟩ := HW4.out.2.2.1.cells
  clear af bf
  go_wp2_with fail
  refine (lift_is bA _ u s (max s s') W4 HW4.out.2.1.row (by omega) (by omega) (by omega)).mono ?_
  rintro e w5 ⟨v5, rfl, hown, hb⟩
  obtain ⟨av5, cv5, rfl⟩ := own_slice' hown
  have ha5 := HW4.out.2.1.later hb
  have hb5 := HW4.out.2.2.1.later hb
  obtain ⟨a0', a1', a2', af', al'⟩ := ha5.cells
  have af0 := af' 0
  have af1 := af' 1
  have af2 := af' 2
  have k1 := below_set3 (HW4.out.1.trans (hb.mono HW4.out.1.size)) HW4.out.2.2.2.2.1 (.bool bA) (.slice av5 (lifted (max s s' - s) u).length cv5) (.int .i64 ((max s (max s s') : Nat) : Int))
  have k2 := ha5.store hown (b' := bA) (s' := ((max s (max s s') : Nat) : Int))
  have k3 := hb5.aside ha5.1 (Ne.symm HW4.out.2.2.2.1) (.bool bA) (.slice av5 (lifted (max s s' - s) u).length cv5) (.int .i64 ((max s (max s s') : Nat) : Int))
  have HW5 := Lib.hid (And.intro k1 (And.intro k2 (And.intro k3 HW4.out.2.2.2)))
  have hln5 := lifted_len (max s s' - s) u (by omega)
  clear k1 k2 k3 ha5 hb5 af' hown hb a0 a1 a2 al b0 b1 b2 bl
  go_upto_region 7 with fail
  generalize hW6 : ((w5.setCell ⟨P6, 0, none⟩ (.bool bA)).setCell ⟨P6, 1, none⟩ (.slice av5 (lifted (max s s' - s) u).length cv5)).setCell ⟨P6, 2, none⟩ (.int .i64 ((max s (max s s') : Nat) : Int)) = W6 at *
  clear hW6 a0' a1' a2' al' af0 af1 af2
  obtain ⟨b0, b1, b2, -, bl⟩ := HW5.out.2.2.1.cells
  go_wp2_with fail
  refine (lift_is bB _ u' s' (max s s') W6 HW5.out.2.2.1.row (by omega) (by omega) (by omega)).mono ?_
  rintro e w7 ⟨v8, rfl, hown, hb⟩
  obtain ⟨av8, cv8, rfl⟩ := own_slice' hown
  have ha7 := HW5.out.2.1.later hb
  have hb7 := HW5.out.2.2.1.later hb
  obtain ⟨b0', b1', b2', bf', bl'⟩ := hb7.cells
  have bf0 := bf' 0
  have bf1 := bf' 1
  have bf2 := bf' 2
  have k1 := below_set3 (HW5.out.1.trans (hb.mono HW5.out.1.size)) HW5.out.2.2.2.2.2 (.bool bB) (.slice av8 (lifted (max s s' - s') u').length cv8) (.int .i64 ((max s' (max s s') : Nat) : Int))
  have k2 := hb7.store hown (b' := bB) (s' := ((max s' (max s s') : Nat) : Int))
  have k3 := ha7.aside hb7.1 HW5.out.2.2.2.1 (.bool bB) (.slice av8 (lifted (max s s' - s') u').length cv8) (.int .i64 ((max s' (max s s') : Nat) : Int))
  have HW7 := Lib.hid (And.intro k1 (And.intro k2 k3))
  have hln8 := lifted_len (max s s' - s') u' (by omega)
  clear k1 k2 k3 ha7 hb7 bf' hown hb b0 b1 b2 bl HW5
  go_upto_region 8 with fail
  generalize hW8 : ((w7.setCell ⟨P7, 0, none⟩ (.bool bB)).setCell ⟨P7, 1, none⟩ (.slice av8 (lifted (max s s' - s') u').length cv8)).setCell ⟨P7, 2, none⟩ (.int .i64 ((max s' (max s s') : Nat) : Int)) = W8 at *
  clear hW8 b0' b1' b2' bl' bf0 bf1 bf2
  obtain ⟨a0, a1, -, -, al⟩ := HW7.out.2.2.cells
  obtain ⟨b0, b1, -, -, bl⟩ := HW7.out.2.1.cells
  have hxy := HC.out
  have hnum1 := lifted_num (max s s' - s) u
  have hnum2 := lifted_num (max s s' - s') u'
  rw [← hnum1, ← hnum2] at hxy
  have hl1 := less_any _ _ _ _ W8 HW7.out.2.2.reads HW7.out.2.1.reads (lifted_digs _ _) (lifted_digs _ _) (by omega) (by omega)
  have hl2 := less_any _ _ _ _ W8 HW7.out.2.1.reads HW7.out.2.2.reads (lifted_digs _ _) (lifted_digs _ _) (by omega) (by omega)
  have HL := Lib.hid (And.intro hl1 hl2)
  have HXY := Lib.hid hxy
  clear hxy hnum1 hnum2 hl1 hl2 HC
  generalize num (lifted (max s s' - s) u) = x at *
  generalize num (lifted (max s s' - s') u') = y at *
  go_wp2_with fail
  refine HL.out.1.mono ?_
  rintro e w9 ⟨rfl, rfl⟩
  go_wp2_with fail
  refine HL.out.2.mono ?_
  rintro e w10 ⟨rfl, rfl⟩
  have hfin : ∀ c : Int, cmpN bA bB x y = c → (Ending.returned (.tuple #[.int .i64 c, .int .i64 0]) = Ending.returned (.tuple #[.int .i64 (Lib.compareInt (val9 m s) (val9 m' s')), .int .i64 0]) ∧ Below w.heap.size w W8) := fun c h => ⟨by rw [← HXY.out, h], HW7.out.1⟩
  have HFIN := Lib.hid hfin
  clear hfin HL
  cases bA <;> cases bB
  · rcases Nat.lt_trichotomy x y with h | h | h
    · have q1 : decide (x < y) = true := decide_eq_true h
      have q2 : decide (y < x) = false := decide_eq_false (by omega)
      go_wp2_with fail
      go_ret2
      exact HFIN.out _ (by unfold cmpN; simp [h])
    · have q1 : decide (x < y) = false := decide_eq_false (by omega)
      have q2 : decide (y < x) = false := decide_eq_false (by omega)
      go_wp2_with fail
      go_ret2
      exact HFIN.out _ (by unfold cmpN; simp [h])
    · have q1 : decide (x < y) = false := decide_eq_false (by omega)
      have q2 : decide (y < x) = true := decide_eq_true h
      go_wp2_with fail
      go_ret2
      exact HFIN.out _ (by unfold cmpN; simp [h]; omega)
  · go_wp2_with fail
    go_ret2
    exact HFIN.out _ (by unfold cmpN; simp)
  · go_wp2_with fail
    go_ret2
    exact HFIN.out _ (by unfold cmpN; simp)
  · rcases Nat.lt_trichotomy x y with h | h | h
    · have q1 : decide (x < y) = true := decide_eq_true h
      have q2 : decide (y < x) = false := decide_eq_false (by omega)
      go_wp2_with fail
      go_ret2
      exact HFIN.out _ (by unfold cmpN; simp [h]; omega)
    · have q1 : decide (x < y) = false := decide_eq_false (by omega)
      have q2 : decide (y < x) = false := decide_eq_false (by omega)
      go_wp2_with fail
      go_ret2
      exact HFIN.out _ (by unfold cmpN; simp [h])
    · have q1 : decide (x < y) = false := decide_eq_false (by omega)
      have q2 : decide (y < x) = true := decide_eq_true h
      go_wp2_with fail
      go_ret2
      exact HFIN.out _ (by unfold cmpN; simp [h])
end Go.Proofs.Ytpdjooeogpidhaa
