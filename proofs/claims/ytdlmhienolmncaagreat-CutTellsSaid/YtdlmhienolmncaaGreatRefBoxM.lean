/- The reference's Compare: the walk. -/
import Derived.Test.YtdlmhienolmncaaGreatRefNV
import Derived.Test.YtdlmhienolmncaaGreatDecCmp
import Derived.Test.YtdlmhienolmncaaGreatMatMath
import Derived.Test.YtdlmhienolmncaaGreatMem
import Derived.Test.YtdlmhienolmncaaGreatBoxWalkA
import Derived.Test.YtdlmhienolmncaaGreatRegionC
import Derived.Test.YtdlmhienolmncaaGreatBoxOf
import Derived.Test.YtdlmhienolmncaaGreatBoxBoth
import Derived.Deep.RegionHeld3
namespace Go.Proofs.YtdlmhienolmncaaGreat
open Go.RowKit Dec

/-- What Compare says of two numbers by their signs and digits. -/
def cmpN (b b' : Bool) (x y : Nat) : Int :=
  if b = b' then (if b = true then (if y < x then -1 else if x < y then 1 else 0) else (if x < y then -1 else if y < x then 1 else 0)) else (if b = true then -1 else 1)
theorem p10_nat (k : Nat) : p10 k = ((10 ^ k : Nat) : Int) := by unfold p10; push_cast; rfl
theorem val9_lift {m : Int} {s S : Nat} (hS : s ≤ S) (h9 : S ≤ 9) : val9 m s = m * ((10 ^ (S - s) : Nat) : Int) * p10 (9 - S) := by
  unfold val9
  rw [Int.toNat_natCast, show 9 - s = (S - s) + (9 - S) by omega, p10_add, p10_nat (S - s), Int.mul_assoc]
theorem cmp_is {m m' : Int} {s s' : Nat} (hv : Valid m s) (hv' : Valid m' s') :
    cmpN (decide (m < 0)) (decide (m' < 0)) (10 ^ (max s s' - s) * m.natAbs) (10 ^ (max s s' - s') * m'.natAbs) = Lib.compareInt (val9 m s) (val9 m' s') := by
  have h9 : max s s' ≤ 9 := by have := hv.2.2.2.1; have := hv'.2.2.2.1; omega
  rw [val9_lift (Nat.le_max_left s s') h9, val9_lift (Nat.le_max_right s s') h9]
  have hq := pow_pos10 (9 - max s s')
  have hq' : 0 < p10 (9 - max s s') := hq
  generalize p10 (9 - max s s') = Q at hq'
  have hp1 : 0 < 10 ^ (max s s' - s) := npow_pos10 _
  have hp2 : 0 < 10 ^ (max s s' - s') := npow_pos10 _
  generalize 10 ^ (max s s' - s) = p at *
  generalize 10 ^ (max s s' - s') = p' at *
  have cast1 : ((p * m.natAbs : Nat) : Int) = (p : Int) * (m.natAbs : Int) := by push_cast; rfl
  have cast2 : ((p' * m'.natAbs : Nat) : Int) = (p' : Int) * (m'.natAbs : Int) := by push_cast; rfl
  have sgn1 : m * (p : Int) = if m < 0 then -((p * m.natAbs : Nat) : Int) else ((p * m.natAbs : Nat) : Int) := by
    rw [cast1]
    split
    · rw [show (m.natAbs : Int) = -m by omega, Int.mul_neg, Int.neg_neg, Int.mul_comm]
    · rw [show (m.natAbs : Int) = m by omega, Int.mul_comm]
  have sgn2 : m' * (p' : Int) = if m' < 0 then -((p' * m'.natAbs : Nat) : Int) else ((p' * m'.natAbs : Nat) : Int) := by
    rw [cast2]
    split
    · rw [show (m'.natAbs : Int) = -m' by omega, Int.mul_neg, Int.neg_neg, Int.mul_comm]
    · rw [show (m'.natAbs : Int) = m' by omega, Int.mul_comm]
  have z1 : m < 0 → 0 < p * m.natAbs := fun h => Nat.mul_pos hp1 (by omega)
  have z2 : m' < 0 → 0 < p' * m'.natAbs := fun h => Nat.mul_pos hp2 (by omega)
  rw [sgn1, sgn2]
  generalize p * m.natAbs = x at *
  generalize p' * m'.natAbs = y at *
  clear cast1 cast2 sgn1 sgn2
  have hcmp : ∀ a b : Int, Lib.compareInt (a * Q) (b * Q) = Lib.compareInt a b := fun a b => by
    unfold Lib.compareInt
    have e1 : a * Q < b * Q ↔ a < b := Int.mul_lt_mul_right hq'
    have e2 : a * Q > b * Q ↔ a > b := Int.mul_lt_mul_right hq'
    simp only [e1, e2]
  rw [hcmp]
  unfold cmpN Lib.compareInt
  by_cases h1 : m < 0 <;> by_cases h2 : m' < 0 <;> simp only [h1, h2, decide_true, decide_false, if_true, if_false, reduceCtorEq, Bool.false_eq_true]
  · rcases Nat.lt_trichotomy x y with h | h | h
    · rw [if_neg (by omega), if_pos h, if_neg (by omega), if_pos (by omega)]
    · rw [if_neg (by omega), if_neg (by omega), if_neg (by omega), if_neg (by omega)]
    · rw [if_pos h, if_pos (by omega)]
  · have := z1 h1
    rw [if_pos (by omega)]
  · have := z2 h2
    rw [if_neg (by omega), if_pos (by omega)]
  · rcases Nat.lt_trichotomy x y with h | h | h
    · rw [if_pos h, if_pos (by omega)]
    · rw [if_neg (by omega), if_neg (by omega), if_neg (by omega), if_neg (by omega)]
    · rw [if_neg (by omega), if_pos h, if_neg (by omega), if_pos (by omega)]
theorem refcmp_bad (m s m' s' : Int) (w : World) (hv : ¬ (Valid m s ∧ Valid m' s')) :
    Calls Tryz.prog 83 #[.agg #[.int .i64 m, .int .i64 s], .agg #[.int .i64 m', .int .i64 s']] w fun e w' => e = .returned (.tuple #[.int .i64 0, .int .i64 1]) ∧ Below w.heap.size w w' := by
  have HA := Lib.hid (Whole.made w 47 #[.int .i64 m, .int .i64 s])
  by_cases h1 : Valid m s
  · have hd : decide (Valid m s) = true := decide_eq_true h1
    have hd' : decide (Valid m' s') = false := decide_eq_false (fun h => hv ⟨h1, h⟩)
    have HD := Lib.hid (And.intro hd hd')
    clear hv h1 hd hd'
    go_enter Tryz.func83, Tryz.ntmps83
    go_wp2_with fail
    refine (right_any m s _).mono ?_
    rintro e w1 ⟨rfl, hb⟩
    rw [HD.out.1]
    have hB : Whole w1 (w.heap.size + 1) 47 #[.int .i64 m', .int .i64 s'] := by
      have := (Whole.made (w.alloc (.cells #[.int .i64 m, .int .i64 s] 47)) 47 #[.int .i64 m', .int .i64 s']).here hb
      simpa using this
    have b0 : w1.cell? ⟨w.heap.size + 1, 0, none⟩ = some (.int .i64 m') := hB.reads 0
    have b1 : w1.cell? ⟨w.heap.size + 1, 1, none⟩ = some (.int .i64 s') := hB.reads 1
    have lb := hB.lt
    have HB := Lib.hid ((((Below.refl w.heap.size w).alloc (Nat.le_refl _) (.cells #[.int .i64 m, .int .i64 s] 47)).alloc (by simp) (.cells #[.int .i64 m', .int .i64 s'] 47)).trans (hb.mono (by simp; omega)))
    clear hb hB
    go_wp2_with fail
    refine (right_any m' s' _).mono ?_
    rintro e w2 ⟨rfl, hb⟩
    rw [HD.out.2]
    have HB2 := Lib.hid (HB.out.trans (hb.mono HB.out.size))
    clear hb
    go_wp2_with fail
    go_ret2
    exact ⟨rfl, HB2.out⟩
  · have hd : decide (Valid m s) = false := decide_eq_false h1
    have HD := Lib.hid hd
    clear hv h1 hd
    go_enter Tryz.func83, Tryz.ntmps83
    go_wp2_with fail
    refine (right_any m s _).mono ?_
    rintro e w1 ⟨rfl, hb⟩
    rw [HD.out]
    have HB := Lib.hid ((((Below.refl w.heap.size w).alloc (Nat.le_refl _) (.cells #[.int .i64 m, .int .i64 s] 47)).alloc (by simp) (.cells #[.int .i64 m', .int .i64 s'] 47)).trans (hb.mono (by simp; omega)))
    clear hb
    go_wp2_with fail
    go_ret2
    exact ⟨rfl, HB.out⟩
set_option maxRecDepth 100000 in
set_option maxHeartbeats 4000000 in
theorem refcmp_ok (m m' : Int) (s s' : Nat) (w : World) (hv : Valid m s) (hv' : Valid m' s') :
    Calls Tryz.prog 83 #[.agg #[.int .i64 m, .int .i64 s], .agg #[.int .i64 m', .int .i64 s']] w (fun e w' => e = .returned (.tuple #[.int .i64 (Lib.compareInt (val9 m s) (val9 m' s')), .int .i64 0]) ∧ Below w.heap.size w w') := by
  have hd : Hid (decide (Valid m s) = true) := decide_eq_true hv
  have hd' : Hid (decide (Valid m' s') = true) := decide_eq_true hv'
  have hcmp := cmp_is hv hv'
  have h1 := hv.1
  have h2 := hv.2.1
  have h3 := hv'.1
  have h4 := hv'.2.1
  have h5 := hv.2.2.2.1
  have h6 := hv'.2.2.2.1
  have HC := Lib.hid hcmp
  have HWA := Lib.hid (show Whole ((w.alloc (.cells #[.int .i64 m, .int .i64 s] 47)).alloc (.cells #[.int .i64 m', .int .i64 s'] 47)) w.heap.size 47 #[.int .i64 m, .int .i64 s] ∧ Whole ((w.alloc (.cells #[.int .i64 m, .int .i64 s] 47)).alloc (.cells #[.int .i64 m', .int .i64 s'] 47)) (w.heap.size + 1) 47 #[.int .i64 m', .int .i64 s'] ∧ Below w.heap.size w ((w.alloc (.cells #[.int .i64 m, .int .i64 s] 47)).alloc (.cells #[.int .i64 m', .int .i64 s'] 47)) from
    ⟨(Whole.made _ _ _).old _, by have := Whole.made (w.alloc (.cells #[.int .i64 m, .int .i64 s] 47)) 47 #[.int .i64 m', .int .i64 s']; simpa using this, ((Below.refl w.heap.size w).alloc (Nat.le_refl _) _).alloc (by simp) _⟩)
  clear hv hv' hcmp
  go_enter Tryz.func83, Tryz.ntmps83
  go_wp2_with fail
  refine (right_any m s _).mono ?_
  rintro e w1 ⟨rfl, hb⟩
  rw [hd.out]
  have HW1 := Lib.hid (show _ ∧ _ ∧ _ from ⟨HWA.out.1.here hb, HWA.out.2.1.here hb, HWA.out.2.2.trans (hb.mono HWA.out.2.2.size)⟩)
  clear hb HWA
  have b0 : w1.cell? ⟨w.heap.size + 1, 0, none⟩ = some (.int .i64 m') := HW1.out.2.1.reads 0
  have b1 : w1.cell? ⟨w.heap.size + 1, 1, none⟩ = some (.int .i64 s') := HW1.out.2.1.reads 1
  have lb := HW1.out.2.1.lt
  go_wp2_with fail
  refine (right_any m' s' _).mono ?_
  rintro e w2 ⟨rfl, hb⟩
  rw [hd'.out]
  have HW2 := Lib.hid (show _ ∧ _ ∧ _ from ⟨HW1.out.1.here hb, HW1.out.2.1.here hb, HW1.out.2.2.trans (hb.mono HW1.out.2.2.size)⟩)
  clear hb HW1 b0 b1 lb
  have a0 : w2.cell? ⟨w.heap.size, 0, none⟩ = some (.int .i64 m) := HW2.out.1.reads 0
  have a1 : w2.cell? ⟨w.heap.size, 1, none⟩ = some (.int .i64 s) := HW2.out.1.reads 1
  have la := HW2.out.1.lt
  go_wp2_with fail
  refine (of_num m s _ (by omega)).mono ?_
  rintro e w3 ⟨v6, rfl, hown, hb⟩
  obtain ⟨av6, cv6, rfl⟩ := own_slice' hown
  have HW3 := Lib.hid (show Whole (w3.alloc (.cells #[.bool (decide (m < 0)), .slice av6 (digs m.natAbs).length cv6, .int .i64 s] 174)) (w.heap.size + 1) 47 #[.int .i64 m', .int .i64 s'] ∧ Below w.heap.size w (w3.alloc (.cells #[.bool (decide (m < 0)), .slice av6 (digs m.natAbs).length cv6, .int .i64 s] 174)) ∧ NV (w3.alloc (.cells #[.bool (decide (m < 0)), .slice av6 (digs m.natAbs).length cv6, .int .i64 s] 174)) w3.heap.size (decide (m < 0)) (digs m.natAbs) s (.slice av6 (digs m.natAbs).length cv6) w2.heap.size ∧ w.heap.size ≤ w3.heap.size from by
    have h := HW2.out.2.2.trans (hb.mono HW2.out.2.2.size)
    exact ⟨(HW2.out.2.1.here hb).old _, h.alloc h.size _, NV.made hown, h.size⟩)
  clear hb HW2 a0 a1 la hown
  have b0 : (w3.alloc (.cells #[.bool (decide (m < 0)), .slice av6 (digs m.natAbs).length cv6, .int .i64 s] 174)).cell? ⟨w.heap.size + 1, 0, none⟩ = some (.int .i64 m') := HW3.out.1.reads 0
  have b1 : (w3.alloc (.cells #[.bool (decide (m < 0)), .slice av6 (digs m.natAbs).length cv6, .int .i64 s] 174)).cell? ⟨w.heap.size + 1, 1, none⟩ = some (.int .i64 s') := HW3.out.1.reads 1
  have lb := HW3.out.1.lt
  go_wp2_with fail
  refine (of_num m' s' _ (by omega)).mono ?_
  rintro e w4 ⟨v7, rfl, hown, hb⟩
  obtain ⟨av7, cv7, rfl⟩ := own_slice' hown
  have hl6 := lifted_len 0 m.natAbs (by omega)
  have hl7 := lifted_len 0 m'.natAbs (by omega)
  have hS : (max (s : Int) (s' : Int)) = ((max s s' : Nat) : Int) := by omega
  have hS9 : max s s' ≤ 9 := by omega
  have hlen6 : (digs m.natAbs).length ≤ 18 := digs_len 18 _ (by omega)
  have hlen7 : (digs m'.natAbs).length ≤ 18 := digs_len 18 _ (by omega)
  clear b0 b1 lb
  go_upto_region 5 with fail
  generalize hbA : decide (m < 0) = bA at *
  generalize hbB : decide (m' < 0) = bB at *
  have hu1 : m.natAbs ≤ 999999999999999999 := by omega
  have hu2 : m'.natAbs ≤ 999999999999999999 := by omega
  generalize m.natAbs = u at *
  generalize m'.natAbs = u' at *
  have HW4 := Lib.hid (show Below w.heap.size w (w4.alloc (.cells #[.bool bB, .slice av7 (digs u').length cv7, .int .i64 s'] 174)) ∧ NV (w4.alloc (.cells #[.bool bB, .slice av7 (digs u').length cv7, .int .i64 s'] 174)) w3.heap.size bA (digs u) s (.slice av6 (digs u).length cv6) w2.heap.size ∧ NV (w4.alloc (.cells #[.bool bB, .slice av7 (digs u').length cv7, .int .i64 s'] 174)) w4.heap.size bB (digs u') s' (.slice av7 (digs u').length cv7) _ ∧ w3.heap.size ≠ w4.heap.size ∧ w.heap.size ≤ w3.heap.size ∧ w.heap.size ≤ w4.heap.size from by
    have h := HW3.out.2.1.trans (hb.mono HW3.out.2.1.size)
    have hz := hb.size
    have hz2 := HW3.out.2.2.2
    simp at hz
    exact ⟨h.alloc h.size _, (HW3.out.2.2.1.later hb).old _, NV.made hown, by omega, by omega, by omega⟩)
  clear hb HW3 hown hl6 hl7
  generalize w3.heap.size = P6 at *
  generalize hW4 : w4.alloc (.cells #[.bool bB, .slice av7 (digs u').length cv7, .int .i64 s'] 174) = W4 at *
  generalize w4.heap.size = P7 at *
  clear hW4
  obtain ⟨a0, a1, a2, af, al⟩ := HW4.out.2.1.cells
  obtain ⟨b0, b1, b2, bf, bl⟩ := HW4.out.2.2.1.cells
  clear af bf
  go_wp2_with fail
  refine (lift_is bA _ u s (max s s') W4 HW4.out.2.1.row (by omega) (by omega) (by omega)).mono ?_
  rintro e w5 ⟨v5, rfl, hown, hb⟩
  obtain ⟨av5, cv5, rfl⟩ := own_slice' hown
  have ha5 := HW4.out.2.1.later hb
  have hb5 := HW4.out.2.2.1.later hb
  obtain ⟨a0', a1', a2', af', al'⟩ := ha5.cells
  have af0 := af' 0
  have af1 := af' 1
  have af2 := af' 2
  have k1 := below_set3 (HW4.out.1.trans (hb.mono HW4.out.1.size)) HW4.out.2.2.2.2.1 (.bool bA) (.slice av5 (lifted (max s s' - s) u).length cv5) (.int .i64 ((max s (max s s') : Nat) : Int))
  have k2 := ha5.store hown (b' := bA) (s' := ((max s (max s s') : Nat) : Int))
  have k3 := hb5.aside ha5.1 (Ne.symm HW4.out.2.2.2.1) (.bool bA) (.slice av5 (lifted (max s s' - s) u).length cv5) (.int .i64 ((max s (max s s') : Nat) : Int))
  have HW5 := Lib.hid (And.intro k1 (And.intro k2 (And.intro k3 HW4.out.2.2.2)))
  have hln5 := lifted_len (max s s' - s) u (by omega)
  clear k1 k2 k3 ha5 hb5 af' hown hb a0 a1 a2 al b0 b1 b2 bl
  go_upto_region 7 with fail
  generalize hW6 : ((w5.setCell ⟨P6, 0, none⟩ (.bool bA)).setCell ⟨P6, 1, none⟩ (.slice av5 (lifted (max s s' - s) u).length cv5)).setCell ⟨P6, 2, none⟩ (.int .i64 ((max s (max s s') : Nat) : Int)) = W6 at *
  clear hW6 a0' a1' a2' al' af0 af1 af2
  obtain ⟨b0, b1, b2, -, bl⟩ := HW5.out.2.2.1.cells
  go_wp2_with fail
  refine (lift_is bB _ u' s' (max s s') W6 HW5.out.2.2.1.row (by omega) (by omega) (by omega)).mono ?_
  rintro e w7 ⟨v8, rfl, hown, hb⟩
  obtain ⟨av8, cv8, rfl⟩ := own_slice' hown
  have ha7 := HW5.out.2.1.later hb
  have hb7 := HW5.out.2.2.1.later hb
  obtain ⟨b0', b1', b2', bf', bl'⟩ := hb7.cells
  have bf0 := bf' 0
  have bf1 := bf' 1
  have bf2 := bf' 2
  have k1 := below_set3 (HW5.out.1.trans (hb.mono HW5.out.1.size)) HW5.out.2.2.2.2.2 (.bool bB) (.slice av8 (lifted (max s s' - s') u').length cv8) (.int .i64 ((max s' (max s s') : Nat) : Int))
  have k2 := hb7.store hown (b' := bB) (s' := ((max s' (max s s') : Nat) : Int))
  have k3 := ha7.aside hb7.1 HW5.out.2.2.2.1 (.bool bB) (.slice av8 (lifted (max s s' - s') u').length cv8) (.int .i64 ((max s' (max s s') : Nat) : Int))
  have HW7 := Lib.hid (And.intro k1 (And.intro k2 k3))
  have hln8 := lifted_len (max s s' - s') u' (by omega)
  clear k1 k2 k3 ha7 hb7 bf' hown hb b0 b1 b2 bl HW5
  go_upto_region 8 with fail
  generalize hW8 : ((w7.setCell ⟨P7, 0, none⟩ (.bool bB)).setCell ⟨P7, 1, none⟩ (.slice av8 (lifted (max s s' - s') u').length cv8)).setCell ⟨P7, 2, none⟩ (.int .i64 ((max s' (max s s') : Nat) : Int)) = W8 at *
  clear hW8 b0' b1' b2' bl' bf0 bf1 bf2
  obtain ⟨a0, a1, -, -, al⟩ := HW7.out.2.2.cells
  obtain ⟨b0, b1, -, -, bl⟩ := HW7.out.2.1.cells
  have hxy := HC.out
  have hnum1 := lifted_num (max s s' - s) u
  have hnum2 := lifted_num (max s s' - s') u'
  rw [← hnum1, ← hnum2] at hxy
  have hl1 := less_any _ _ _ _ W8 HW7.out.2.2.reads HW7.out.2.1.reads (lifted_digs _ _) (lifted_digs _ _) (by omega) (by omega)
  have hl2 := less_any _ _ _ _ W8 HW7.out.2.1.reads HW7.out.2.2.reads (lifted_digs _ _) (lifted_digs _ _) (by omega) (by omega)
  have HL := Lib.hid (And.intro hl1 hl2)
  have HXY := Lib.hid hxy
  clear hxy hnum1 hnum2 hl1 hl2 HC
  generalize num (lifted (max s s' - s) u) = x at *
  generalize num (lifted (max s s' - s') u') = y at *
  go_wp2_with fail
  refine HL.out.1.mono ?_
  rintro e w9 ⟨rfl, rfl⟩
  go_wp2_with fail
  refine HL.out.2.mono ?_
  rintro e w10 ⟨rfl, rfl⟩
  have hfin : ∀ c : Int, cmpN bA bB x y = c → (Ending.returned (.tuple #[.int .i64 c, .int .i64 0]) = Ending.returned (.tuple #[.int .i64 (Lib.compareInt (val9 m s) (val9 m' s')), .int .i64 0]) ∧ Below w.heap.size w W8) := fun c h => ⟨by rw [← HXY.out, h], HW7.out.1⟩
  have HFIN := Lib.hid hfin
  clear hfin HL
  cases bA <;> cases bB
  · rcases Nat.lt_trichotomy x y with h | h | h
    · have q1 : decide (x < y) = true := decide_eq_true h
      have q2 : decide (y < x) = false := decide_eq_false (by omega)
      go_wp2_with fail
      go_ret2
      exact HFIN.out _ (by unfold cmpN; simp [h])
    · have q1 : decide (x < y) = false := decide_eq_false (by omega)
      have q2 : decide (y < x) = false := decide_eq_false (by omega)
      go_wp2_with fail
      go_ret2
      exact HFIN.out _ (by unfold cmpN; simp [h])
    · have q1 : decide (x < y) = false := decide_eq_false (by omega)
      have q2 : decide (y < x) = true := decide_eq_true h
      go_wp2_with fail
      go_ret2
      exact HFIN.out _ (by unfold cmpN; simp [h]; omega)
  · go_wp2_with fail
    go_ret2
    exact HFIN.out _ (by unfold cmpN; simp)
  · go_wp2_with fail
    go_ret2
    exact HFIN.out _ (by unfold cmpN; simp)
  · rcases Nat.lt_trichotomy x y with h | h | h
    · have q1 : decide (x < y) = true := decide_eq_true h
      have q2 : decide (y < x) = false := decide_eq_false (by omega)
      go_wp2_with fail
      go_ret2
      exact HFIN.out _ (by unfold cmpN; simp [h]; omega)
    · have q1 : decide (x < y) = false := decide_eq_false (by omega)
      have q2 : decide (y < x) = false := decide_eq_false (by omega)
      go_wp2_with fail
      go_ret2
      exact HFIN.out _ (by unfold cmpN; simp [h])
    · have q1 : decide (x < y) = false := decide_eq_false (by omega)
      have q2 : decide (y < x) = true := decide_eq_true h
      go_wp2_with fail
      go_ret2
      exact HFIN.out _ (by unfold cmpN; simp [h])
end Go.Proofs.YtdlmhienolmncaaGreat
/- The reference's Right of a matrix: the walk. -/
namespace Go.Proofs.YtdlmhienolmncaaGreat
open Go.RowKit Dec

theorem right_is (d : DV) (B : Bool) (hB : decide d.Ok = B) (w : World) : Calls Tryz.prog 52 #[.agg #[.int .i64 d.m, .int .i64 d.s]] w fun e w' => e = .returned (.bool B) ∧ Below w.heap.size w w' := by
  subst hB
  exact right_any d.m d.s w
end Go.Proofs.YtdlmhienolmncaaGreat

/- The reference's order of two numbers, the lesser, the greater: the walks. -/
namespace Go.Proofs.YtdlmhienolmncaaGreat
open Go.RowKit Dec

theorem refcompare_ok (a b : DV) (w : World) (ha : a.Ok) (hb : b.Ok) :
    Calls Tryz.prog 83 #[.agg #[.int .i64 a.m, .int .i64 a.s], .agg #[.int .i64 b.m, .int .i64 b.s]] w fun e w' => e = .returned (.tuple #[.int .i64 (Lib.compareInt a.v b.v), .int .i64 0]) ∧ Below w.heap.size w w' := by
  obtain ⟨am, s⟩ := a
  obtain ⟨bm, s'⟩ := b
  obtain ⟨k, rfl⟩ : ∃ n : Nat, s = n := ⟨s.toNat, by have := ha.2.2.1; simp only at this; omega⟩
  obtain ⟨k', rfl⟩ : ∃ n : Nat, s' = n := ⟨s'.toNat, by have := hb.2.2.1; simp only at this; omega⟩
  exact refcmp_ok am bm k k' w ha hb
theorem upto_yes (a b : DV) (w : World) (c : Int) (h : Hid (a.Ok ∧ b.Ok ∧ Lib.compareInt a.v b.v = c)) (hc : c ≤ 0) :
    Calls Tryz.prog 53 #[.agg #[.int .i64 a.m, .int .i64 a.s], .agg #[.int .i64 b.m, .int .i64 b.s]] w fun e w' => e = .returned (.bool true) ∧ Below w.heap.size w w' := by
  go_enter Tryz.func53, Tryz.ntmps53
  go_wp2_with fail
  refine (refcompare_ok a b _ h.out.1 h.out.2.1).mono ?_
  rw [h.out.2.2]
  rintro e w1 ⟨rfl, hb⟩
  go_wp2
  go_ret
  exact ⟨by simp, by (repeat (first | with_reducible exact Below.refl _ _ | with_reducible refine Below.drew ?_ | with_reducible refine bdrewN ?_ _ | (with_reducible refine Below.setCell ?_ ?_ _; rotate_left; focus (first | exact Nat.le_refl _ | omega | (simp; omega) | (simp; done))) | (with_reducible refine Below.alloc ?_ ?_ _; rotate_left; focus (first | exact Nat.le_refl _ | omega | (simp; omega) | (simp; done))) | (with_reducible refine Below.trans ?_ (Below.mono (by assumption) ?_); rotate_left; focus (first | exact Nat.le_refl _ | omega | (simp; omega) | (simp; done)))))⟩
theorem upto_no (a b : DV) (w : World) (c : Int) (h : Hid (a.Ok ∧ b.Ok ∧ Lib.compareInt a.v b.v = c)) (hc : 0 < c) :
    Calls Tryz.prog 53 #[.agg #[.int .i64 a.m, .int .i64 a.s], .agg #[.int .i64 b.m, .int .i64 b.s]] w fun e w' => e = .returned (.bool false) ∧ Below w.heap.size w w' := by
  go_enter Tryz.func53, Tryz.ntmps53
  go_wp2_with fail
  refine (refcompare_ok a b _ h.out.1 h.out.2.1).mono ?_
  rw [h.out.2.2]
  rintro e w1 ⟨rfl, hb⟩
  go_wp2
  go_ret
  exact ⟨by simp; exact hc, by (repeat (first | with_reducible exact Below.refl _ _ | with_reducible refine Below.drew ?_ | with_reducible refine bdrewN ?_ _ | (with_reducible refine Below.setCell ?_ ?_ _; rotate_left; focus (first | exact Nat.le_refl _ | omega | (simp; omega) | (simp; done))) | (with_reducible refine Below.alloc ?_ ?_ _; rotate_left; focus (first | exact Nat.le_refl _ | omega | (simp; omega) | (simp; done))) | (with_reducible refine Below.trans ?_ (Below.mono (by assumption) ?_); rotate_left; focus (first | exact Nat.le_refl _ | omega | (simp; omega) | (simp; done)))))⟩
theorem upto_any (a b : DV) (w : World) (ha : a.Ok) (hb : b.Ok) (r : Bool) (h : leB a b = r) :
    Calls Tryz.prog 53 #[.agg #[.int .i64 a.m, .int .i64 a.s], .agg #[.int .i64 b.m, .int .i64 b.s]] w fun e w' => e = .returned (.bool r) ∧ Below w.heap.size w w' := by
  have k := cmp_le a.v b.v
  cases r with
  | true => exact upto_yes a b w _ ⟨ha, hb, rfl⟩ (k.1.2 (leB_iff.1 h).2.2)
  | false => exact upto_no a b w _ ⟨ha, hb, rfl⟩ (k.2.2.2 (Int.lt_of_not_ge fun q => leB_not.1 h ⟨ha, hb, q⟩))

theorem least_any (a b : DV) (w : World) (ha : a.Ok) (hb : b.Ok) :
    Calls Tryz.prog 85 #[.agg #[.int .i64 a.m, .int .i64 a.s], .agg #[.int .i64 b.m, .int .i64 b.s]] w fun e w' => e = .returned (.agg #[.int .i64 (lesD a b).m, .int .i64 (lesD a b).s]) ∧ Below w.heap.size w w' := by
  cases h : leB a b
  · rw [lesD_no h]
    have H := Lib.hid (And.intro ha (And.intro hb h))
    clear h ha hb
    go_enter Tryz.func85, Tryz.ntmps85
    go_wp2_with fail
    refine (upto_any a b _ H.out.1 H.out.2.1 false H.out.2.2).mono ?_
    rintro e w1 ⟨rfl, hb⟩
    obtain ⟨hc, hf⟩ := bcell hb
    have hz := hb.size
    simp at hz
    have l0 : w.heap.size < w1.heap.size := (by omega); have l1 : w.heap.size + 1 < w1.heap.size := (by omega); have l2 : w.heap.size + 1 + 1 < w1.heap.size := (by omega)
    go_wp2
    exact bodyPost_ret (v := .agg #[.int .i64 b.m, .int .i64 b.s]) (by simp [results, Tryz.results85, go_sem, hc]) rfl ⟨rfl, by (repeat (first | with_reducible exact Below.refl _ _ | with_reducible refine Below.drew ?_ | with_reducible refine bdrewN ?_ _ | (with_reducible refine Below.setCell ?_ ?_ _; rotate_left; focus (first | exact Nat.le_refl _ | omega | (simp; omega) | (simp; done))) | (with_reducible refine Below.alloc ?_ ?_ _; rotate_left; focus (first | exact Nat.le_refl _ | omega | (simp; omega) | (simp; done))) | (with_reducible refine Below.trans ?_ (Below.mono (by assumption) ?_); rotate_left; focus (first | exact Nat.le_refl _ | omega | (simp; omega) | (simp; done)))))⟩
  · rw [lesD_yes h]
    have H := Lib.hid (And.intro ha (And.intro hb h))
    clear h ha hb
    go_enter Tryz.func85, Tryz.ntmps85
    go_wp2_with fail
    refine (upto_any a b _ H.out.1 H.out.2.1 true H.out.2.2).mono ?_
    rintro e w1 ⟨rfl, hb⟩
    obtain ⟨hc, hf⟩ := bcell hb
    have hz := hb.size
    simp at hz
    have l0 : w.heap.size < w1.heap.size := (by omega); have l1 : w.heap.size + 1 < w1.heap.size := (by omega); have l2 : w.heap.size + 1 + 1 < w1.heap.size := (by omega)
    go_wp2
    exact bodyPost_ret (v := .agg #[.int .i64 a.m, .int .i64 a.s]) (by simp [results, Tryz.results85, go_sem, hc]) rfl ⟨rfl, by (repeat (first | with_reducible exact Below.refl _ _ | with_reducible refine Below.drew ?_ | with_reducible refine bdrewN ?_ _ | (with_reducible refine Below.setCell ?_ ?_ _; rotate_left; focus (first | exact Nat.le_refl _ | omega | (simp; omega) | (simp; done))) | (with_reducible refine Below.alloc ?_ ?_ _; rotate_left; focus (first | exact Nat.le_refl _ | omega | (simp; omega) | (simp; done))) | (with_reducible refine Below.trans ?_ (Below.mono (by assumption) ?_); rotate_left; focus (first | exact Nat.le_refl _ | omega | (simp; omega) | (simp; done)))))⟩
theorem most_any (a b : DV) (w : World) (ha : a.Ok) (hb : b.Ok) :
    Calls Tryz.prog 84 #[.agg #[.int .i64 a.m, .int .i64 a.s], .agg #[.int .i64 b.m, .int .i64 b.s]] w fun e w' => e = .returned (.agg #[.int .i64 (greD a b).m, .int .i64 (greD a b).s]) ∧ Below w.heap.size w w' := by
  cases h : leB a b
  · rw [greD_no h]
    have H := Lib.hid (And.intro ha (And.intro hb h))
    clear h ha hb
    go_enter Tryz.func84, Tryz.ntmps84
    go_wp2_with fail
    refine (upto_any a b _ H.out.1 H.out.2.1 false H.out.2.2).mono ?_
    rintro e w1 ⟨rfl, hb⟩
    obtain ⟨hc, hf⟩ := bcell hb
    have hz := hb.size
    simp at hz
    have l0 : w.heap.size < w1.heap.size := (by omega); have l1 : w.heap.size + 1 < w1.heap.size := (by omega); have l2 : w.heap.size + 1 + 1 < w1.heap.size := (by omega)
    go_wp2
    exact bodyPost_ret (v := .agg #[.int .i64 a.m, .int .i64 a.s]) (by simp [results, Tryz.results84, go_sem, hc]) rfl ⟨rfl, by (repeat (first | with_reducible exact Below.refl _ _ | with_reducible refine Below.drew ?_ | with_reducible refine bdrewN ?_ _ | (with_reducible refine Below.setCell ?_ ?_ _; rotate_left; focus (first | exact Nat.le_refl _ | omega | (simp; omega) | (simp; done))) | (with_reducible refine Below.alloc ?_ ?_ _; rotate_left; focus (first | exact Nat.le_refl _ | omega | (simp; omega) | (simp; done))) | (with_reducible refine Below.trans ?_ (Below.mono (by assumption) ?_); rotate_left; focus (first | exact Nat.le_refl _ | omega | (simp; omega) | (simp; done)))))⟩
  · rw [greD_yes h]
    have H := Lib.hid (And.intro ha (And.intro hb h))
    clear h ha hb
    go_enter Tryz.func84, Tryz.ntmps84
    go_wp2_with fail
    refine (upto_any a b _ H.out.1 H.out.2.1 true H.out.2.2).mono ?_
    rintro e w1 ⟨rfl, hb⟩
    obtain ⟨hc, hf⟩ := bcell hb
    have hz := hb.size
    simp at hz
    have l0 : w.heap.size < w1.heap.size := (by omega); have l1 : w.heap.size + 1 < w1.heap.size := (by omega); have l2 : w.heap.size + 1 + 1 < w1.heap.size := (by omega)
    go_wp2
    exact bodyPost_ret (v := .agg #[.int .i64 b.m, .int .i64 b.s]) (by simp [results, Tryz.results84, go_sem, hc]) rfl ⟨rfl, by (repeat (first | with_reducible exact Below.refl _ _ | with_reducible refine Below.drew ?_ | with_reducible refine bdrewN ?_ _ | (with_reducible refine Below.setCell ?_ ?_ _; rotate_left; focus (first | exact Nat.le_refl _ | omega | (simp; omega) | (simp; done))) | (with_reducible refine Below.alloc ?_ ?_ _; rotate_left; focus (first | exact Nat.le_refl _ | omega | (simp; omega) | (simp; done))) | (with_reducible refine Below.trans ?_ (Below.mono (by assumption) ?_); rotate_left; focus (first | exact Nat.le_refl _ | omega | (simp; omega) | (simp; done)))))⟩
end Go.Proofs.YtdlmhienolmncaaGreat
/- The reference's Right of a box: the walk. -/
namespace Go.Proofs.YtdlmhienolmncaaGreat
open Go.RowKit Dec

theorem BV.Ok.nums {b : BV} (h : b.Ok) : b.x0.Ok ∧ b.x1.Ok ∧ b.y0.Ok ∧ b.y1.Ok :=
  ⟨(leB_iff.1 h.1).1, (leB_iff.1 h.1).2.1, (leB_iff.1 h.2).1, (leB_iff.1 h.2).2.1⟩
set_option maxRecDepth 100000 in
set_option maxHeartbeats 4000000 in
theorem bright_any (b : BV) (w : World) (E : Bool) (h : decide b.Ok = E) : Calls Tryz.prog 27 #[b.val] w fun e w' => e = .returned (.bool E) ∧ Below w.heap.size w w' := by
  have H := Lib.hid (And.intro (Whole.made w 49 #[.int .i64 b.x0.m, .int .i64 b.x0.s, .int .i64 b.y0.m, .int .i64 b.y0.s, .int .i64 b.x1.m, .int .i64 b.x1.s, .int .i64 b.y1.m, .int .i64 b.y1.s]) ((Below.refl w.heap.size w).alloc (Nat.le_refl _) (.cells #[.int .i64 b.x0.m, .int .i64 b.x0.s, .int .i64 b.y0.m, .int .i64 b.y0.s, .int .i64 b.x1.m, .int .i64 b.x1.s, .int .i64 b.y1.m, .int .i64 b.y1.s] 49)))
  have HE := Lib.hid h
  clear h
  go_enter Tryz.func27, Tryz.ntmps27
  go_wp2_with fail
  by_cases h0 : b.x0.Ok
  rotate_left
  · obtain rfl : false = E := by rw [← HE.out]; exact (decide_eq_false (fun k : b.Ok => h0 k.nums.1)).symm
    refine (right_is b.x0 false (decide_eq_false h0) _).mono ?_
    rintro e v ⟨rfl, kk⟩
    have HF := Lib.hid (H.out.2.trans (kk.mono H.out.2.size))
    clear kk HE H h0
    go_wp2_with fail
    go_ret
    exact ⟨rfl, HF.out⟩
  refine (right_is b.x0 true (decide_eq_true h0) _).mono ?_
  rintro e w0 ⟨rfl, kk⟩
  have H := Lib.hid (And.intro (H.out.1.here kk) (H.out.2.trans (kk.mono H.out.2.size)))
  skip
  have G0 := Lib.hid h0
  clear kk h0
  have k0 : w0.cell? ⟨w.heap.size, 4, none⟩ = some (.int .i64 b.x1.m) := H.out.1.reads 4
  have k1 : w0.cell? ⟨w.heap.size, 5, none⟩ = some (.int .i64 b.x1.s) := H.out.1.reads 5
  have lt := H.out.1.lt
  go_wp2_with fail
  by_cases h1 : b.x1.Ok
  rotate_left
  · obtain rfl : false = E := by rw [← HE.out]; exact (decide_eq_false (fun k : b.Ok => h1 k.nums.2.1)).symm
    refine (right_is b.x1 false (decide_eq_false h1) _).mono ?_
    rintro e v ⟨rfl, kk⟩
    have HF := Lib.hid (H.out.2.trans (kk.mono H.out.2.size))
    clear kk HE H h1
    go_wp2_with fail
    go_ret
    exact ⟨rfl, HF.out⟩
  refine (right_is b.x1 true (decide_eq_true h1) _).mono ?_
  rintro e w1 ⟨rfl, kk⟩
  have H := Lib.hid (And.intro (H.out.1.here kk) (H.out.2.trans (kk.mono H.out.2.size)))
  clear k0 k1 lt
  have G1 := Lib.hid h1
  clear kk h1
  have k0 : w1.cell? ⟨w.heap.size, 2, none⟩ = some (.int .i64 b.y0.m) := H.out.1.reads 2
  have k1 : w1.cell? ⟨w.heap.size, 3, none⟩ = some (.int .i64 b.y0.s) := H.out.1.reads 3
  have lt := H.out.1.lt
  go_wp2_with fail
  by_cases h2 : b.y0.Ok
  rotate_left
  · obtain rfl : false = E := by rw [← HE.out]; exact (decide_eq_false (fun k : b.Ok => h2 k.nums.2.2.1)).symm
    refine (right_is b.y0 false (decide_eq_false h2) _).mono ?_
    rintro e v ⟨rfl, kk⟩
    have HF := Lib.hid (H.out.2.trans (kk.mono H.out.2.size))
    clear kk HE H h2
    go_wp2_with fail
    go_ret
    exact ⟨rfl, HF.out⟩
  refine (right_is b.y0 true (decide_eq_true h2) _).mono ?_
  rintro e w2 ⟨rfl, kk⟩
  have H := Lib.hid (And.intro (H.out.1.here kk) (H.out.2.trans (kk.mono H.out.2.size)))
  clear k0 k1 lt
  have G2 := Lib.hid h2
  clear kk h2
  have k0 : w2.cell? ⟨w.heap.size, 6, none⟩ = some (.int .i64 b.y1.m) := H.out.1.reads 6
  have k1 : w2.cell? ⟨w.heap.size, 7, none⟩ = some (.int .i64 b.y1.s) := H.out.1.reads 7
  have lt := H.out.1.lt
  go_wp2_with fail
  by_cases h3 : b.y1.Ok
  rotate_left
  · obtain rfl : false = E := by rw [← HE.out]; exact (decide_eq_false (fun k : b.Ok => h3 k.nums.2.2.2)).symm
    refine (right_is b.y1 false (decide_eq_false h3) _).mono ?_
    rintro e v ⟨rfl, kk⟩
    have HF := Lib.hid (H.out.2.trans (kk.mono H.out.2.size))
    clear kk HE H h3
    go_wp2_with fail
    go_ret
    exact ⟨rfl, HF.out⟩
  refine (right_is b.y1 true (decide_eq_true h3) _).mono ?_
  rintro e w3 ⟨rfl, kk⟩
  have H := Lib.hid (And.intro (H.out.1.here kk) (H.out.2.trans (kk.mono H.out.2.size)))
  clear k0 k1 lt
  have G3 := Lib.hid h3
  clear kk h3
  have k0 : w3.cell? ⟨w.heap.size, 0, none⟩ = some (.int .i64 b.x0.m) := H.out.1.reads 0
  have k1 : w3.cell? ⟨w.heap.size, 1, none⟩ = some (.int .i64 b.x0.s) := H.out.1.reads 1
  have k2 : w3.cell? ⟨w.heap.size, 4, none⟩ = some (.int .i64 b.x1.m) := H.out.1.reads 4
  have k3 : w3.cell? ⟨w.heap.size, 5, none⟩ = some (.int .i64 b.x1.s) := H.out.1.reads 5
  have lt := H.out.1.lt
  go_wp2_with fail
  by_cases h0 : leB b.x0 b.x1 = true
  rotate_left
  · obtain rfl : false = E := by rw [← HE.out]; exact (decide_eq_false (fun k : b.Ok => h0 k.1)).symm
    refine (upto_any b.x0 b.x1 _ G0.out G1.out false (by simpa using h0)).mono ?_
    rintro e v ⟨rfl, kk⟩
    have HF := Lib.hid (H.out.2.trans (kk.mono H.out.2.size))
    clear kk HE H h0
    go_wp2_with fail
    go_ret
    exact ⟨rfl, HF.out⟩
  refine (upto_any b.x0 b.x1 _ G0.out G1.out true h0).mono ?_
  rintro e w4 ⟨rfl, kk⟩
  have H := Lib.hid (And.intro (H.out.1.here kk) (H.out.2.trans (kk.mono H.out.2.size)))
  clear k0 k1 k2 k3 lt
  have L0 := Lib.hid h0
  clear kk h0
  have k0 : w4.cell? ⟨w.heap.size, 2, none⟩ = some (.int .i64 b.y0.m) := H.out.1.reads 2
  have k1 : w4.cell? ⟨w.heap.size, 3, none⟩ = some (.int .i64 b.y0.s) := H.out.1.reads 3
  have k2 : w4.cell? ⟨w.heap.size, 6, none⟩ = some (.int .i64 b.y1.m) := H.out.1.reads 6
  have k3 : w4.cell? ⟨w.heap.size, 7, none⟩ = some (.int .i64 b.y1.s) := H.out.1.reads 7
  have lt := H.out.1.lt
  go_wp2_with fail
  by_cases h1 : leB b.y0 b.y1 = true
  rotate_left
  · obtain rfl : false = E := by rw [← HE.out]; exact (decide_eq_false (fun k : b.Ok => h1 k.2)).symm
    refine (upto_any b.y0 b.y1 _ G2.out G3.out false (by simpa using h1)).mono ?_
    rintro e v ⟨rfl, kk⟩
    have HF := Lib.hid (H.out.2.trans (kk.mono H.out.2.size))
    clear kk HE H h1
    go_wp2_with fail
    go_ret
    exact ⟨rfl, HF.out⟩
  refine (upto_any b.y0 b.y1 _ G2.out G3.out true h1).mono ?_
  rintro e w5 ⟨rfl, kk⟩
  have H := Lib.hid (And.intro (H.out.1.here kk) (H.out.2.trans (kk.mono H.out.2.size)))
  clear k0 k1 k2 k3 lt
  have L1 := Lib.hid h1
  clear kk h1
  obtain rfl : true = E := by rw [← HE.out]; exact (decide_eq_true (show b.Ok from ⟨L0.out, L1.out⟩)).symm
  clear HE
  go_wp2_with fail
  go_ret
  exact ⟨rfl, H.out.2⟩
end Go.Proofs.YtdlmhienolmncaaGreat
/- The reference's box around two: the walk. -/
namespace Go.Proofs.YtdlmhienolmncaaGreat
open Go.RowKit Dec

/-- All four numbers of a box are decimals. -/
structure BV.Nums (b : BV) : Prop where
  x0 : b.x0.Ok
  y0 : b.y0.Ok
  x1 : b.x1.Ok
  y1 : b.y1.Ok
set_option maxRecDepth 100000 in
set_option maxHeartbeats 8000000 in
theorem raround_any (a b : BV) (w : World) (ha : a.Nums) (hb : b.Nums) :
    Calls Tryz.prog 78 #[a.val, b.val] w fun e w' => e = .returned (joinB a b).val ∧ Below w.heap.size w w' := by
  have HN := Lib.hid (And.intro ha hb)
  clear ha hb
  have hA := ((BIn.made w 49 a).old (.cells #[.int .i64 b.x0.m, .int .i64 b.x0.s, .int .i64 b.y0.m, .int .i64 b.y0.s, .int .i64 b.x1.m, .int .i64 b.x1.s, .int .i64 b.y1.m, .int .i64 b.y1.s] 49)).old (.cells #[.int .i64 0, .int .i64 0, .int .i64 0, .int .i64 0, .int .i64 0, .int .i64 0, .int .i64 0, .int .i64 0] 49)
  have hB := (BIn.made (w.alloc (.cells #[.int .i64 a.x0.m, .int .i64 a.x0.s, .int .i64 a.y0.m, .int .i64 a.y0.s, .int .i64 a.x1.m, .int .i64 a.x1.s, .int .i64 a.y1.m, .int .i64 a.y1.s] 49)) 49 b).old (.cells #[.int .i64 0, .int .i64 0, .int .i64 0, .int .i64 0, .int .i64 0, .int .i64 0, .int .i64 0, .int .i64 0] 49)
  have hR := Whole.made ((w.alloc (.cells #[.int .i64 a.x0.m, .int .i64 a.x0.s, .int .i64 a.y0.m, .int .i64 a.y0.s, .int .i64 a.x1.m, .int .i64 a.x1.s, .int .i64 a.y1.m, .int .i64 a.y1.s] 49)).alloc (.cells #[.int .i64 b.x0.m, .int .i64 b.x0.s, .int .i64 b.y0.m, .int .i64 b.y0.s, .int .i64 b.x1.m, .int .i64 b.x1.s, .int .i64 b.y1.m, .int .i64 b.y1.s] 49)) 49 #[.int .i64 0, .int .i64 0, .int .i64 0, .int .i64 0, .int .i64 0, .int .i64 0, .int .i64 0, .int .i64 0]
  have hb0 : Below w.heap.size w (((w.alloc (.cells #[.int .i64 a.x0.m, .int .i64 a.x0.s, .int .i64 a.y0.m, .int .i64 a.y0.s, .int .i64 a.x1.m, .int .i64 a.x1.s, .int .i64 a.y1.m, .int .i64 a.y1.s] 49)).alloc (.cells #[.int .i64 b.x0.m, .int .i64 b.x0.s, .int .i64 b.y0.m, .int .i64 b.y0.s, .int .i64 b.x1.m, .int .i64 b.x1.s, .int .i64 b.y1.m, .int .i64 b.y1.s] 49)).alloc (.cells #[.int .i64 0, .int .i64 0, .int .i64 0, .int .i64 0, .int .i64 0, .int .i64 0, .int .i64 0, .int .i64 0] 49)) := by (repeat (first | with_reducible exact Below.refl _ _ | with_reducible refine Below.drew ?_ | with_reducible refine bdrewN ?_ _ | (with_reducible refine Below.setCell ?_ ?_ _; rotate_left; focus (first | exact Nat.le_refl _ | omega | (simp; omega) | (simp; done))) | (with_reducible refine Below.alloc ?_ ?_ _; rotate_left; focus (first | exact Nat.le_refl _ | omega | (simp; omega) | (simp; done))) | (with_reducible refine Below.trans ?_ (Below.mono (by assumption) ?_); rotate_left; focus (first | exact Nat.le_refl _ | omega | (simp; omega) | (simp; done)))))
  simp only [World.size_alloc] at hB hR
  go_enter Tryz.func78, Tryz.ntmps78
  go_wp2_with fail
  generalize ((w.alloc (.cells #[.int .i64 a.x0.m, .int .i64 a.x0.s, .int .i64 a.y0.m, .int .i64 a.y0.s, .int .i64 a.x1.m, .int .i64 a.x1.s, .int .i64 a.y1.m, .int .i64 a.y1.s] 49)).alloc (.cells #[.int .i64 b.x0.m, .int .i64 b.x0.s, .int .i64 b.y0.m, .int .i64 b.y0.s, .int .i64 b.x1.m, .int .i64 b.x1.s, .int .i64 b.y1.m, .int .i64 b.y1.s] 49)).alloc (.cells #[.int .i64 0, .int .i64 0, .int .i64 0, .int .i64 0, .int .i64 0, .int .i64 0, .int .i64 0, .int .i64 0] 49) = W at *
  have HB := Lib.hid hb0
  clear hb0
  have HC0 : W.cell? ⟨w.heap.size, 0, none⟩ = some (.int .i64 a.x0.m) ∧ W.cell? ⟨w.heap.size, 1, none⟩ = some (.int .i64 a.x0.s) ∧ W.cell? ⟨w.heap.size, 2, none⟩ = some (.int .i64 a.y0.m) ∧ W.cell? ⟨w.heap.size, 3, none⟩ = some (.int .i64 a.y0.s) ∧ W.cell? ⟨w.heap.size, 4, none⟩ = some (.int .i64 a.x1.m) ∧ W.cell? ⟨w.heap.size, 5, none⟩ = some (.int .i64 a.x1.s) ∧ W.cell? ⟨w.heap.size, 6, none⟩ = some (.int .i64 a.y1.m) ∧ W.cell? ⟨w.heap.size, 7, none⟩ = some (.int .i64 a.y1.s) ∧ W.cell? ⟨w.heap.size + 1, 0, none⟩ = some (.int .i64 b.x0.m) ∧ W.cell? ⟨w.heap.size + 1, 1, none⟩ = some (.int .i64 b.x0.s) ∧ W.cell? ⟨w.heap.size + 1, 2, none⟩ = some (.int .i64 b.y0.m) ∧ W.cell? ⟨w.heap.size + 1, 3, none⟩ = some (.int .i64 b.y0.s) ∧ W.cell? ⟨w.heap.size + 1, 4, none⟩ = some (.int .i64 b.x1.m) ∧ W.cell? ⟨w.heap.size + 1, 5, none⟩ = some (.int .i64 b.x1.s) ∧ W.cell? ⟨w.heap.size + 1, 6, none⟩ = some (.int .i64 b.y1.m) ∧ W.cell? ⟨w.heap.size + 1, 7, none⟩ = some (.int .i64 b.y1.s) := ⟨hA.1, hA.2.1, hA.2.2.1, hA.2.2.2.1, hA.2.2.2.2.1, hA.2.2.2.2.2.1, hA.2.2.2.2.2.2.1, hA.2.2.2.2.2.2.2, hB.1, hB.2.1, hB.2.2.1, hB.2.2.2.1, hB.2.2.2.2.1, hB.2.2.2.2.2.1, hB.2.2.2.2.2.2.1, hB.2.2.2.2.2.2.2⟩
  refine wp_region_S 21 (fun v => v.cell? ⟨w.heap.size, 0, none⟩ = some (.int .i64 a.x0.m) ∧ v.cell? ⟨w.heap.size, 1, none⟩ = some (.int .i64 a.x0.s) ∧ v.cell? ⟨w.heap.size, 2, none⟩ = some (.int .i64 a.y0.m) ∧ v.cell? ⟨w.heap.size, 3, none⟩ = some (.int .i64 a.y0.s) ∧ v.cell? ⟨w.heap.size, 4, none⟩ = some (.int .i64 a.x1.m) ∧ v.cell? ⟨w.heap.size, 5, none⟩ = some (.int .i64 a.x1.s) ∧ v.cell? ⟨w.heap.size, 6, none⟩ = some (.int .i64 a.y1.m) ∧ v.cell? ⟨w.heap.size, 7, none⟩ = some (.int .i64 a.y1.s) ∧ v.cell? ⟨w.heap.size + 1, 0, none⟩ = some (.int .i64 b.x0.m) ∧ v.cell? ⟨w.heap.size + 1, 1, none⟩ = some (.int .i64 b.x0.s) ∧ v.cell? ⟨w.heap.size + 1, 2, none⟩ = some (.int .i64 b.y0.m) ∧ v.cell? ⟨w.heap.size + 1, 3, none⟩ = some (.int .i64 b.y0.s) ∧ v.cell? ⟨w.heap.size + 1, 4, none⟩ = some (.int .i64 b.x1.m) ∧ v.cell? ⟨w.heap.size + 1, 5, none⟩ = some (.int .i64 b.x1.s) ∧ v.cell? ⟨w.heap.size + 1, 6, none⟩ = some (.int .i64 b.y1.m) ∧ v.cell? ⟨w.heap.size + 1, 7, none⟩ = some (.int .i64 b.y1.s)) (by kernel_rfl) ?_
  refine wpAnyS_takeW (i := 0) (v := ?v1) rfl (by kernel_rfl) (fun _ _ _ h => h) (Or.inl ⟨by rfl, ?y1⟩) (fun _ => HC0) ?r1
  case y1 => intro wq _; go_simp; try with_reducible rfl
  try simp only [Act.put, List.setIfInBounds_toArray, List.set_cons_zero, List.set_cons_succ]
  refine wpAnyS_takeW (i := 2) (v := ?v2) rfl (by kernel_rfl) (fun _ _ _ h => h) (Or.inl ⟨by rfl, ?y2⟩) (fun _ => HC0) ?r2
  case y2 => intro wq _; go_simp; try with_reducible rfl
  try simp only [Act.put, List.setIfInBounds_toArray, List.set_cons_zero, List.set_cons_succ]
  refine wpAnyS_takeW (i := 5) (v := ?v3) rfl (by kernel_rfl) (fun _ _ _ h => h) (Or.inl ⟨by rfl, ?y3⟩) (fun _ => HC0) ?r3
  case y3 => intro wq _; go_simp; try with_reducible rfl
  try simp only [Act.put, List.setIfInBounds_toArray, List.set_cons_zero, List.set_cons_succ]
  refine wpAnyS_takeW (i := 7) (v := ?v4) rfl (by kernel_rfl) (fun _ _ _ h => h) (Or.inl ⟨by rfl, ?y4⟩) (fun _ => HC0) ?r4
  case y4 => intro wq _; go_simp; try with_reducible rfl
  try simp only [Act.put, List.setIfInBounds_toArray, List.set_cons_zero, List.set_cons_succ]
  refine wpAnyS_takeW (i := 10) (v := ?v5) rfl (by kernel_rfl) (fun _ _ _ h => h) (Or.inl ⟨by rfl, ?y5⟩) (fun _ => HC0) ?r5
  case y5 => intro wq _; go_simp; try with_reducible rfl
  try simp only [Act.put, List.setIfInBounds_toArray, List.set_cons_zero, List.set_cons_succ]
  refine wpAnyS_takeW (i := 12) (v := ?v6) rfl (by kernel_rfl) (fun _ _ _ h => h) (Or.inl ⟨by rfl, ?y6⟩) (fun _ => HC0) ?r6
  case y6 => intro wq _; go_simp; try with_reducible rfl
  try simp only [Act.put, List.setIfInBounds_toArray, List.set_cons_zero, List.set_cons_succ]
  refine wpAnyS_takeW (i := 15) (v := ?v7) rfl (by kernel_rfl) (fun _ _ _ h => h) (Or.inl ⟨by rfl, ?y7⟩) (fun _ => HC0) ?r7
  case y7 => intro wq _; go_simp; try with_reducible rfl
  try simp only [Act.put, List.setIfInBounds_toArray, List.set_cons_zero, List.set_cons_succ]
  refine wpAnyS_takeW (i := 17) (v := ?v8) rfl (by kernel_rfl) (fun _ _ _ h => h) (Or.inl ⟨by rfl, ?y8⟩) (fun _ => HC0) ?r8
  case y8 => intro wq _; go_simp; try with_reducible rfl
  try simp only [Act.put, List.setIfInBounds_toArray, List.set_cons_zero, List.set_cons_succ]
  refine wpAnyS_take (i := 1) (v := ?v9) rfl (by kernel_rfl) (fun _ _ _ h => h) (Or.inl ⟨by rfl, ?y9⟩) HC0 ?r9
  case y9 => intro wq hq; (try dsimp only at hq); go_simp; try with_reducible rfl
  try simp only [Act.put, List.setIfInBounds_toArray, List.set_cons_zero, List.set_cons_succ]
  refine wpAnyS_take (i := 3) (v := ?v10) rfl (by kernel_rfl) (fun _ _ _ h => h) (Or.inl ⟨by rfl, ?y10⟩) HC0 ?r10
  case y10 => intro wq hq; (try dsimp only at hq); go_simp; try with_reducible rfl
  try simp only [Act.put, List.setIfInBounds_toArray, List.set_cons_zero, List.set_cons_succ]
  refine wpAnyS_take (i := 6) (v := ?v11) rfl (by kernel_rfl) (fun _ _ _ h => h) (Or.inl ⟨by rfl, ?y11⟩) HC0 ?r11
  case y11 => intro wq hq; (try dsimp only at hq); go_simp; try with_reducible rfl
  try simp only [Act.put, List.setIfInBounds_toArray, List.set_cons_zero, List.set_cons_succ]
  refine wpAnyS_take (i := 8) (v := ?v12) rfl (by kernel_rfl) (fun _ _ _ h => h) (Or.inl ⟨by rfl, ?y12⟩) HC0 ?r12
  case y12 => intro wq hq; (try dsimp only at hq); go_simp; try with_reducible rfl
  try simp only [Act.put, List.setIfInBounds_toArray, List.set_cons_zero, List.set_cons_succ]
  refine wpAnyS_take (i := 11) (v := ?v13) rfl (by kernel_rfl) (fun _ _ _ h => h) (Or.inl ⟨by rfl, ?y13⟩) HC0 ?r13
  case y13 => intro wq hq; (try dsimp only at hq); go_simp; try with_reducible rfl
  try simp only [Act.put, List.setIfInBounds_toArray, List.set_cons_zero, List.set_cons_succ]
  refine wpAnyS_take (i := 13) (v := ?v14) rfl (by kernel_rfl) (fun _ _ _ h => h) (Or.inl ⟨by rfl, ?y14⟩) HC0 ?r14
  case y14 => intro wq hq; (try dsimp only at hq); go_simp; try with_reducible rfl
  try simp only [Act.put, List.setIfInBounds_toArray, List.set_cons_zero, List.set_cons_succ]
  refine wpAnyS_take (i := 16) (v := ?v15) rfl (by kernel_rfl) (fun _ _ _ h => h) (Or.inl ⟨by rfl, ?y15⟩) HC0 ?r15
  case y15 => intro wq hq; (try dsimp only at hq); go_simp; try with_reducible rfl
  try simp only [Act.put, List.setIfInBounds_toArray, List.set_cons_zero, List.set_cons_succ]
  refine wpAnyS_take (i := 18) (v := ?v16) rfl (by kernel_rfl) (fun _ _ _ h => h) (Or.inl ⟨by rfl, ?y16⟩) HC0 ?r16
  case y16 => intro wq hq; (try dsimp only at hq); go_simp; try with_reducible rfl
  try simp only [Act.put, List.setIfInBounds_toArray, List.set_cons_zero, List.set_cons_succ]
  refine wpAnyS_one (j := 4) (by kernel_rfl) rfl (fun K hK => ?_)
  go_simp
  go_at_call 85; (with_reducible refine (least_any a.x0 b.x0 _ HN.out.1.x0 HN.out.2.x0).mono ?_)
  rintro e v1 ⟨rfl, k1⟩
  have k1 := undrew k1
  have hA1 := BIn.later hA k1
  have hB1 := BIn.later hB k1
  have hR1 := Whole.here hR k1
  have HB1 := Lib.hid (HB.out.trans (k1.mono HB.out.size))
  have HC1 : v1.cell? ⟨w.heap.size, 0, none⟩ = some (.int .i64 a.x0.m) ∧ v1.cell? ⟨w.heap.size, 1, none⟩ = some (.int .i64 a.x0.s) ∧ v1.cell? ⟨w.heap.size, 2, none⟩ = some (.int .i64 a.y0.m) ∧ v1.cell? ⟨w.heap.size, 3, none⟩ = some (.int .i64 a.y0.s) ∧ v1.cell? ⟨w.heap.size, 4, none⟩ = some (.int .i64 a.x1.m) ∧ v1.cell? ⟨w.heap.size, 5, none⟩ = some (.int .i64 a.x1.s) ∧ v1.cell? ⟨w.heap.size, 6, none⟩ = some (.int .i64 a.y1.m) ∧ v1.cell? ⟨w.heap.size, 7, none⟩ = some (.int .i64 a.y1.s) ∧ v1.cell? ⟨w.heap.size + 1, 0, none⟩ = some (.int .i64 b.x0.m) ∧ v1.cell? ⟨w.heap.size + 1, 1, none⟩ = some (.int .i64 b.x0.s) ∧ v1.cell? ⟨w.heap.size + 1, 2, none⟩ = some (.int .i64 b.y0.m) ∧ v1.cell? ⟨w.heap.size + 1, 3, none⟩ = some (.int .i64 b.y0.s) ∧ v1.cell? ⟨w.heap.size + 1, 4, none⟩ = some (.int .i64 b.x1.m) ∧ v1.cell? ⟨w.heap.size + 1, 5, none⟩ = some (.int .i64 b.x1.s) ∧ v1.cell? ⟨w.heap.size + 1, 6, none⟩ = some (.int .i64 b.y1.m) ∧ v1.cell? ⟨w.heap.size + 1, 7, none⟩ = some (.int .i64 b.y1.s) := ⟨hA1.1, hA1.2.1, hA1.2.2.1, hA1.2.2.2.1, hA1.2.2.2.2.1, hA1.2.2.2.2.2.1, hA1.2.2.2.2.2.2.1, hA1.2.2.2.2.2.2.2, hB1.1, hB1.2.1, hB1.2.2.1, hB1.2.2.2.1, hB1.2.2.2.2.1, hB1.2.2.2.2.2.1, hB1.2.2.2.2.2.2.1, hB1.2.2.2.2.2.2.2⟩
  clear k1
  go_wp2_with fail
  refine hK.out _ _ ⟨fun _ _ => HC1, ?_⟩
  clear hK K
  try simp only [Act.put, List.setIfInBounds_toArray, List.set_cons_zero, List.set_cons_succ]
  refine wpAnyS_one (j := 9) (by kernel_rfl) rfl (fun K hK => ?_)
  go_simp
  go_at_call 85; (with_reducible refine (least_any a.y0 b.y0 _ HN.out.1.y0 HN.out.2.y0).mono ?_)
  rintro e v2 ⟨rfl, k2⟩
  have hA2 := BIn.later hA1 k2
  have hB2 := BIn.later hB1 k2
  have hR2 := Whole.here hR1 k2
  have HB2 := Lib.hid (HB1.out.trans (k2.mono HB1.out.size))
  have HC2 : v2.cell? ⟨w.heap.size, 0, none⟩ = some (.int .i64 a.x0.m) ∧ v2.cell? ⟨w.heap.size, 1, none⟩ = some (.int .i64 a.x0.s) ∧ v2.cell? ⟨w.heap.size, 2, none⟩ = some (.int .i64 a.y0.m) ∧ v2.cell? ⟨w.heap.size, 3, none⟩ = some (.int .i64 a.y0.s) ∧ v2.cell? ⟨w.heap.size, 4, none⟩ = some (.int .i64 a.x1.m) ∧ v2.cell? ⟨w.heap.size, 5, none⟩ = some (.int .i64 a.x1.s) ∧ v2.cell? ⟨w.heap.size, 6, none⟩ = some (.int .i64 a.y1.m) ∧ v2.cell? ⟨w.heap.size, 7, none⟩ = some (.int .i64 a.y1.s) ∧ v2.cell? ⟨w.heap.size + 1, 0, none⟩ = some (.int .i64 b.x0.m) ∧ v2.cell? ⟨w.heap.size + 1, 1, none⟩ = some (.int .i64 b.x0.s) ∧ v2.cell? ⟨w.heap.size + 1, 2, none⟩ = some (.int .i64 b.y0.m) ∧ v2.cell? ⟨w.heap.size + 1, 3, none⟩ = some (.int .i64 b.y0.s) ∧ v2.cell? ⟨w.heap.size + 1, 4, none⟩ = some (.int .i64 b.x1.m) ∧ v2.cell? ⟨w.heap.size + 1, 5, none⟩ = some (.int .i64 b.x1.s) ∧ v2.cell? ⟨w.heap.size + 1, 6, none⟩ = some (.int .i64 b.y1.m) ∧ v2.cell? ⟨w.heap.size + 1, 7, none⟩ = some (.int .i64 b.y1.s) := ⟨hA2.1, hA2.2.1, hA2.2.2.1, hA2.2.2.2.1, hA2.2.2.2.2.1, hA2.2.2.2.2.2.1, hA2.2.2.2.2.2.2.1, hA2.2.2.2.2.2.2.2, hB2.1, hB2.2.1, hB2.2.2.1, hB2.2.2.2.1, hB2.2.2.2.2.1, hB2.2.2.2.2.2.1, hB2.2.2.2.2.2.2.1, hB2.2.2.2.2.2.2.2⟩
  clear k2
  go_wp2_with fail
  refine hK.out _ _ ⟨fun _ _ => HC2, ?_⟩
  clear hK K
  try simp only [Act.put, List.setIfInBounds_toArray, List.set_cons_zero, List.set_cons_succ]
  refine wpAnyS_one (j := 14) (by kernel_rfl) rfl (fun K hK => ?_)
  go_simp
  go_at_call 84; (with_reducible refine (most_any a.x1 b.x1 _ HN.out.1.x1 HN.out.2.x1).mono ?_)
  rintro e v3 ⟨rfl, k3⟩
  have hA3 := BIn.later hA2 k3
  have hB3 := BIn.later hB2 k3
  have hR3 := Whole.here hR2 k3
  have HB3 := Lib.hid (HB2.out.trans (k3.mono HB2.out.size))
  have HC3 : v3.cell? ⟨w.heap.size, 0, none⟩ = some (.int .i64 a.x0.m) ∧ v3.cell? ⟨w.heap.size, 1, none⟩ = some (.int .i64 a.x0.s) ∧ v3.cell? ⟨w.heap.size, 2, none⟩ = some (.int .i64 a.y0.m) ∧ v3.cell? ⟨w.heap.size, 3, none⟩ = some (.int .i64 a.y0.s) ∧ v3.cell? ⟨w.heap.size, 4, none⟩ = some (.int .i64 a.x1.m) ∧ v3.cell? ⟨w.heap.size, 5, none⟩ = some (.int .i64 a.x1.s) ∧ v3.cell? ⟨w.heap.size, 6, none⟩ = some (.int .i64 a.y1.m) ∧ v3.cell? ⟨w.heap.size, 7, none⟩ = some (.int .i64 a.y1.s) ∧ v3.cell? ⟨w.heap.size + 1, 0, none⟩ = some (.int .i64 b.x0.m) ∧ v3.cell? ⟨w.heap.size + 1, 1, none⟩ = some (.int .i64 b.x0.s) ∧ v3.cell? ⟨w.heap.size + 1, 2, none⟩ = some (.int .i64 b.y0.m) ∧ v3.cell? ⟨w.heap.size + 1, 3, none⟩ = some (.int .i64 b.y0.s) ∧ v3.cell? ⟨w.heap.size + 1, 4, none⟩ = some (.int .i64 b.x1.m) ∧ v3.cell? ⟨w.heap.size + 1, 5, none⟩ = some (.int .i64 b.x1.s) ∧ v3.cell? ⟨w.heap.size + 1, 6, none⟩ = some (.int .i64 b.y1.m) ∧ v3.cell? ⟨w.heap.size + 1, 7, none⟩ = some (.int .i64 b.y1.s) := ⟨hA3.1, hA3.2.1, hA3.2.2.1, hA3.2.2.2.1, hA3.2.2.2.2.1, hA3.2.2.2.2.2.1, hA3.2.2.2.2.2.2.1, hA3.2.2.2.2.2.2.2, hB3.1, hB3.2.1, hB3.2.2.1, hB3.2.2.2.1, hB3.2.2.2.2.1, hB3.2.2.2.2.2.1, hB3.2.2.2.2.2.2.1, hB3.2.2.2.2.2.2.2⟩
  clear k3
  go_wp2_with fail
  refine hK.out _ _ ⟨fun _ _ => HC3, ?_⟩
  clear hK K
  try simp only [Act.put, List.setIfInBounds_toArray, List.set_cons_zero, List.set_cons_succ]
  refine wpAnyS_one (j := 19) (by kernel_rfl) rfl (fun K hK => ?_)
  go_simp
  go_at_call 84; (with_reducible refine (most_any a.y1 b.y1 _ HN.out.1.y1 HN.out.2.y1).mono ?_)
  rintro e v4 ⟨rfl, k4⟩
  have hA4 := BIn.later hA3 k4
  have hB4 := BIn.later hB3 k4
  have hR4 := Whole.here hR3 k4
  have HB4 := Lib.hid (HB3.out.trans (k4.mono HB3.out.size))
  have HC4 : v4.cell? ⟨w.heap.size, 0, none⟩ = some (.int .i64 a.x0.m) ∧ v4.cell? ⟨w.heap.size, 1, none⟩ = some (.int .i64 a.x0.s) ∧ v4.cell? ⟨w.heap.size, 2, none⟩ = some (.int .i64 a.y0.m) ∧ v4.cell? ⟨w.heap.size, 3, none⟩ = some (.int .i64 a.y0.s) ∧ v4.cell? ⟨w.heap.size, 4, none⟩ = some (.int .i64 a.x1.m) ∧ v4.cell? ⟨w.heap.size, 5, none⟩ = some (.int .i64 a.x1.s) ∧ v4.cell? ⟨w.heap.size, 6, none⟩ = some (.int .i64 a.y1.m) ∧ v4.cell? ⟨w.heap.size, 7, none⟩ = some (.int .i64 a.y1.s) ∧ v4.cell? ⟨w.heap.size + 1, 0, none⟩ = some (.int .i64 b.x0.m) ∧ v4.cell? ⟨w.heap.size + 1, 1, none⟩ = some (.int .i64 b.x0.s) ∧ v4.cell? ⟨w.heap.size + 1, 2, none⟩ = some (.int .i64 b.y0.m) ∧ v4.cell? ⟨w.heap.size + 1, 3, none⟩ = some (.int .i64 b.y0.s) ∧ v4.cell? ⟨w.heap.size + 1, 4, none⟩ = some (.int .i64 b.x1.m) ∧ v4.cell? ⟨w.heap.size + 1, 5, none⟩ = some (.int .i64 b.x1.s) ∧ v4.cell? ⟨w.heap.size + 1, 6, none⟩ = some (.int .i64 b.y1.m) ∧ v4.cell? ⟨w.heap.size + 1, 7, none⟩ = some (.int .i64 b.y1.s) := ⟨hA4.1, hA4.2.1, hA4.2.2.1, hA4.2.2.2.1, hA4.2.2.2.2.1, hA4.2.2.2.2.2.1, hA4.2.2.2.2.2.2.1, hA4.2.2.2.2.2.2.2, hB4.1, hB4.2.1, hB4.2.2.1, hB4.2.2.2.1, hB4.2.2.2.2.1, hB4.2.2.2.2.2.1, hB4.2.2.2.2.2.2.1, hB4.2.2.2.2.2.2.2⟩
  clear k4
  have rd4 := hR4.reads
  have ft4 := hR4.thawed
  have l4 := hR4.lt
  go_wp2_with fail
  refine hK.out _ _ ⟨fun _ _ => HC4, ?_⟩
  clear hK K
  try simp only [Act.put, List.setIfInBounds_toArray, List.set_cons_zero, List.set_cons_succ]
  refine wpAnyS_takeW (i := 20) (v := ?v17) rfl (by kernel_rfl) (fun _ _ _ h => h) (Or.inl ⟨by rfl, ?y17⟩) (fun _ => HC4) ?r17
  case y17 => intro wq _; go_simp; try with_reducible rfl
  try simp only [Act.put, List.setIfInBounds_toArray, List.set_cons_zero, List.set_cons_succ]
  refine wpAnyS_one (j := 21) (by kernel_rfl) rfl (fun K hK => ?_)
  go_simp
  refine hK.out _ _ ⟨fun h => absurd rfl h, ?_⟩
  clear hK K
  try simp only [Act.put, List.setIfInBounds_toArray, List.set_cons_zero, List.set_cons_succ]
  refine wpAnyS_done (by kernel_rfl) ?_ _
  go_wp2_with fail
  refine bodyPost_ret (v := (joinB a b).val) (by simp [results, Tryz.results78, go_sem, rd4, joinB]) rfl ⟨rfl, ?_⟩
  (repeat (first | with_reducible refine Below.drew ?_ | with_reducible refine bdrewN ?_ _ | (with_reducible refine Below.setCell ?_ ?_ _; rotate_left; focus (first | exact Nat.le_refl _ | omega | (simp; omega) | (simp; done))) | (with_reducible refine Below.alloc ?_ ?_ _; rotate_left; focus (first | exact Nat.le_refl _ | omega | (simp; omega) | (simp; done))))); with_reducible exact HB4.out
end Go.Proofs.YtdlmhienolmncaaGreat
/- The reference's Of: the walk. -/
namespace Go.Proofs.YtdlmhienolmncaaGreat
open Go.RowKit Dec

theorem lesD_self (a : DV) : lesD a a = a := by unfold lesD; split <;> rfl
theorem greD_self (a : DV) : greD a a = a := by unfold greD; split <;> rfl
theorem ofN_one (f : Nat → PV) : ofN f 1 = ofN f 0 := by
  show growB (ofN f 0) (f 0) = _
  unfold growB ofN
  simp only [lesD_self, greD_self]
theorem ofN_nums (f : Nat → PV) (n k : Nat) (h0 : 0 < n) (hk : k ≤ n) (h : ∀ i < n, (f i).Ok) : (ofN f k).Nums := by
  rcases Nat.eq_zero_or_pos k with rfl | hp
  · have := h 0 h0
    exact ⟨this.1, this.2, this.1, this.2⟩
  · have := (ofN_ok f k hp (fun i hi => h i (by omega))).1
    exact ⟨this.1, this.2.1, this.2.2.1, this.2.2.2⟩
theorem Whole.away8 {w : World} {g B : Nat} {T : TypeId} {cs : Array Value} (h : Whole w g T cs) (hn : g ≠ B) (a0 a1 a2 a3 a4 a5 a6 a7 : Value) :
    Whole ((((((((w.setCell ⟨B, 0, none⟩ a0).setCell ⟨B, 1, none⟩ a1).setCell ⟨B, 2, none⟩ a2).setCell ⟨B, 3, none⟩ a3).setCell ⟨B, 4, none⟩ a4).setCell ⟨B, 5, none⟩ a5).setCell ⟨B, 6, none⟩ a6).setCell ⟨B, 7, none⟩ a7) g T cs :=
  ((((((((h.away (p := ⟨B, 0, none⟩) hn a0).away (p := ⟨B, 1, none⟩) hn a1).away (p := ⟨B, 2, none⟩) hn a2).away (p := ⟨B, 3, none⟩) hn a3).away (p := ⟨B, 4, none⟩) hn a4).away (p := ⟨B, 5, none⟩) hn a5).away (p := ⟨B, 6, none⟩) hn a6).away (p := ⟨B, 7, none⟩) hn a7)
/-- A point as a box of its own. -/
abbrev ptB (p : PV) : BV := ⟨p.x, p.y, p.x, p.y⟩
theorem ptB_nums {p : PV} (h : p.Ok) : (ptB p).Nums := ⟨h.1, h.2, h.1, h.2⟩
theorem joinB_pt (b : BV) (p : PV) : joinB b (ptB p) = growB b p := rfl
end Go.Proofs.YtdlmhienolmncaaGreat

/- The reference's Meets and Both: the walks. -/
namespace Go.Proofs.YtdlmhienolmncaaGreat
open Go.RowKit Dec

theorem meet_ref {a b : BV} (ha : a.Ok) (hb : b.Ok) : meetB a b = (leB (greD a.x0 b.x0) (lesD a.x1 b.x1) && leB (greD a.y0 b.y0) (lesD a.y1 b.y1)) := by
  obtain ⟨ax, ay⟩ := ha
  obtain ⟨bx, by_⟩ := hb
  have ax := leB_iff.1 ax
  have ay := leB_iff.1 ay
  have bx := leB_iff.1 bx
  have bY := leB_iff.1 by_
  have key : ∀ p q r s : DV, p.Ok ∧ q.Ok ∧ p.v ≤ q.v → r.Ok ∧ s.Ok ∧ r.v ≤ s.v → (leB p s && leB r q) = leB (greD p r) (lesD q s) := by
    intro p q r s hpq hrs
    have h1 := greD_ok hpq.1 hrs.1
    have h2 := lesD_ok hpq.2.1 hrs.2.1
    rw [Bool.eq_iff_iff, Bool.and_eq_true, leB_iff, leB_iff, leB_iff]
    constructor
    · rintro ⟨⟨_, _, h3⟩, ⟨_, _, h4⟩⟩
      refine ⟨h1.1, h2.1, ?_⟩
      rcases h1.2.2.2 with e | e <;> rcases h2.2.2.2 with e' | e' <;> rw [e, e'] <;> omega
    · rintro ⟨_, _, h3⟩
      exact ⟨⟨hpq.1, hrs.2.1, by omega⟩, ⟨hrs.1, hpq.2.1, by omega⟩⟩
  unfold meetB
  rw [key _ _ _ _ ax bx, key _ _ _ _ ay bY]
/-- Two boxes in blocks of their own. -/
structure TwoB (w W : World) (a b : BV) : Prop where
  a : BIn W w.heap.size a
  b : BIn W (w.heap.size + 1) b
  below : Below w.heap.size w W
theorem TwoB.here {w W W' : World} {a b : BV} (h : TwoB w W a b) (hb : Below W.heap.size W W') : TwoB w W' a b := ⟨h.a.later hb, h.b.later hb, h.below.trans (hb.mono h.below.size)⟩
theorem TwoB.drew {w W : World} {a b : BV} (h : TwoB w W a b) : TwoB w W.drew a b := h.here (Below.refl _ _).drew
theorem TwoB.start (w : World) (a b : BV) : TwoB w ((w.alloc (.cells #[.int .i64 a.x0.m, .int .i64 a.x0.s, .int .i64 a.y0.m, .int .i64 a.y0.s, .int .i64 a.x1.m, .int .i64 a.x1.s, .int .i64 a.y1.m, .int .i64 a.y1.s] 49)).alloc (.cells #[.int .i64 b.x0.m, .int .i64 b.x0.s, .int .i64 b.y0.m, .int .i64 b.y0.s, .int .i64 b.x1.m, .int .i64 b.x1.s, .int .i64 b.y1.m, .int .i64 b.y1.s] 49)) a b :=
  ⟨(BIn.made w 49 a).old _, by have := BIn.made (w.alloc (.cells #[.int .i64 a.x0.m, .int .i64 a.x0.s, .int .i64 a.y0.m, .int .i64 a.y0.s, .int .i64 a.x1.m, .int .i64 a.x1.s, .int .i64 a.y1.m, .int .i64 a.y1.s] 49)) 49 b; simpa using this, by (repeat (first | with_reducible exact Below.refl _ _ | with_reducible refine Below.drew ?_ | with_reducible refine bdrewN ?_ _ | (with_reducible refine Below.setCell ?_ ?_ _; rotate_left; focus (first | exact Nat.le_refl _ | omega | (simp; omega) | (simp; done))) | (with_reducible refine Below.alloc ?_ ?_ _; rotate_left; focus (first | exact Nat.le_refl _ | omega | (simp; omega) | (simp; done))) | (with_reducible refine Below.trans ?_ (Below.mono (by assumption) ?_); rotate_left; focus (first | exact Nat.le_refl _ | omega | (simp; omega) | (simp; done)))))⟩
theorem TwoB.all {w W : World} {a b : BV} (h : TwoB w W a b) : W.cell? ⟨w.heap.size, 0, none⟩ = some (.int .i64 a.x0.m) ∧ W.cell? ⟨w.heap.size, 1, none⟩ = some (.int .i64 a.x0.s) ∧ W.cell? ⟨w.heap.size, 2, none⟩ = some (.int .i64 a.y0.m) ∧ W.cell? ⟨w.heap.size, 3, none⟩ = some (.int .i64 a.y0.s) ∧ W.cell? ⟨w.heap.size, 4, none⟩ = some (.int .i64 a.x1.m) ∧ W.cell? ⟨w.heap.size, 5, none⟩ = some (.int .i64 a.x1.s) ∧ W.cell? ⟨w.heap.size, 6, none⟩ = some (.int .i64 a.y1.m) ∧ W.cell? ⟨w.heap.size, 7, none⟩ = some (.int .i64 a.y1.s) ∧ W.cell? ⟨w.heap.size + 1, 0, none⟩ = some (.int .i64 b.x0.m) ∧ W.cell? ⟨w.heap.size + 1, 1, none⟩ = some (.int .i64 b.x0.s) ∧ W.cell? ⟨w.heap.size + 1, 2, none⟩ = some (.int .i64 b.y0.m) ∧ W.cell? ⟨w.heap.size + 1, 3, none⟩ = some (.int .i64 b.y0.s) ∧ W.cell? ⟨w.heap.size + 1, 4, none⟩ = some (.int .i64 b.x1.m) ∧ W.cell? ⟨w.heap.size + 1, 5, none⟩ = some (.int .i64 b.x1.s) ∧ W.cell? ⟨w.heap.size + 1, 6, none⟩ = some (.int .i64 b.y1.m) ∧ W.cell? ⟨w.heap.size + 1, 7, none⟩ = some (.int .i64 b.y1.s) :=
  ⟨h.a.1, h.a.2.1, h.a.2.2.1, h.a.2.2.2.1, h.a.2.2.2.2.1, h.a.2.2.2.2.2.1, h.a.2.2.2.2.2.2.1, h.a.2.2.2.2.2.2.2, h.b.1, h.b.2.1, h.b.2.2.1, h.b.2.2.2.1, h.b.2.2.2.2.1, h.b.2.2.2.2.2.1, h.b.2.2.2.2.2.2.1, h.b.2.2.2.2.2.2.2⟩
theorem TwoB.lt {w W : World} {a b : BV} (h : TwoB w W a b) : w.heap.size + 1 < W.heap.size := h.b.lt
theorem BV.Ok.toNums {b : BV} (h : b.Ok) : b.Nums := ⟨h.nums.1, h.nums.2.2.1, h.nums.2.1, h.nums.2.2.2⟩
set_option maxRecDepth 100000 in
set_option maxHeartbeats 8000000 in
theorem refmeets_bad (a b : BV) (w : World) (h : ¬ (a.Ok ∧ b.Ok)) :
    Calls Tryz.prog 54 #[a.val, b.val] w fun e w' => e = .returned (.tuple #[.bool false, .int .i64 1]) ∧ Below w.heap.size w w' := by
  have H0 := Lib.hid (TwoB.start w a b)
  by_cases ha : a.Ok
  · have HA := Lib.hid (And.intro ha (show ¬ b.Ok from fun k => h ⟨ha, k⟩))
    clear h ha
    go_enter Tryz.func54, Tryz.ntmps54
    go_wp2_with fail
    refine (bright_any a _ true (decide_eq_true HA.out.1)).mono ?_
    rintro e w1 ⟨rfl, kk⟩
    have H1 := Lib.hid (H0.out.here kk)
    clear kk
    have q := H1.out.all
    obtain ⟨q0, q1, q2, q3, q4, q5, q6, q7, s0, s1, s2, s3, s4, s5, s6, s7⟩ := q
    have lt := H1.out.lt
    go_wp2_with fail
    refine (bright_any b _ false (decide_eq_false HA.out.2)).mono ?_
    rintro e w2 ⟨rfl, kk⟩
    have H2 := Lib.hid (H1.out.here kk)
    clear kk
    clear q0 q1 q2 q3 q4 q5 q6 q7 s0 s1 s2 s3 s4 s5 s6 s7 lt
    go_wp2_with fail
    go_ret2
    exact ⟨rfl, H2.out.below⟩
  · have HA := Lib.hid ha
    clear h ha
    go_enter Tryz.func54, Tryz.ntmps54
    go_wp2_with fail
    refine (bright_any a _ false (decide_eq_false HA.out)).mono ?_
    rintro e w1 ⟨rfl, kk⟩
    have H1 := Lib.hid (H0.out.here kk)
    clear kk
    go_wp2_with fail
    go_ret2
    exact ⟨rfl, H1.out.below⟩
set_option maxRecDepth 100000 in
set_option maxHeartbeats 8000000 in
theorem refmeets_ok (a b : BV) (w : World) (ha : a.Ok) (hb : b.Ok) :
    Calls Tryz.prog 54 #[a.val, b.val] w fun e w' => e = .returned (.tuple #[.bool (meetB a b), .int .i64 0]) ∧ Below w.heap.size w w' := by
  have H0 := Lib.hid (TwoB.start w a b)
  rw [meet_ref ha hb]
  obtain ⟨r1, h1⟩ : ∃ r, leB (greD a.x0 b.x0) (lesD a.x1 b.x1) = r := ⟨_, rfl⟩
  obtain ⟨r2, h2⟩ : ∃ r, leB (greD a.y0 b.y0) (lesD a.y1 b.y1) = r := ⟨_, rfl⟩
  rw [h1, h2]
  have HN := Lib.hid (And.intro ha.toNums hb.toNums)
  have HL := Lib.hid (And.intro h1 h2)
  have HA := Lib.hid (And.intro ha hb)
  clear h1 h2 ha hb
  go_enter Tryz.func54, Tryz.ntmps54
  go_wp2_with fail
  refine (bright_any a _ true (decide_eq_true HA.out.1)).mono ?_
  rintro e w1 ⟨rfl, kk⟩
  have H1 := Lib.hid (H0.out.here kk)
  clear kk
  have q := H1.out.all
  obtain ⟨q0, q1, q2, q3, q4, q5, q6, q7, s0, s1, s2, s3, s4, s5, s6, s7⟩ := q
  have lt := H1.out.lt
  go_wp2_with fail
  refine (bright_any b _ true (decide_eq_true HA.out.2)).mono ?_
  rintro e w2 ⟨rfl, kk⟩
  have H2 := Lib.hid (H1.out.here kk)
  clear kk H0 H1
  clear q0 q1 q2 q3 q4 q5 q6 q7 s0 s1 s2 s3 s4 s5 s6 s7 lt
  go_wp2_with fail
  have HH := H2.out
  clear H2
  have X0 := (greD_ok HN.out.1.x0 HN.out.2.x0).1
  have X1 := (lesD_ok HN.out.1.x1 HN.out.2.x1).1
  have Y0 := (greD_ok HN.out.1.y0 HN.out.2.y0).1
  have Y1 := (lesD_ok HN.out.1.y1 HN.out.2.y1).1
  have HO := Lib.hid (And.intro (And.intro X0 X1) (And.intro Y0 Y1))
  clear X0 X1 Y0 Y1
  cases r1
  · skip
    have HC0 := HH.all
    refine wp_region_S 25 (fun v => v.cell? ⟨w.heap.size, 0, none⟩ = some (.int .i64 a.x0.m) ∧ v.cell? ⟨w.heap.size, 1, none⟩ = some (.int .i64 a.x0.s) ∧ v.cell? ⟨w.heap.size, 2, none⟩ = some (.int .i64 a.y0.m) ∧ v.cell? ⟨w.heap.size, 3, none⟩ = some (.int .i64 a.y0.s) ∧ v.cell? ⟨w.heap.size, 4, none⟩ = some (.int .i64 a.x1.m) ∧ v.cell? ⟨w.heap.size, 5, none⟩ = some (.int .i64 a.x1.s) ∧ v.cell? ⟨w.heap.size, 6, none⟩ = some (.int .i64 a.y1.m) ∧ v.cell? ⟨w.heap.size, 7, none⟩ = some (.int .i64 a.y1.s) ∧ v.cell? ⟨w.heap.size + 1, 0, none⟩ = some (.int .i64 b.x0.m) ∧ v.cell? ⟨w.heap.size + 1, 1, none⟩ = some (.int .i64 b.x0.s) ∧ v.cell? ⟨w.heap.size + 1, 2, none⟩ = some (.int .i64 b.y0.m) ∧ v.cell? ⟨w.heap.size + 1, 3, none⟩ = some (.int .i64 b.y0.s) ∧ v.cell? ⟨w.heap.size + 1, 4, none⟩ = some (.int .i64 b.x1.m) ∧ v.cell? ⟨w.heap.size + 1, 5, none⟩ = some (.int .i64 b.x1.s) ∧ v.cell? ⟨w.heap.size + 1, 6, none⟩ = some (.int .i64 b.y1.m) ∧ v.cell? ⟨w.heap.size + 1, 7, none⟩ = some (.int .i64 b.y1.s)) (by kernel_rfl) ?_
    refine wpAnyS_takeW (i := 0) (v := ?v1) rfl (by kernel_rfl) (fun _ _ _ h => h) (Or.inl ⟨by rfl, ?y1⟩) (fun _ => HC0) ?r1
    case y1 => intro wq _; go_simp; try with_reducible rfl
    try simp only [Act.put, List.setIfInBounds_toArray, List.set_cons_zero, List.set_cons_succ]
    refine wpAnyS_takeW (i := 2) (v := ?v2) rfl (by kernel_rfl) (fun _ _ _ h => h) (Or.inl ⟨by rfl, ?y2⟩) (fun _ => HC0) ?r2
    case y2 => intro wq _; go_simp; try with_reducible rfl
    try simp only [Act.put, List.setIfInBounds_toArray, List.set_cons_zero, List.set_cons_succ]
    refine wpAnyS_takeW (i := 5) (v := ?v3) rfl (by kernel_rfl) (fun _ _ _ h => h) (Or.inl ⟨by rfl, ?y3⟩) (fun _ => HC0) ?r3
    case y3 => intro wq _; go_simp; try with_reducible rfl
    try simp only [Act.put, List.setIfInBounds_toArray, List.set_cons_zero, List.set_cons_succ]
    refine wpAnyS_takeW (i := 7) (v := ?v4) rfl (by kernel_rfl) (fun _ _ _ h => h) (Or.inl ⟨by rfl, ?y4⟩) (fun _ => HC0) ?r4
    case y4 => intro wq _; go_simp; try with_reducible rfl
    try simp only [Act.put, List.setIfInBounds_toArray, List.set_cons_zero, List.set_cons_succ]
    refine wpAnyS_take (i := 1) (v := ?v5) rfl (by kernel_rfl) (fun _ _ _ h => h) (Or.inl ⟨by rfl, ?y5⟩) HC0 ?r5
    case y5 => intro wq hq; (try dsimp only at hq); go_simp; try with_reducible rfl
    try simp only [Act.put, List.setIfInBounds_toArray, List.set_cons_zero, List.set_cons_succ]
    refine wpAnyS_take (i := 3) (v := ?v6) rfl (by kernel_rfl) (fun _ _ _ h => h) (Or.inl ⟨by rfl, ?y6⟩) HC0 ?r6
    case y6 => intro wq hq; (try dsimp only at hq); go_simp; try with_reducible rfl
    try simp only [Act.put, List.setIfInBounds_toArray, List.set_cons_zero, List.set_cons_succ]
    refine wpAnyS_take (i := 6) (v := ?v7) rfl (by kernel_rfl) (fun _ _ _ h => h) (Or.inl ⟨by rfl, ?y7⟩) HC0 ?r7
    case y7 => intro wq hq; (try dsimp only at hq); go_simp; try with_reducible rfl
    try simp only [Act.put, List.setIfInBounds_toArray, List.set_cons_zero, List.set_cons_succ]
    refine wpAnyS_take (i := 8) (v := ?v8) rfl (by kernel_rfl) (fun _ _ _ h => h) (Or.inl ⟨by rfl, ?y8⟩) HC0 ?r8
    case y8 => intro wq hq; (try dsimp only at hq); go_simp; try with_reducible rfl
    try simp only [Act.put, List.setIfInBounds_toArray, List.set_cons_zero, List.set_cons_succ]
    refine wpAnyS_one (j := 4) (by kernel_rfl) rfl (fun K hK => ?_)
    go_simp
    go_at_call 84; (with_reducible refine (most_any a.x0 b.x0 _ HN.out.1.x0 HN.out.2.x0).mono ?_)
    rintro e v0 ⟨rfl, kk⟩
    have kk := undrew kk
    have HT0 := HH.here kk
    have HC1 := HT0.all
    clear kk
    go_wp2_with fail
    refine hK.out _ _ ⟨fun _ _ => HC1, ?_⟩
    clear hK K
    try simp only [Act.put, List.setIfInBounds_toArray, List.set_cons_zero, List.set_cons_succ]
    refine wpAnyS_one (j := 9) (by kernel_rfl) rfl (fun K hK => ?_)
    go_simp
    go_at_call 85; (with_reducible refine (least_any a.x1 b.x1 _ HN.out.1.x1 HN.out.2.x1).mono ?_)
    rintro e v1 ⟨rfl, kk⟩
    have HT1 := HT0.here kk
    have HC2 := HT1.all
    clear kk
    go_wp2_with fail
    refine hK.out _ _ ⟨fun _ _ => HC2, ?_⟩
    clear hK K
    try simp only [Act.put, List.setIfInBounds_toArray, List.set_cons_zero, List.set_cons_succ]
    refine wpAnyS_one (j := 10) (by kernel_rfl) rfl (fun K hK => ?_)
    go_simp
    go_at_call 53; (with_reducible refine (upto_any _ _ _ HO.out.1.1 HO.out.1.2 false HL.out.1).mono ?_)
    rintro e v2 ⟨rfl, kk⟩
    have HT2 := HT1.here kk
    have HC3 := HT2.all
    clear kk
    go_wp2_with fail
    refine hK.out _ _ ⟨fun _ _ => HC3, ?_⟩
    clear hK K
    try simp only [Act.put, List.setIfInBounds_toArray, List.set_cons_zero, List.set_cons_succ]
    refine wpAnyS_takeW (i := 11) (v := ?v9) rfl (by kernel_rfl) (fun _ _ _ h => h) (Or.inl ⟨by rfl, ?y9⟩) (fun _ => HC3) ?r9
    case y9 => intro wq _; go_simp; try with_reducible rfl
    try simp only [Act.put, List.setIfInBounds_toArray, List.set_cons_zero, List.set_cons_succ]
    refine wpAnyS_takeW (i := 12) (v := undef) rfl (by kernel_rfl) (fun _ _ _ h => h) (Or.inr ⟨by rfl, rfl⟩) (fun _ => HC3) ?r10
    try simp only [Act.put, List.setIfInBounds_toArray, List.set_cons_zero, List.set_cons_succ]
    refine wpAnyS_takeW (i := 13) (v := undef) rfl (by kernel_rfl) (fun _ _ _ h => h) (Or.inr ⟨by rfl, rfl⟩) (fun _ => HC3) ?r11
    try simp only [Act.put, List.setIfInBounds_toArray, List.set_cons_zero, List.set_cons_succ]
    refine wpAnyS_takeW (i := 14) (v := undef) rfl (by kernel_rfl) (fun _ _ _ h => h) (Or.inr ⟨by rfl, rfl⟩) (fun _ => HC3) ?r12
    try simp only [Act.put, List.setIfInBounds_toArray, List.set_cons_zero, List.set_cons_succ]
    refine wpAnyS_takeW (i := 15) (v := undef) rfl (by kernel_rfl) (fun _ _ _ h => h) (Or.inr ⟨by rfl, rfl⟩) (fun _ => HC3) ?r13
    try simp only [Act.put, List.setIfInBounds_toArray, List.set_cons_zero, List.set_cons_succ]
    refine wpAnyS_takeW (i := 16) (v := undef) rfl (by kernel_rfl) (fun _ _ _ h => h) (Or.inr ⟨by rfl, rfl⟩) (fun _ => HC3) ?r14
    try simp only [Act.put, List.setIfInBounds_toArray, List.set_cons_zero, List.set_cons_succ]
    refine wpAnyS_takeW (i := 17) (v := undef) rfl (by kernel_rfl) (fun _ _ _ h => h) (Or.inr ⟨by rfl, rfl⟩) (fun _ => HC3) ?r15
    try simp only [Act.put, List.setIfInBounds_toArray, List.set_cons_zero, List.set_cons_succ]
    refine wpAnyS_takeW (i := 18) (v := undef) rfl (by kernel_rfl) (fun _ _ _ h => h) (Or.inr ⟨by rfl, rfl⟩) (fun _ => HC3) ?r16
    try simp only [Act.put, List.setIfInBounds_toArray, List.set_cons_zero, List.set_cons_succ]
    refine wpAnyS_takeW (i := 19) (v := undef) rfl (by kernel_rfl) (fun _ _ _ h => h) (Or.inr ⟨by rfl, rfl⟩) (fun _ => HC3) ?r17
    try simp only [Act.put, List.setIfInBounds_toArray, List.set_cons_zero, List.set_cons_succ]
    refine wpAnyS_takeW (i := 20) (v := undef) rfl (by kernel_rfl) (fun _ _ _ h => h) (Or.inr ⟨by rfl, rfl⟩) (fun _ => HC3) ?r18
    try simp only [Act.put, List.setIfInBounds_toArray, List.set_cons_zero, List.set_cons_succ]
    refine wpAnyS_takeW (i := 21) (v := undef) rfl (by kernel_rfl) (fun _ _ _ h => h) (Or.inr ⟨by rfl, rfl⟩) (fun _ => HC3) ?r19
    try simp only [Act.put, List.setIfInBounds_toArray, List.set_cons_zero, List.set_cons_succ]
    refine wpAnyS_takeW (i := 22) (v := undef) rfl (by kernel_rfl) (fun _ _ _ h => h) (Or.inr ⟨by rfl, rfl⟩) (fun _ => HC3) ?r20
    try simp only [Act.put, List.setIfInBounds_toArray, List.set_cons_zero, List.set_cons_succ]
    refine wpAnyS_takeW (i := 23) (v := ?v21) rfl (by kernel_rfl) (fun _ _ _ h => h) (Or.inl ⟨by rfl, ?y21⟩) (fun _ => HC3) ?r21
    case y21 => intro wq _; go_simp; try with_reducible rfl
    try simp only [Act.put, List.setIfInBounds_toArray, List.set_cons_zero, List.set_cons_succ]
    refine wpAnyS_takeW (i := 24) (v := ?v22) rfl (by kernel_rfl) (fun _ _ _ h => h) (Or.inl ⟨by rfl, ?y22⟩) (fun _ => HC3) ?r22
    case y22 => intro wq _; go_simp; try with_reducible rfl
    try simp only [Act.put, List.setIfInBounds_toArray, List.set_cons_zero, List.set_cons_succ]
    refine wpAnyS_one (j := 25) (by kernel_rfl) rfl (fun K hK => ?_)
    go_simp
    refine hK.out _ _ ⟨fun h => absurd rfl h, ?_⟩
    clear hK K
    try simp only [Act.put, List.setIfInBounds_toArray, List.set_cons_zero, List.set_cons_succ]
    refine wpAnyS_done (by kernel_rfl) ?_ _
    go_wp2_with fail
    go_ret2
    exact ⟨rfl, HT2.below⟩
  cases r2
  all_goals try simp only [Bool.true_and]
  all_goals
    go_region_held3 (fun v => v.cell? ⟨w.heap.size, 0, none⟩ = some (.int .i64 a.x0.m) ∧ v.cell? ⟨w.heap.size, 1, none⟩ = some (.int .i64 a.x0.s) ∧ v.cell? ⟨w.heap.size, 2, none⟩ = some (.int .i64 a.y0.m) ∧ v.cell? ⟨w.heap.size, 3, none⟩ = some (.int .i64 a.y0.s) ∧ v.cell? ⟨w.heap.size, 4, none⟩ = some (.int .i64 a.x1.m) ∧ v.cell? ⟨w.heap.size, 5, none⟩ = some (.int .i64 a.x1.s) ∧ v.cell? ⟨w.heap.size, 6, none⟩ = some (.int .i64 a.y1.m) ∧ v.cell? ⟨w.heap.size, 7, none⟩ = some (.int .i64 a.y1.s) ∧ v.cell? ⟨w.heap.size + 1, 0, none⟩ = some (.int .i64 b.x0.m) ∧ v.cell? ⟨w.heap.size + 1, 1, none⟩ = some (.int .i64 b.x0.s) ∧ v.cell? ⟨w.heap.size + 1, 2, none⟩ = some (.int .i64 b.y0.m) ∧ v.cell? ⟨w.heap.size + 1, 3, none⟩ = some (.int .i64 b.y0.s) ∧ v.cell? ⟨w.heap.size + 1, 4, none⟩ = some (.int .i64 b.x1.m) ∧ v.cell? ⟨w.heap.size + 1, 5, none⟩ = some (.int .i64 b.x1.s) ∧ v.cell? ⟨w.heap.size + 1, 6, none⟩ = some (.int .i64 b.y1.m) ∧ v.cell? ⟨w.heap.size + 1, 7, none⟩ = some (.int .i64 b.y1.s))
      (first | with_reducible exact TwoB.all HH | with_reducible exact TwoB.all (TwoB.drew HH))
      (first
        | (go_at_call 84; (with_reducible refine (most_any a.x0 b.x0 _ HN.out.1.x0 HN.out.2.x0).mono ?_); rintro e v ⟨rfl, kk⟩; (first | (with_reducible have HH := TwoB.here (TwoB.drew HH) kk) | (with_reducible have HH := TwoB.here HH kk)))
        | (go_at_call 85; (with_reducible refine (least_any a.x1 b.x1 _ HN.out.1.x1 HN.out.2.x1).mono ?_); rintro e v ⟨rfl, kk⟩; (first | (with_reducible have HH := TwoB.here (TwoB.drew HH) kk) | (with_reducible have HH := TwoB.here HH kk)))
        | (go_at_call 84; (with_reducible refine (most_any a.y0 b.y0 _ HN.out.1.y0 HN.out.2.y0).mono ?_); rintro e v ⟨rfl, kk⟩; (first | (with_reducible have HH := TwoB.here (TwoB.drew HH) kk) | (with_reducible have HH := TwoB.here HH kk)))
        | (go_at_call 85; (with_reducible refine (least_any a.y1 b.y1 _ HN.out.1.y1 HN.out.2.y1).mono ?_); rintro e v ⟨rfl, kk⟩; (first | (with_reducible have HH := TwoB.here (TwoB.drew HH) kk) | (with_reducible have HH := TwoB.here HH kk)))
        | (go_at_call 53; (with_reducible refine (upto_any _ _ _ HO.out.1.1 HO.out.1.2 _ HL.out.1).mono ?_); rintro e v ⟨rfl, kk⟩; (first | (with_reducible have HH := TwoB.here (TwoB.drew HH) kk) | (with_reducible have HH := TwoB.here HH kk)))
        | (go_at_call 53; (with_reducible refine (upto_any _ _ _ HO.out.2.1 HO.out.2.2 _ HL.out.2).mono ?_); rintro e v ⟨rfl, kk⟩; (first | (with_reducible have HH := TwoB.here (TwoB.drew HH) kk) | (with_reducible have HH := TwoB.here HH kk))))
    all_goals
      go_wp2_with fail
      go_ret2
      first | exact ⟨rfl, HH.below⟩ | exact ⟨rfl, HH.below.drew⟩
theorem refmeets_any (a b : BV) (w : World) (r : Bool) (E : Int) (h : MeetIs a b r E) :
    Calls Tryz.prog 54 #[a.val, b.val] w fun e w' => e = .returned (.tuple #[.bool r, .int .i64 E]) ∧ Below w.heap.size w w' := by
  rcases h with ⟨ha, hb, rfl, rfl⟩ | ⟨h, rfl, rfl⟩
  · exact refmeets_ok a b w ha hb
  · exact refmeets_bad a b w h
end Go.Proofs.YtdlmhienolmncaaGreat
