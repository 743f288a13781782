/- The reference's Add: the walk. -/
import Derived.Test.YtpdjooeogpidhaaRefSumR
import Derived.Test.YtpdjooeogpidhaaRefCmp
namespace Go.Proofs.Ytpdjooeogpidhaa
open Go.RowKit Dec

theorem sgn_lift (m : Int) (k : Nat) : sgn (decide (m < 0)) (10 ^ k * m.natAbs) = m * ((10 ^ k : Nat) : Int) := by
  unfold sgn
  have cast1 : ((10 ^ k * m.natAbs : Nat) : Int) = ((10 ^ k : Nat) : Int) * (m.natAbs : Int) := by push_cast; rfl
  rw [cast1]
  generalize ((10 ^ k : Nat) : Int) = p
  by_cases h : m < 0
  · simp only [h, decide_true, if_true]
    rw [show (m.natAbs : Int) = -m by omega, Int.mul_neg, Int.neg_neg, Int.mul_comm]
  · simp only [h, decide_false, Bool.false_eq_true, if_false]
    rw [show (m.natAbs : Int) = m by omega, Int.mul_comm]
theorem add_val {m m' : Int} {s s' : Nat} (hv : Valid m s) (hv' : Valid m' s') {M S E : Int}
    (h : Denotes (sgn (decide (m < 0)) (num (liftD (max s s') s (digs m.natAbs))) + sgn (decide (m' < 0)) (num (liftD (max s s') s' (digs m'.natAbs)))) (max s s') M S E) : Denotes (val9 m s + val9 m' s') 9 M S E := by
  have h9 : max s s' ≤ 9 := by have := hv.2.2.2.1; have := hv'.2.2.2.1; omega
  rw [liftD_num, liftD_num, (num_digs _).1, (num_digs _).1, sgn_lift, sgn_lift] at h
  refine h.scale ?_
  rw [val9_lift (Nat.le_max_left s s') h9, val9_lift (Nat.le_max_right s s') h9, ← Int.add_mul, Int.mul_assoc]
  congr 1
  show (10 : Int) ^ 9 = 10 ^ (9 - max s s') * 10 ^ (max s s')
  rw [← Int.pow_add]
  congr 1
  omega
theorem refadd_bad (m s m' s' : Int) (w : World) (hv : ¬ (Valid m s ∧ Valid m' s')) :
    Calls Try.prog 49 #[.agg #[.int .i64 m, .int .i64 s], .agg #[.int .i64 m', .int .i64 s']] w (IsArg w) := by
  have HWA := Lib.hid (three_dec w m s m' s')
  by_cases h1 : Valid m s
  · have hd : decide (Valid m s) = true := decide_eq_true h1
    have hd' : decide (Valid m' s') = false := decide_eq_false (fun h => hv ⟨h1, h⟩)
    have HD := Lib.hid (And.intro hd hd')
    clear hv h1 hd hd'
    go_enter Try.func49, Try.ntmps49
    go_wp2_with fail
    refine (right_any m s _).mono ?_
    rintro e w1 ⟨rfl, hb⟩
    rw [HD.out.1]
    have HW1 := Lib.hid (HWA.out.here hb)
    clear hb HWA
    have b0 : w1.cell? ⟨w.heap.size + 1, 0, none⟩ = some (.int .i64 m') := HW1.out.b.reads 0
    have b1 : w1.cell? ⟨w.heap.size + 1, 1, none⟩ = some (.int .i64 s') := HW1.out.b.reads 1
    have lb := HW1.out.b.lt
    go_wp2_with fail
    refine (right_any m' s' _).mono ?_
    rintro e w2 ⟨rfl, hb⟩
    rw [HD.out.2]
    have HW2 := Lib.hid (HW1.out.here hb)
    clear hb HW1 b0 b1 lb
    have r0 : w2.cell? ⟨w.heap.size + 1 + 1, 0, none⟩ = some (.int .i64 0) := HW2.out.r.reads 0
    have r1 : w2.cell? ⟨w.heap.size + 1 + 1, 1, none⟩ = some (.int .i64 0) := HW2.out.r.reads 1
    have z0 := HW2.out.r.thawed 0
    have z1 := HW2.out.r.thawed 1
    have lr := HW2.out.r.lt
    have hfin := (HW2.out.below.setCell (p := ⟨w.heap.size + 1 + 1, 0, none⟩) (by simp; omega) (.int .i64 0)).setCell (p := ⟨w.heap.size + 1 + 1, 1, none⟩) (by simp; omega) (.int .i64 0)
    have HF := Lib.hid hfin
    clear hfin
    go_wp2_with fail
    exact bodyPost_ret (v := .tuple #[.agg #[.int .i64 0, .int .i64 0], .int .i64 1]) (by simp [results, Try.results49, go_sem, r0, r1]) rfl ⟨rfl, HF.out⟩
  · have hd : decide (Valid m s) = false := decide_eq_false h1
    have HD := Lib.hid hd
    clear hv h1 hd
    go_enter Try.func49, Try.ntmps49
    go_wp2_with fail
    refine (right_any m s _).mono ?_
    rintro e w2 ⟨rfl, hb⟩
    rw [HD.out]
    have HW2 := Lib.hid (HWA.out.here hb)
    clear hb HWA
    have r0 : w2.cell? ⟨w.heap.size + 1 + 1, 0, none⟩ = some (.int .i64 0) := HW2.out.r.reads 0
    have r1 : w2.cell? ⟨w.heap.size + 1 + 1, 1, none⟩ = some (.int .i64 0) := HW2.out.r.reads 1
    have z0 := HW2.out.r.thawed 0
    have z1 := HW2.out.r.thawed 1
    have lr := HW2.out.r.lt
    have hfin := (HW2.out.below.setCell (p := ⟨w.heap.size + 1 + 1, 0, none⟩) (by simp; omega) (.int .i64 0)).setCell (p := ⟨w.heap.size + 1 + 1, 1, none⟩) (by simp; omega) (.int .i64 0)
    have HF := Lib.hid hfin
    clear hfin
    go_wp2_with fail
    exact bodyPost_ret (v := .tuple #[.agg #[.int .i64 0, .int .i64 0], .int .i64 1]) (by simp [results, Try.results49, go_sem, r0, r1]) rfl ⟨rfl, HF.out⟩
set_option maxRecDepth 100000 in
set_option maxHeartbeats 4000000 in
theorem refadd_ok (m m' : Int) (s s' : Nat) (w : World) (hv : Valid m s) (hv' : Valid m' s') :
    Calls Try.prog 49 #[.agg #[.int .i64 m, .int .i64 s], .agg #[.int .i64 m', .int .i64 s']] w (IsTold (val9 m s + val9 m' s') 9 w) := by
  have HWA := Lib.hid (three_dec w m s m' s')
  have hd : decide (Valid m s) = true := decide_eq_true hv
  have hd' : decide (Valid m' s') = true := decide_eq_true hv'
  have HD := Lib.hid (And.intro hd hd')
  have HVV := Lib.hid (And.intro hv hv')
  have h1 := hv.1
  have h2 := hv.2.1
  have h3 := hv'.1
  have h4 := hv'.2.1
  have h5 := hv.2.2.2.1
  have h6 := hv'.2.2.2.1
  clear hv hv' hd hd'
  go_enter Try.func49, Try.ntmps49
  go_wp2_with fail
  refine (right_any m s _).mono ?_
  rintro e w1 ⟨rfl, hb⟩
  rw [HD.out.1]
  have HW1 := Lib.hid (HWA.out.here hb)
  clear hb HWA
  have b0 : w1.cell? ⟨w.heap.size + 1, 0, none⟩ = some (.int .i64 m') := HW1.out.b.reads 0
  have b1 : w1.cell? ⟨w.heap.size + 1, 1, none⟩ = some (.int .i64 s') := HW1.out.b.reads 1
  have lb := HW1.out.b.lt
  go_wp2_with fail
  refine (right_any m' s' _).mono ?_
  rintro e w2 ⟨rfl, hb⟩
  rw [HD.out.2]
  have HW2 := Lib.hid (HW1.out.here hb)
  clear hb HW1 b0 b1 lb
  have a0 : w2.cell? ⟨w.heap.size, 0, none⟩ = some (.int .i64 m) := HW2.out.a.reads 0
  have a1 : w2.cell? ⟨w.heap.size, 1, none⟩ = some (.int .i64 s) := HW2.out.a.reads 1
  have b0 : w2.cell? ⟨w.heap.size + 1, 0, none⟩ = some (.int .i64 m') := HW2.out.b.reads 0
  have b1 : w2.cell? ⟨w.heap.size + 1, 1, none⟩ = some (.int .i64 s') := HW2.out.b.reads 1
  have la := HW2.out.a.lt
  have lb := HW2.out.b.lt
  have hlen6 : (digs m.natAbs).length ≤ 18 := digs_len 18 _ (by omega)
  have hlen7 : (digs m'.natAbs).length ≤ 18 := digs_len 18 _ (by omega)
  have hS : (max (s : Int) (s' : Int)) = ((max s s' : Nat) : Int) := by omega
  have hS9 : max s s' ≤ 9 := by omega
  go_wp2_with fail
  go_region_with (first
    | (go_at_call 58; (with_reducible refine (of_num m s _ (by omega)).mono ?_); rintro e w3 ⟨v3, rfl, hown, hb⟩; obtain ⟨av3, cv3, rfl⟩ := own_slice' hown; have h3' := HW2.out.drew.here hb; have b0' : w3.cell? ⟨w.heap.size + 1, 0, none⟩ = some (.int .i64 m') := h3'.b.reads 0; have b1' : w3.cell? ⟨w.heap.size + 1, 1, none⟩ = some (.int .i64 s') := h3'.b.reads 1; have lb' := h3'.b.lt; have HW3 := Lib.hid (And.intro h3' (own_row hown)); clear h3' hown hb)
    | (go_at_call 58; (with_reducible refine (of_num m' s' _ (by omega)).mono ?_); rintro e w4 ⟨v4, rfl, hown, hb⟩; obtain ⟨av4, cv4, rfl⟩ := own_slice' hown; have HW4 := Lib.hid (And.intro (HW3.out.1.here hb) (And.intro (row_below HW3.out.2 hb) (own_row hown))); clear hown hb)
    | (go_at_call 60; (with_reducible refine (rsum_any _ _ _ _ (digs m.natAbs) (digs m'.natAbs) s s' _ HW4.out.2.1 HW4.out.2.2 (num_digs _).2 (num_digs _).2 (by omega) (by omega) (by omega) (by omega)).mono ?_); rintro e w5 ⟨b5, v5, ds5, rfl, hown, hdg, hV, hln, hb⟩; obtain ⟨av5, cv5, rfl⟩ := own_slice' hown; have HW5 := Lib.hid (And.intro (HW4.out.1.here hb) (And.intro (own_row hown) (And.intro hdg hV))); clear hown hb hdg hV)
    | (go_at_call 59; (with_reducible refine (told_any _ _ ds5 (max s s') _ _ HW5.out.2.1 HW5.out.2.2.1 (by omega) (by omega) HW5.out.2.2.2).mono ?_); rintro e w6 ⟨M, S, E, rfl, hden, hb⟩; have h6' := HW5.out.1.here hb; have r0 : w6.cell? ⟨w.heap.size + 1 + 1, 0, none⟩ = some (.int .i64 0) := h6'.r.reads 0; have r1 : w6.cell? ⟨w.heap.size + 1 + 1, 1, none⟩ = some (.int .i64 0) := h6'.r.reads 1; have z0 := h6'.r.thawed 0; have z1 := h6'.r.thawed 1; have lr := h6'.r.lt; have hfin := (h6'.below.setCell (p := ⟨w.heap.size + 1 + 1, 0, none⟩) (by simp; omega) (.int .i64 M)).setCell (p := ⟨w.heap.size + 1 + 1, 1, none⟩) (by simp; omega) (.int .i64 S); have HF := Lib.hid (And.intro hden hfin); clear h6' hb hden hfin))
  all_goals
    go_wp2_with fail
    exact bodyPost_ret (v := .tuple #[.agg #[.int .i64 M, .int .i64 S], .int .i64 E]) (by simp [results, Try.results49, go_sem, r0, r1]) rfl ⟨M, S, E, rfl, add_val HVV.out.1 HVV.out.2 HF.out.1, HF.out.2⟩
end Go.Proofs.Ytpdjooeogpidhaa
