/- The reference's Meets and Both: the walks. -/
import Derived.Test.YtpdjooeogpidhaaRefBoxF
import Derived.Test.YtpdjooeogpidhaaBoxBoth
import Derived.Deep.RegionHeld3
namespace Go.Proofs.Ytpdjooeogpidhaa
open Go.RowKit Dec

theorem meet_ref {a b : BV} (ha : a.Ok) (hb : b.Ok) : meetB a b = (leB (greD a.x0 b.x0) (lesD a.x1 b.x1) && leB (greD a.y0 b.y0) (lesD a.y1 b.y1)) := by
  obtain ⟨ax, ay⟩ := ha
  obtain ⟨bx, by_⟩ := hb
  have ax := leB_iff.1 ax
  have ay := leB_iff.1 ay
  have bx := leB_iff.1 bx
  have bY := leB_iff.1 by_
  have key : ∀ p q r s : DV, p.Ok ∧ q.Ok ∧ p.v ≤ q.v → r.Ok ∧ s.Ok ∧ r.v ≤ s.v → (leB p s && leB r q) = leB (greD p r) (lesD q s) := by
    intro p q r s hpq hrs
    have h1 := greD_ok hpq.1 hrs.1
    have h2 := lesD_ok hpq.2.1 hrs.2.1
    rw [Bool.eq_iff_iff, Bool.and_eq_true, leB_iff, leB_iff, leB_iff]
    constructor
    · rintro ⟨⟨_, _, h3⟩, ⟨_, _, h4⟩⟩
      refine ⟨h1.1, h2.1, ?_⟩
      rcases h1.2.2.2 with e | e <;> rcases h2.2.2.2 with e' | e' <;> rw [e, e'] <;> omega
    · rintro ⟨_, _, h3⟩
      exact ⟨⟨hpq.1, hrs.2.1, by omega⟩, ⟨hrs.1, hpq.2.1, by omega⟩⟩
  unfold meetB
  rw [key _ _ _ _ ax bx, key _ _ _ _ ay bY]
/-- Two boxes in blocks of their own. -/
structure TwoB (w W : World) (a b : BV) : Prop where
  a : BIn W w.heap.size a
  b : BIn W (w.heap.size + 1) b
  below : Below w.heap.size w W
theorem TwoB.here {w W W' : World} {a b : BV} (h : TwoB w W a b) (hb : Below W.heap.size W W') : TwoB w W' a b := ⟨h.a.later hb, h.b.later hb, h.below.trans (hb.mono h.below.size)⟩
theorem TwoB.drew {w W : World} {a b : BV} (h : TwoB w W a b) : TwoB w W.drew a b := h.here (Below.refl _ _).drew
theorem TwoB.start (w : World) (a b : BV) : TwoB w ((w.alloc (.cells #[.int .i64 a.x0.m, .int .i64 a.x0.s, .int .i64 a.y0.m, .int .i64 a.y0.s, .int .i64 a.x1.m, .int .i64 a.x1.s, .int .i64 a.y1.m, .int .i64 a.y1.s] 40)).alloc (.cells #[.int .i64 b.x0.m, .int .i64 b.x0.s, .int .i64 b.y0.m, .int .i64 b.y0.s, .int .i64 b.x1.m, .int .i64 b.x1.s, .int .i64 b.y1.m, .int .i64 b.y1.s] 40)) a b :=
  ⟨(BIn.made w 40 a).old _, by have := BIn.made (w.alloc (.cells #[.int .i64 a.x0.m, .int .i64 a.x0.s, .int .i64 a.y0.m, .int .i64 a.y0.s, .int .i64 a.x1.m, .int .i64 a.x1.s, .int .i64 a.y1.m, .int .i64 a.y1.s] 40)) 40 b; simpa using this, by (repeat (first | with_reducible exact Below.refl _ _ | with_reducible refine Below.drew ?_ | with_reducible refine bdrewN ?_ _ | (with_reducible refine Below.setCell ?_ ?_ _; rotate_left; focus (first | exact Nat.le_refl _ | omega | (simp; omega) | (simp; done))) | (with_reducible refine Below.alloc ?_ ?_ _; rotate_left; focus (first | exact Nat.le_refl _ | omega | (simp; omega) | (simp; done))) | (with_reducible refine Below.trans ?_ (Below.mono (by assumption) ?_); rotate_left; focus (first | exact Nat.le_refl _ | omega | (simp; omega) | (simp; done)))))⟩
theorem TwoB.all {w W : World} {a b : BV} (h : TwoB w W a b) : W.cell? ⟨w.heap.size, 0, none⟩ = some (.int .i64 a.x0.m) ∧ W.cell? ⟨w.heap.size, 1, none⟩ = some (.int .i64 a.x0.s) ∧ W.cell? ⟨w.heap.size, 2, none⟩ = some (.int .i64 a.y0.m) ∧ W.cell? ⟨w.heap.size, 3, none⟩ = some (.int .i64 a.y0.s) ∧ W.cell? ⟨w.heap.size, 4, none⟩ = some (.int .i64 a.x1.m) ∧ W.cell? ⟨w.heap.size, 5, none⟩ = some (.int .i64 a.x1.s) ∧ W.cell? ⟨w.heap.size, 6, none⟩ = some (.int .i64 a.y1.m) ∧ W.cell? ⟨w.heap.size, 7, none⟩ = some (.int .i64 a.y1.s) ∧ W.cell? ⟨w.heap.size + 1, 0, none⟩ = some (.int .i64 b.x0.m) ∧ W.cell? ⟨w.heap.size + 1, 1, none⟩ = some (.int .i64 b.x0.s) ∧ W.cell? ⟨w.heap.size + 1, 2, none⟩ = some (.int .i64 b.y0.m) ∧ W.cell? ⟨w.heap.size + 1, 3, none⟩ = some (.int .i64 b.y0.s) ∧ W.cell? ⟨w.heap.size + 1, 4, none⟩ = some (.int .i64 b.x1.m) ∧ W.cell? ⟨w.heap.size + 1, 5, none⟩ = some (.int .i64 b.x1.s) ∧ W.cell? ⟨w.heap.size + 1, 6, none⟩ = some (.int .i64 b.y1.m) ∧ W.cell? ⟨w.heap.size + 1, 7, none⟩ = some (.int .i64 b.y1.s) :=
  ⟨h.a.1, h.a.2.1, h.a.2.2.1, h.a.2.2.2.1, h.a.2.2.2.2.1, h.a.2.2.2.2.2.1, h.a.2.2.2.2.2.2.1, h.a.2.2.2.2.2.2.2, h.b.1, h.b.2.1, h.b.2.2.1, h.b.2.2.2.1, h.b.2.2.2.2.1, h.b.2.2.2.2.2.1, h.b.2.2.2.2.2.2.1, h.b.2.2.2.2.2.2.2⟩
theorem TwoB.lt {w W : World} {a b : BV} (h : TwoB w W a b) : w.heap.size + 1 < W.heap.size := h.b.lt
theorem BV.Ok.toNums {b : BV} (h : b.Ok) : b.Nums := ⟨h.nums.1, h.nums.2.2.1, h.nums.2.1, h.nums.2.2.2⟩
set_option maxRecDepth 100000 in
set_option maxHeartbeats 8000000 in
theorem refmeets_bad (a b : BV) (w : World) (h : ¬ (a.Ok ∧ b.Ok)) :
    Calls Try.prog 19 #[a.val, b.val] w fun e w' => e = .returned (.tuple #[.bool false, .int .i64 1]) ∧ Below w.heap.size w w' := by
  have H0 := Lib.hid (TwoB.start w a b)
  by_cases ha : a.Ok
  · have HA := Lib.hid (And.intro ha (show ¬ b.Ok from fun k => h ⟨ha, k⟩))
    clear h ha
    go_enter Try.func19, Try.ntmps19
    go_wp2_with fail
    refine (bright_any a _ true (decide_eq_true HA.out.1)).mono ?_
    rintro e w1 ⟨rfl, kk⟩
    have H1 := Lib.hid (H0.out.here kk)
    clear kk
    have q := H1.out.all
    obtain ⟨q0, q1, q2, q3, q4, q5, q6, q7, s0, s1, s2, s3, s4, s5, s6, s7⟩ := q
    have lt := H1.out.lt
    go_wp2_with fail
    refine (bright_any b _ false (decide_eq_false HA.out.2)).mono ?_
    rintro e w2 ⟨rfl, kk⟩
    have H2 := Lib.hid (H1.out.here kk)
    clear kk
    clear q0 q1 q2 q3 q4 q5 q6 q7 s0 s1 s2 s3 s4 s5 s6 s7 lt
    go_wp2_with fail
    go_ret2
    exact ⟨rfl, H2.out.below⟩
  · have HA := Lib.hid ha
    clear h ha
    go_enter Try.func19, Try.ntmps19
    go_wp2_with fail
    refine (bright_any a _ false (decide_eq_false HA.out)).mono ?_
    rintro e w1 ⟨rfl, kk⟩
    have H1 := Lib.hid (H0.out.here kk)
    clear kk
    go_wp2_with fail
    go_ret2
    exact ⟨rfl, H1.out.below⟩
set_option maxRecDepth 100000 in
set_option maxHeartbeats 8000000 in
theorem refmeets_ok (a b : BV) (w : World) (ha : a.Ok) (hb : b.Ok) :
    Calls Try.prog 19 #[a.val, b.val] w fun e w' => e = .returned (.tuple #[.bool (meetB a b), .int .i64 0]) ∧ Below w.heap.size w w' := by
  have H0 := Lib.hid (TwoB.start w a b)
  rw [meet_ref ha hb]
  obtain ⟨r1, h1⟩ : ∃ r, leB (greD a.x0 b.x0) (lesD a.x1 b.x1) = r := ⟨_, rfl⟩
  obtain ⟨r2, h2⟩ : ∃ r, leB (greD a.y0 b.y0) (lesD a.y1 b.y1) = r := ⟨_, rfl⟩
  rw [h1, h2]
  have HN := Lib.hid (And.intro ha.toNums hb.toNums)
  have HL := Lib.hid (And.intro h1 h2)
  have HA := Lib.hid (And.intro ha hb)
  clear h1 h2 ha hb
  go_enter Try.func19, Try.ntmps19
  go_wp2_with fail
  refine (bright_any a _ true (decide_eq_true HA.out.1)).mono ?_
  rintro e w1 ⟨rfl, kk⟩
  have H1 := Lib.hid (H0.out.here kk)
  clear kk
  have q := H1.out.all
  obtain ⟨q0, q1, q2, q3, q4, q5, q6, q7, s0, s1, s2, s3, s4, s5, s6, s7⟩ := q
  have lt := H1.out.lt
  go_wp2_with fail
  refine (bright_any b _ true (decide_eq_true HA.out.2)).mono ?_
  rintro e w2 ⟨rfl, kk⟩
  have H2 := Lib.hid (H1.out.here kk)
  clear kk H0 H1
  clear q0 q1 q2 q3 q4 q5 q6 q7 s0 s1 s2 s3 s4 s5 s6 s7 lt
  go_wp2_with fail
  have HH := H2.out
  clear H2
  have X0 := (greD_ok HN.out.1.x0 HN.out.2.x0).1
  have X1 := (lesD_ok HN.out.1.x1 HN.out.2.x1).1
  have Y0 := (greD_ok HN.out.1.y0 HN.out.2.y0).1
  have Y1 := (lesD_ok HN.out.1.y1 HN.out.2.y1).1
  have HO := Lib.hid (And.intro (And.intro X0 X1) (And.intro Y0 Y1))
  clear X0 X1 Y0 Y1
  cases r1
  · skip
    have HC0 := HH.all
    refine wp_region_S 25 (fun v => v.cell? ⟨w.heap.size, 0, none⟩ = some (.int .i64 a.x0.m) ∧ v.cell? ⟨w.heap.size, 1, none⟩ = some (.int .i64 a.x0.s) ∧ v.cell? ⟨w.heap.size, 2, none⟩ = some (.int .i64 a.y0.m) ∧ v.cell? ⟨w.heap.size, 3, none⟩ = some (.int .i64 a.y0.s) ∧ v.cell? ⟨w.heap.size, 4, none⟩ = some (.int .i64 a.x1.m) ∧ v.cell? ⟨w.heap.size, 5, none⟩ = some (.int .i64 a.x1.s) ∧ v.cell? ⟨w.heap.size, 6, none⟩ = some (.int .i64 a.y1.m) ∧ v.cell? ⟨w.heap.size, 7, none⟩ = some (.int .i64 a.y1.s) ∧ v.cell? ⟨w.heap.size + 1, 0, none⟩ = some (.int .i64 b.x0.m) ∧ v.cell? ⟨w.heap.size + 1, 1, none⟩ = some (.int .i64 b.x0.s) ∧ v.cell? ⟨w.heap.size + 1, 2, none⟩ = some (.int .i64 b.y0.m) ∧ v.cell? ⟨w.heap.size + 1, 3, none⟩ = some (.int .i64 b.y0.s) ∧ v.cell? ⟨w.heap.size + 1, 4, none⟩ = some (.int .i64 b.x1.m) ∧ v.cell? ⟨w.heap.size + 1, 5, none⟩ = some (.int .i64 b.x1.s) ∧ v.cell? ⟨w.heap.size + 1, 6, none⟩ = some (.int .i64 b.y1.m) ∧ v.cell? ⟨w.heap.size + 1, 7, none⟩ = some (.int .i64 b.y1.s)) (by kernel_rfl) ?_
    refine wpAnyS_takeW (i := 0) (v := ?v1) rfl (by kernel_rfl) (fun _ _ _ h => h) (Or.inl ⟨by rfl, ?y1⟩) (fun _ => HC0) ?r1
    case y1 => intro wq _; go_simp; try with_reducible rfl
    try simp only [Act.put, List.setIfInBounds_toArray, List.set_cons_zero, List.set_cons_succ]
    refine wpAnyS_takeW (i := 2) (v := ?v2) rfl (by kernel_rfl) (fun _ _ _ h => h) (Or.inl ⟨by rfl, ?y2⟩) (fun _ => HC0) ?r2
    case y2 => intro wq _; go_simp; try with_reducible rfl
    try simp only [Act.put, List.setIfInBounds_toArray, List.set_cons_zero, List.set_cons_succ]
    refine wpAnyS_takeW (i := 5) (v := ?v3) rfl (by kernel_rfl) (fun _ _ _ h => h) (Or.inl ⟨by rfl, ?y3⟩) (fun _ => HC0) ?r3
    case y3 => intro wq _; go_simp; try with_reducible rfl
    try simp only [Act.put, List.setIfInBounds_toArray, List.set_cons_zero, List.set_cons_succ]
    refine wpAnyS_takeW (i := 7) (v := ?v4) rfl (by kernel_rfl) (fun _ _ _ h => h) (Or.inl ⟨by rfl, ?y4⟩) (fun _ => HC0) ?r4
    case y4 => intro wq _; go_simp; try with_reducible rfl
    try simp only [Act.put, List.setIfInBounds_toArray, List.set_cons_zero, List.set_cons_succ]
    refine wpAnyS_take (i := 1) (v := ?v5) rfl (by kernel_rfl) (fun _ _ _ h => h) (Or.inl ⟨by rfl, ?y5⟩) HC0 ?r5
    case y5 => intro wq hq; (try dsimp only at hq); go_simp; try with_reducible rfl
    try simp only [Act.put, List.setIfInBounds_toArray, List.set_cons_zero, List.set_cons_succ]
    refine wpAnyS_take (i := 3) (v := ?v6) rfl (by kernel_rfl) (fun _ _ _ h => h) (Or.inl ⟨by rfl, ?y6⟩) HC0 ?r6
    case y6 => intro wq hq; (try dsimp only at hq); go_simp; try with_reducible rfl
    try simp only [Act.put, List.setIfInBounds_toArray, List.set_cons_zero, List.set_cons_succ]
    refine wpAnyS_take (i := 6) (v := ?v7) rfl (by kernel_rfl) (fun _ _ _ h => h) (Or.inl ⟨by rfl, ?y7⟩) HC0 ?r7
    case y7 => intro wq hq; (try dsimp only at hq); go_simp; try with_reducible rfl
    try simp only [Act.put, List.setIfInBounds_toArray, List.set_cons_zero, List.set_cons_succ]
    refine wpAnyS_take (i := 8) (v := ?v8) rfl (by kernel_rfl) (fun _ _ _ h => h) (Or.inl ⟨by rfl, ?y8⟩) HC0 ?r8
    case y8 => intro wq hq; (try dsimp only at hq); go_simp; try with_reducible rfl
    try simp only [Act.put, List.setIfInBounds_toArray, List.set_cons_zero, List.set_cons_succ]
    refine wpAnyS_one (j := 4) (by kernel_rfl) rfl (fun K hK => ?_)
    go_simp
    go_at_call 40; (with_reducible refine (most_any a.x0 b.x0 _ HN.out.1.x0 HN.out.2.x0).mono ?_)
    rintro e v0 ⟨rfl, kk⟩
    have kk := undrew kk
    have HT0 := HH.here kk
    have HC1 := HT0.all
    clear kk
    go_wp2_with fail
    refine hK.out _ _ ⟨fun _ _ => HC1, ?_⟩
    clear hK K
    try simp only [Act.put, List.setIfInBounds_toArray, List.set_cons_zero, List.set_cons_succ]
    refine wpAnyS_one (j := 9) (by kernel_rfl) rfl (fun K hK => ?_)
    go_simp
    go_at_call 41; (with_reducible refine (least_any a.x1 b.x1 _ HN.out.1.x1 HN.out.2.x1).mono ?_)
    rintro e v1 ⟨rfl, kk⟩
    have HT1 := HT0.here kk
    have HC2 := HT1.all
    clear kk
    go_wp2_with fail
    refine hK.out _ _ ⟨fun _ _ => HC2, ?_⟩
    clear hK K
    try simp only [Act.put, List.setIfInBounds_toArray, List.set_cons_zero, List.set_cons_succ]
    refine wpAnyS_one (j := 10) (by kernel_rfl) rfl (fun K hK => ?_)
    go_simp
    go_at_call 39; (with_reducible refine (upto_any _ _ _ HO.out.1.1 HO.out.1.2 false HL.out.1).mono ?_)
    rintro e v2 ⟨rfl, kk⟩
    have HT2 := HT1.here kk
    have HC3 := HT2.all
    clear kk
    go_wp2_with fail
    refine hK.out _ _ ⟨fun _ _ => HC3, ?_⟩
    clear hK K
    try simp only [Act.put, List.setIfInBounds_toArray, List.set_cons_zero, List.set_cons_succ]
    refine wpAnyS_takeW (i := 11) (v := ?v9) rfl (by kernel_rfl) (fun _ _ _ h => h) (Or.inl ⟨by rfl, ?y9⟩) (fun _ => HC3) ?r9
    case y9 => intro wq _; go_simp; try with_reducible rfl
    try simp only [Act.put, List.setIfInBounds_toArray, List.set_cons_zero, List.set_cons_succ]
    refine wpAnyS_takeW (i := 12) (v := undef) rfl (by kernel_rfl) (fun _ _ _ h => h) (Or.inr ⟨by rfl, rfl⟩) (fun _ => HC3) ?r10
    try simp only [Act.put, List.setIfInBounds_toArray, List.set_cons_zero, List.set_cons_succ]
    refine wpAnyS_takeW (i := 13) (v := undef) rfl (by kernel_rfl) (fun _ _ _ h => h) (Or.inr ⟨by rfl, rfl⟩) (fun _ => HC3) ?r11
    try simp only [Act.put, List.setIfInBounds_toArray, List.set_cons_zero, List.set_cons_succ]
    refine wpAnyS_takeW (i := 14) (v := undef) rfl (by kernel_rfl) (fun _ _ _ h => h) (Or.inr ⟨by rfl, rfl⟩) (fun _ => HC3) ?r12
    try simp only [Act.put, List.setIfInBounds_toArray, List.set_cons_zero, List.set_cons_succ]
    refine wpAnyS_takeW (i := 15) (v := undef) rfl (by kernel_rfl) (fun _ _ _ h => h) (Or.inr ⟨by rfl, rfl⟩) (fun _ => HC3) ?r13
    try simp only [Act.put, List.setIfInBounds_toArray, List.set_cons_zero, List.set_cons_succ]
    refine wpAnyS_takeW (i := 16) (v := undef) rfl (by kernel_rfl) (fun _ _ _ h => h) (Or.inr ⟨by rfl, rfl⟩) (fun _ => HC3) ?r14
    try simp only [Act.put, List.setIfInBounds_toArray, List.set_cons_zero, List.set_cons_succ]
    refine wpAnyS_takeW (i := 17) (v := undef) rfl (by kernel_rfl) (fun _ _ _ h => h) (Or.inr ⟨by rfl, rfl⟩) (fun _ => HC3) ?r15
    try simp only [Act.put, List.setIfInBounds_toArray, List.set_cons_zero, List.set_cons_succ]
    refine wpAnyS_takeW (i := 18) (v := undef) rfl (by kernel_rfl) (fun _ _ _ h => h) (Or.inr ⟨by rfl, rfl⟩) (fun _ => HC3) ?r16
    try simp only [Act.put, List.setIfInBounds_toArray, List.set_cons_zero, List.set_cons_succ]
    refine wpAnyS_takeW (i := 19) (v := undef) rfl (by kernel_rfl) (fun _ _ _ h => h) (Or.inr ⟨by rfl, rfl⟩) (fun _ => HC3) ?r17
    try simp only [Act.put, List.setIfInBounds_toArray, List.set_cons_zero, List.set_cons_succ]
    refine wpAnyS_takeW (i := 20) (v := undef) rfl (by kernel_rfl) (fun _ _ _ h => h) (Or.inr ⟨by rfl, rfl⟩) (fun _ => HC3) ?r18
    try simp only [Act.put, List.setIfInBounds_toArray, List.set_cons_zero, List.set_cons_succ]
    refine wpAnyS_takeW (i := 21) (v := undef) rfl (by kernel_rfl) (fun _ _ _ h => h) (Or.inr ⟨by rfl, rfl⟩) (fun _ => HC3) ?r19
    try simp only [Act.put, List.setIfInBounds_toArray, List.set_cons_zero, List.set_cons_succ]
    refine wpAnyS_takeW (i := 22) (v := undef) rfl (by kernel_rfl) (fun _ _ _ h => h) (Or.inr ⟨by rfl, rfl⟩) (fun _ => HC3) ?r20
    try simp only [Act.put, List.setIfInBounds_toArray, List.set_cons_zero, List.set_cons_succ]
    refine wpAnyS_takeW (i := 23) (v := ?v21) rfl (by kernel_rfl) (fun _ _ _ h => h) (Or.inl ⟨by rfl, ?y21⟩) (fun _ => HC3) ?r21
    case y21 => intro wq _; go_simp; try with_reducible rfl
    try simp only [Act.put, List.setIfInBounds_toArray, List.set_cons_zero, List.set_cons_succ]
    refine wpAnyS_takeW (i := 24) (v := ?v22) rfl (by kernel_rfl) (fun _ _ _ h => h) (Or.inl ⟨by rfl, ?y22⟩) (fun _ => HC3) ?r22
    case y22 => intro wq _; go_simp; try with_reducible rfl
    try simp only [Act.put, List.setIfInBounds_toArray, List.set_cons_zero, List.set_cons_succ]
    refine wpAnyS_one (j := 25) (by kernel_rfl) rfl (fun K hK => ?_)
    go_simp
    refine hK.out _ _ ⟨fun h => absurd rfl h, ?_⟩
    clear hK K
    try simp only [Act.put, List.setIfInBounds_toArray, List.set_cons_zero, List.set_cons_succ]
    refine wpAnyS_done (by kernel_rfl) ?_ _
    go_wp2_with fail
    go_ret2
    exact ⟨rfl, HT2.below⟩
  cases r2
  all_goals try simp only [Bool.true_and]
  all_goals
    go_region_held3 (fun v => v.cell? ⟨w.heap.size, 0, none⟩ = some (.int .i64 a.x0.m) ∧ v.cell? ⟨w.heap.size, 1, none⟩ = some (.int .i64 a.x0.s) ∧ v.cell? ⟨w.heap.size, 2, none⟩ = some (.int .i64 a.y0.m) ∧ v.cell? ⟨w.heap.size, 3, none⟩ = some (.int .i64 a.y0.s) ∧ v.cell? ⟨w.heap.size, 4, none⟩ = some (.int .i64 a.x1.m) ∧ v.cell? ⟨w.heap.size, 5, none⟩ = some (.int .i64 a.x1.s) ∧ v.cell? ⟨w.heap.size, 6, none⟩ = some (.int .i64 a.y1.m) ∧ v.cell? ⟨w.heap.size, 7, none⟩ = some (.int .i64 a.y1.s) ∧ v.cell? ⟨w.heap.size + 1, 0, none⟩ = some (.int .i64 b.x0.m) ∧ v.cell? ⟨w.heap.size + 1, 1, none⟩ = some (.int .i64 b.x0.s) ∧ v.cell? ⟨w.heap.size + 1, 2, none⟩ = some (.int .i64 b.y0.m) ∧ v.cell? ⟨w.heap.size + 1, 3, none⟩ = some (.int .i64 b.y0.s) ∧ v.cell? ⟨w.heap.size + 1, 4, none⟩ = some (.int .i64 b.x1.m) ∧ v.cell? ⟨w.heap.size + 1, 5, none⟩ = some (.int .i64 b.x1.s) ∧ v.cell? ⟨w.heap.size + 1, 6, none⟩ = some (.int .i64 b.y1.m) ∧ v.cell? ⟨w.heap.size + 1, 7, none⟩ = some (.int .i64 b.y1.s))
      (first | with_reducible exact TwoB.all HH | with_reducible exact TwoB.all (TwoB.drew HH))
      (first
        | (go_at_call 40; (with_reducible refine (most_any a.x0 b.x0 _ HN.out.1.x0 HN.out.2.x0).mono ?_); rintro e v ⟨rfl, kk⟩; (first | (with_reducible have HH := TwoB.here (TwoB.drew HH) kk) | (with_reducible have HH := TwoB.here HH kk)))
        | (go_at_call 41; (with_reducible refine (least_any a.x1 b.x1 _ HN.out.1.x1 HN.out.2.x1).mono ?_); rintro e v ⟨rfl, kk⟩; (first | (with_reducible have HH := TwoB.here (TwoB.drew HH) kk) | (with_reducible have HH := TwoB.here HH kk)))
        | (go_at_call 40; (with_reducible refine (most_any a.y0 b.y0 _ HN.out.1.y0 HN.out.2.y0).mono ?_); rintro e v ⟨rfl, kk⟩; (first | (with_reducible have HH := TwoB.here (TwoB.drew HH) kk) | (with_reducible have HH := TwoB.here HH kk)))
        | (go_at_call 41; (with_reducible refine (least_any a.y1 b.y1 _ HN.out.1.y1 HN.out.2.y1).mono ?_); rintro e v ⟨rfl, kk⟩; (first | (with_reducible have HH := TwoB.here (TwoB.drew HH) kk) | (with_reducible have HH := TwoB.here HH kk)))
        | (go_at_call 39; (with_reducible refine (upto_any _ _ _ HO.out.1.1 HO.out.1.2 _ HL.out.1).mono ?_); rintro e v ⟨rfl, kk⟩; (first | (with_reducible have HH := TwoB.here (TwoB.drew HH) kk) | (with_reducible have HH := TwoB.here HH kk)))
        | (go_at_call 39; (with_reducible refine (upto_any _ _ _ HO.out.2.1 HO.out.2.2 _ HL.out.2).mono ?_); rintro e v ⟨rfl, kk⟩; (first | (with_reducible have HH := TwoB.here (TwoB.drew HH) kk) | (with_reducible have HH := TwoB.here HH kk))))
    all_goals
      go_wp2_with fail
      go_ret2
      first | exact ⟨rfl, HH.below⟩ | exact ⟨rfl, HH.below.drew⟩
theorem refmeets_any (a b : BV) (w : World) (r : Bool) (E : Int) (h : MeetIs a b r E) :
    Calls Try.prog 19 #[a.val, b.val] w fun e w' => e = .returned (.tuple #[.bool r, .int .i64 E]) ∧ Below w.heap.size w w' := by
  rcases h with ⟨ha, hb, rfl, rfl⟩ | ⟨h, rfl, rfl⟩
  · exact refmeets_ok a b w ha hb
  · exact refmeets_bad a b w h
end Go.Proofs.Ytpdjooeogpidhaa
/- The reference's Both: the walk. -/
namespace Go.Proofs.Ytpdjooeogpidhaa
open Go.RowKit Dec

/-- Two boxes, and the variable of the result. -/
structure TwoR (w W : World) (a b : BV) : Prop where
  two : TwoB w W a b
  r : Whole W (w.heap.size + 1 + 1) 40 #[.int .i64 0, .int .i64 0, .int .i64 0, .int .i64 0, .int .i64 0, .int .i64 0, .int .i64 0, .int .i64 0]
theorem TwoR.here {w W W' : World} {a b : BV} (h : TwoR w W a b) (hb : Below W.heap.size W W') : TwoR w W' a b := ⟨h.two.here hb, h.r.here hb⟩
theorem TwoR.start (w : World) (a b : BV) : TwoR w (((w.alloc (.cells #[.int .i64 a.x0.m, .int .i64 a.x0.s, .int .i64 a.y0.m, .int .i64 a.y0.s, .int .i64 a.x1.m, .int .i64 a.x1.s, .int .i64 a.y1.m, .int .i64 a.y1.s] 40)).alloc (.cells #[.int .i64 b.x0.m, .int .i64 b.x0.s, .int .i64 b.y0.m, .int .i64 b.y0.s, .int .i64 b.x1.m, .int .i64 b.x1.s, .int .i64 b.y1.m, .int .i64 b.y1.s] 40)).alloc (.cells #[.int .i64 0, .int .i64 0, .int .i64 0, .int .i64 0, .int .i64 0, .int .i64 0, .int .i64 0, .int .i64 0] 40)) a b :=
  ⟨(TwoB.start w a b).here ((Below.refl _ _).alloc (Nat.le_refl _) _), by have := Whole.made ((w.alloc (.cells #[.int .i64 a.x0.m, .int .i64 a.x0.s, .int .i64 a.y0.m, .int .i64 a.y0.s, .int .i64 a.x1.m, .int .i64 a.x1.s, .int .i64 a.y1.m, .int .i64 a.y1.s] 40)).alloc (.cells #[.int .i64 b.x0.m, .int .i64 b.x0.s, .int .i64 b.y0.m, .int .i64 b.y0.s, .int .i64 b.x1.m, .int .i64 b.x1.s, .int .i64 b.y1.m, .int .i64 b.y1.s] 40)) 40 #[.int .i64 0, .int .i64 0, .int .i64 0, .int .i64 0, .int .i64 0, .int .i64 0, .int .i64 0, .int .i64 0]; simpa using this⟩
set_option maxRecDepth 100000 in
set_option maxHeartbeats 8000000 in
theorem refboth_bad (a b : BV) (w : World) (h : ¬ (a.Ok ∧ b.Ok)) :
    Calls Try.prog 21 #[a.val, b.val] w (IsB .zero 1 w) := by
  have H0 := Lib.hid (TwoR.start w a b)
  by_cases ha : a.Ok
  · have HA := Lib.hid (And.intro ha (show ¬ b.Ok from fun k => h ⟨ha, k⟩))
    clear h ha
    go_enter Try.func21, Try.ntmps21
    go_wp2_with fail
    refine (bright_any a _ true (decide_eq_true HA.out.1)).mono ?_
    rintro e w1 ⟨rfl, kk⟩
    have H1 := Lib.hid (H0.out.here kk)
    clear kk
    have q := H1.out.two.all
    obtain ⟨q0, q1, q2, q3, q4, q5, q6, q7, s0, s1, s2, s3, s4, s5, s6, s7⟩ := q
    have lt := H1.out.two.lt
    go_wp2_with fail
    refine (bright_any b _ false (decide_eq_false HA.out.2)).mono ?_
    rintro e w2 ⟨rfl, kk⟩
    have H2 := Lib.hid (H1.out.here kk)
    clear kk
    clear q0 q1 q2 q3 q4 q5 q6 q7 s0 s1 s2 s3 s4 s5 s6 s7 lt
    have rd := H2.out.r.reads
    have ft := H2.out.r.thawed
    have lR := H2.out.r.lt
    go_wp2_with fail
    refine bodyPost_ret (v := .tuple #[BV.zero.val, .int .i64 1]) (by simp [results, Try.results21, go_sem, rd, BV.zero, DV.zero]) rfl ⟨rfl, ?_⟩
    (repeat (first | with_reducible refine Below.drew ?_ | with_reducible refine bdrewN ?_ _ | (with_reducible refine Below.setCell ?_ ?_ _; rotate_left; focus (first | exact Nat.le_refl _ | omega | (simp; omega) | (simp; done))) | (with_reducible refine Below.alloc ?_ ?_ _; rotate_left; focus (first | exact Nat.le_refl _ | omega | (simp; omega) | (simp; done))))); with_reducible exact H2.out.two.below
  · have HA := Lib.hid ha
    clear h ha
    go_enter Try.func21, Try.ntmps21
    go_wp2_with fail
    refine (bright_any a _ false (decide_eq_false HA.out)).mono ?_
    rintro e w1 ⟨rfl, kk⟩
    have H1 := Lib.hid (H0.out.here kk)
    clear kk
    have rd := H1.out.r.reads
    have ft := H1.out.r.thawed
    have lR := H1.out.r.lt
    go_wp2_with fail
    refine bodyPost_ret (v := .tuple #[BV.zero.val, .int .i64 1]) (by simp [results, Try.results21, go_sem, rd, BV.zero, DV.zero]) rfl ⟨rfl, ?_⟩
    (repeat (first | with_reducible refine Below.drew ?_ | with_reducible refine bdrewN ?_ _ | (with_reducible refine Below.setCell ?_ ?_ _; rotate_left; focus (first | exact Nat.le_refl _ | omega | (simp; omega) | (simp; done))) | (with_reducible refine Below.alloc ?_ ?_ _; rotate_left; focus (first | exact Nat.le_refl _ | omega | (simp; omega) | (simp; done))))); with_reducible exact H1.out.two.below
set_option maxRecDepth 100000 in
set_option maxHeartbeats 8000000 in
theorem refboth_ok (a b : BV) (w : World) (ha : a.Ok) (hb : b.Ok) :
    Calls Try.prog 21 #[a.val, b.val] w (IsB (joinB a b) 0 w) := by
  have H0 := Lib.hid (TwoR.start w a b)
  have HA := Lib.hid (And.intro ha hb)
  clear ha hb
  go_enter Try.func21, Try.ntmps21
  go_wp2_with fail
  refine (bright_any a _ true (decide_eq_true HA.out.1)).mono ?_
  rintro e w1 ⟨rfl, kk⟩
  have H1 := Lib.hid (H0.out.here kk)
  clear kk
  have q := H1.out.two.all
  obtain ⟨q0, q1, q2, q3, q4, q5, q6, q7, s0, s1, s2, s3, s4, s5, s6, s7⟩ := q
  have lt := H1.out.two.lt
  go_wp2_with fail
  refine (bright_any b _ true (decide_eq_true HA.out.2)).mono ?_
  rintro e w2 ⟨rfl, kk⟩
  have H2 := Lib.hid (H1.out.here kk)
  clear kk H0 H1
  clear q0 q1 q2 q3 q4 q5 q6 q7 s0 s1 s2 s3 s4 s5 s6 s7 lt
  have q := H2.out.two.all
  obtain ⟨q0, q1, q2, q3, q4, q5, q6, q7, s0, s1, s2, s3, s4, s5, s6, s7⟩ := q
  have lt := H2.out.two.lt
  go_wp2_with fail
  refine (around_any a b _ HA.out.1.toNums HA.out.2.toNums).mono ?_
  rintro e w3 ⟨rfl, kk⟩
  have H3 := Lib.hid (H2.out.here kk)
  clear kk H2
  clear q0 q1 q2 q3 q4 q5 q6 q7 s0 s1 s2 s3 s4 s5 s6 s7 lt
  have rd := H3.out.r.reads
  have ft := H3.out.r.thawed
  have lR := H3.out.r.lt
  go_wp2_with fail
  refine bodyPost_ret (v := .tuple #[(joinB a b).val, .int .i64 0]) (by simp [results, Try.results21, go_sem, rd]) rfl ⟨rfl, ?_⟩
  (repeat (first | with_reducible refine Below.drew ?_ | with_reducible refine bdrewN ?_ _ | (with_reducible refine Below.setCell ?_ ?_ _; rotate_left; focus (first | exact Nat.le_refl _ | omega | (simp; omega) | (simp; done))) | (with_reducible refine Below.alloc ?_ ?_ _; rotate_left; focus (first | exact Nat.le_refl _ | omega | (simp; omega) | (simp; done))))); with_reducible exact H3.out.two.below
theorem refboth_any (a b r : BV) (E : Int) (w : World) (h : BothIs a b r E) :
    Calls Try.prog 21 #[a.val, b.val] w (IsB r E w) := by
  rcases h with ⟨ha, hb, rfl, rfl⟩ | ⟨h, rfl, rfl⟩
  · exact refboth_ok a b w ha hb
  · exact refboth_bad a b w h
end Go.Proofs.Ytpdjooeogpidhaa
