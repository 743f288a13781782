/- The walk of BoxApart. -/
import Derived.Test.YtgdfdlicfjjfjaaBoxAwake
namespace Go.Proofs.Ytgdfdlicfjjfjaa
open Go.RowKit Dec

set_option maxRecDepth 100000 in
set_option maxHeartbeats 4000000 in
theorem apart_bad1 (a b : BV) (w : World) (h : Hid (MeetIs a b false 1)) (h' : Hid (ChkIs a 1)) :
    Calls Try.prog 5 #[a.val, b.val] w fun e w' => e = .returned (.bool true) ∧ Below w.heap.size w w' := by
  go_enter Try.func5, Try.ntmps5
  have hA := (BIn.made w 25 a).old (.cells #[.int .i64 b.x0.m, .int .i64 b.x0.s, .int .i64 b.y0.m, .int .i64 b.y0.s, .int .i64 b.x1.m, .int .i64 b.x1.s, .int .i64 b.y1.m, .int .i64 b.y1.s] 25)
  have hB := BIn.made (w.alloc (.cells #[.int .i64 a.x0.m, .int .i64 a.x0.s, .int .i64 a.y0.m, .int .i64 a.y0.s, .int .i64 a.x1.m, .int .i64 a.x1.s, .int .i64 a.y1.m, .int .i64 a.y1.s] 25)) 25 b
  simp only [World.size_alloc] at hB
  have HB : Hid (Below w.heap.size w ((w.alloc (.cells #[.int .i64 a.x0.m, .int .i64 a.x0.s, .int .i64 a.y0.m, .int .i64 a.y0.s, .int .i64 a.x1.m, .int .i64 a.x1.s, .int .i64 a.y1.m, .int .i64 a.y1.s] 25)).alloc (.cells #[.int .i64 b.x0.m, .int .i64 b.x0.s, .int .i64 b.y0.m, .int .i64 b.y0.s, .int .i64 b.x1.m, .int .i64 b.x1.s, .int .i64 b.y1.m, .int .i64 b.y1.s] 25))) := by
    unfold Hid
    (repeat (first | with_reducible exact Below.refl _ _ | with_reducible refine Below.drew ?_ | with_reducible refine bdrewN ?_ _ | (with_reducible refine Below.setCell ?_ ?_ _; rotate_left; focus (first | exact Nat.le_refl _ | omega | (simp; omega) | (simp; done))) | (with_reducible refine Below.alloc ?_ ?_ _; rotate_left; focus (first | exact Nat.le_refl _ | omega | (simp; omega) | (simp; done))) | (with_reducible refine Below.trans ?_ (Below.mono (by assumption) ?_); rotate_left; focus (first | exact Nat.le_refl _ | omega | (simp; omega) | (simp; done)))))
  go_wp2_with fail
  refine (meets_any a b _ false 1 h.out).mono ?_
  rintro e w1 ⟨rfl, k⟩
  have HB := Lib.hid (HB.out.trans (k.mono HB.out.size))
  have hA := hA.later k
  have hB := hB.later k
  clear k
  have la1 := hA.lt
  have lb1 := hB.lt
  obtain ⟨p1_0, p1_1, p1_2, p1_3, p1_4, p1_5, p1_6, p1_7⟩ := id hA
  obtain ⟨q1_0, q1_1, q1_2, q1_3, q1_4, q1_5, q1_6, q1_7⟩ := id hB
  go_wp2_with fail
  refine (bawake_any _).mono ?_
  rintro e w2 ⟨rfl, k⟩
  have HB := Lib.hid (HB.out.trans (k.mono HB.out.size))
  have hA := hA.later k
  have hB := hB.later k
  clear k
  clear la1 lb1 p1_0 p1_1 p1_2 p1_3 p1_4 p1_5 p1_6 p1_7 q1_0 q1_1 q1_2 q1_3 q1_4 q1_5 q1_6 q1_7
  have la2 := hA.lt
  have lb2 := hB.lt
  obtain ⟨p2_0, p2_1, p2_2, p2_3, p2_4, p2_5, p2_6, p2_7⟩ := id hA
  obtain ⟨q2_0, q2_1, q2_2, q2_3, q2_4, q2_5, q2_6, q2_7⟩ := id hB
  go_wp2_with fail
  refine (bcheck_any a _ 1 h'.out).mono ?_
  rintro e w3 ⟨rfl, k⟩
  have HB := Lib.hid (HB.out.trans (k.mono HB.out.size))
  have hA := hA.later k
  have hB := hB.later k
  clear k
  clear la2 lb2 p2_0 p2_1 p2_2 p2_3 p2_4 p2_5 p2_6 p2_7 q2_0 q2_1 q2_2 q2_3 q2_4 q2_5 q2_6 q2_7
  have la3 := hA.lt
  have lb3 := hB.lt
  obtain ⟨p3_0, p3_1, p3_2, p3_3, p3_4, p3_5, p3_6, p3_7⟩ := id hA
  obtain ⟨q3_0, q3_1, q3_2, q3_3, q3_4, q3_5, q3_6, q3_7⟩ := id hB
  go_wp2
  go_ret
  refine ⟨by first | rfl | (simp; done) | (simp; omega), ?_⟩
  (repeat (first | with_reducible refine Below.drew ?_ | with_reducible refine bdrewN ?_ _ | (with_reducible refine Below.setCell ?_ ?_ _; rotate_left; focus (first | exact Nat.le_refl _ | omega | (simp; omega) | (simp; done))) | (with_reducible refine Below.alloc ?_ ?_ _; rotate_left; focus (first | exact Nat.le_refl _ | omega | (simp; omega) | (simp; done))))); with_reducible exact HB.out
set_option maxRecDepth 100000 in
set_option maxHeartbeats 4000000 in
theorem apart_bad2 (a b : BV) (w : World) (h : Hid (MeetIs a b false 1)) (h' : Hid (ChkIs a 0)) (h'' : Hid (ChkIs b 1)) :
    Calls Try.prog 5 #[a.val, b.val] w fun e w' => e = .returned (.bool true) ∧ Below w.heap.size w w' := by
  go_enter Try.func5, Try.ntmps5
  have hA := (BIn.made w 25 a).old (.cells #[.int .i64 b.x0.m, .int .i64 b.x0.s, .int .i64 b.y0.m, .int .i64 b.y0.s, .int .i64 b.x1.m, .int .i64 b.x1.s, .int .i64 b.y1.m, .int .i64 b.y1.s] 25)
  have hB := BIn.made (w.alloc (.cells #[.int .i64 a.x0.m, .int .i64 a.x0.s, .int .i64 a.y0.m, .int .i64 a.y0.s, .int .i64 a.x1.m, .int .i64 a.x1.s, .int .i64 a.y1.m, .int .i64 a.y1.s] 25)) 25 b
  simp only [World.size_alloc] at hB
  have HB : Hid (Below w.heap.size w ((w.alloc (.cells #[.int .i64 a.x0.m, .int .i64 a.x0.s, .int .i64 a.y0.m, .int .i64 a.y0.s, .int .i64 a.x1.m, .int .i64 a.x1.s, .int .i64 a.y1.m, .int .i64 a.y1.s] 25)).alloc (.cells #[.int .i64 b.x0.m, .int .i64 b.x0.s, .int .i64 b.y0.m, .int .i64 b.y0.s, .int .i64 b.x1.m, .int .i64 b.x1.s, .int .i64 b.y1.m, .int .i64 b.y1.s] 25))) := by
    unfold Hid
    (repeat (first | with_reducible exact Below.refl _ _ | with_reducible refine Below.drew ?_ | with_reducible refine bdrewN ?_ _ | (with_reducible refine Below.setCell ?_ ?_ _; rotate_left; focus (first | exact Nat.le_refl _ | omega | (simp; omega) | (simp; done))) | (with_reducible refine Below.alloc ?_ ?_ _; rotate_left; focus (first | exact Nat.le_refl _ | omega | (simp; omega) | (simp; done))) | (with_reducible refine Below.trans ?_ (Below.mono (by assumption) ?_); rotate_left; focus (first | exact Nat.le_refl _ | omega | (simp; omega) | (simp; done)))))
  go_wp2_with fail
  refine (meets_any a b _ false 1 h.out).mono ?_
  rintro e w1 ⟨rfl, k⟩
  have HB := Lib.hid (HB.out.trans (k.mono HB.out.size))
  have hA := hA.later k
  have hB := hB.later k
  clear k
  have la1 := hA.lt
  have lb1 := hB.lt
  obtain ⟨p1_0, p1_1, p1_2, p1_3, p1_4, p1_5, p1_6, p1_7⟩ := id hA
  obtain ⟨q1_0, q1_1, q1_2, q1_3, q1_4, q1_5, q1_6, q1_7⟩ := id hB
  go_wp2_with fail
  refine (bawake_any _).mono ?_
  rintro e w2 ⟨rfl, k⟩
  have HB := Lib.hid (HB.out.trans (k.mono HB.out.size))
  have hA := hA.later k
  have hB := hB.later k
  clear k
  clear la1 lb1 p1_0 p1_1 p1_2 p1_3 p1_4 p1_5 p1_6 p1_7 q1_0 q1_1 q1_2 q1_3 q1_4 q1_5 q1_6 q1_7
  have la2 := hA.lt
  have lb2 := hB.lt
  obtain ⟨p2_0, p2_1, p2_2, p2_3, p2_4, p2_5, p2_6, p2_7⟩ := id hA
  obtain ⟨q2_0, q2_1, q2_2, q2_3, q2_4, q2_5, q2_6, q2_7⟩ := id hB
  go_wp2_with fail
  refine (bcheck_any a _ 0 h'.out).mono ?_
  rintro e w3 ⟨rfl, k⟩
  have HB := Lib.hid (HB.out.trans (k.mono HB.out.size))
  have hA := hA.later k
  have hB := hB.later k
  clear k
  clear la2 lb2 p2_0 p2_1 p2_2 p2_3 p2_4 p2_5 p2_6 p2_7 q2_0 q2_1 q2_2 q2_3 q2_4 q2_5 q2_6 q2_7
  have la3 := hA.lt
  have lb3 := hB.lt
  obtain ⟨p3_0, p3_1, p3_2, p3_3, p3_4, p3_5, p3_6, p3_7⟩ := id hA
  obtain ⟨q3_0, q3_1, q3_2, q3_3, q3_4, q3_5, q3_6, q3_7⟩ := id hB
  go_wp2_with fail
  refine (bcheck_any b _ 1 h''.out).mono ?_
  rintro e w4 ⟨rfl, k⟩
  have HB := Lib.hid (HB.out.trans (k.mono HB.out.size))
  have hA := hA.later k
  have hB := hB.later k
  clear k
  clear la3 lb3 p3_0 p3_1 p3_2 p3_3 p3_4 p3_5 p3_6 p3_7 q3_0 q3_1 q3_2 q3_3 q3_4 q3_5 q3_6 q3_7
  have la4 := hA.lt
  have lb4 := hB.lt
  obtain ⟨p4_0, p4_1, p4_2, p4_3, p4_4, p4_5, p4_6, p4_7⟩ := id hA
  obtain ⟨q4_0, q4_1, q4_2, q4_3, q4_4, q4_5, q4_6, q4_7⟩ := id hB
  go_wp2
  go_ret
  refine ⟨by first | rfl | (simp; done) | (simp; omega), ?_⟩
  (repeat (first | with_reducible refine Below.drew ?_ | with_reducible refine bdrewN ?_ _ | (with_reducible refine Below.setCell ?_ ?_ _; rotate_left; focus (first | exact Nat.le_refl _ | omega | (simp; omega) | (simp; done))) | (with_reducible refine Below.alloc ?_ ?_ _; rotate_left; focus (first | exact Nat.le_refl _ | omega | (simp; omega) | (simp; done))))); with_reducible exact HB.out
set_option maxRecDepth 100000 in
set_option maxHeartbeats 4000000 in
theorem apart_0 (a b : BV) (w : World) (c1 c2 c3 c4 : Int) (h : Hid (MeetIs a b false 0)) (H1 : Hid (CmpIs a.x1 b.x0 c1 0)) (H2 : Hid (CmpIs b.x1 a.x0 c2 0)) (H3 : Hid (CmpIs a.y1 b.y0 c3 0)) (H4 : Hid (CmpIs b.y1 a.y0 c4 0)) (s1 : c1 < 0) :
    Calls Try.prog 5 #[a.val, b.val] w fun e w' => e = .returned (.bool true) ∧ Below w.heap.size w w' := by
  go_enter Try.func5, Try.ntmps5
  have hA := (BIn.made w 25 a).old (.cells #[.int .i64 b.x0.m, .int .i64 b.x0.s, .int .i64 b.y0.m, .int .i64 b.y0.s, .int .i64 b.x1.m, .int .i64 b.x1.s, .int .i64 b.y1.m, .int .i64 b.y1.s] 25)
  have hB := BIn.made (w.alloc (.cells #[.int .i64 a.x0.m, .int .i64 a.x0.s, .int .i64 a.y0.m, .int .i64 a.y0.s, .int .i64 a.x1.m, .int .i64 a.x1.s, .int .i64 a.y1.m, .int .i64 a.y1.s] 25)) 25 b
  simp only [World.size_alloc] at hB
  have HB : Hid (Below w.heap.size w ((w.alloc (.cells #[.int .i64 a.x0.m, .int .i64 a.x0.s, .int .i64 a.y0.m, .int .i64 a.y0.s, .int .i64 a.x1.m, .int .i64 a.x1.s, .int .i64 a.y1.m, .int .i64 a.y1.s] 25)).alloc (.cells #[.int .i64 b.x0.m, .int .i64 b.x0.s, .int .i64 b.y0.m, .int .i64 b.y0.s, .int .i64 b.x1.m, .int .i64 b.x1.s, .int .i64 b.y1.m, .int .i64 b.y1.s] 25))) := by
    unfold Hid
    (repeat (first | with_reducible exact Below.refl _ _ | with_reducible refine Below.drew ?_ | with_reducible refine bdrewN ?_ _ | (with_reducible refine Below.setCell ?_ ?_ _; rotate_left; focus (first | exact Nat.le_refl _ | omega | (simp; omega) | (simp; done))) | (with_reducible refine Below.alloc ?_ ?_ _; rotate_left; focus (first | exact Nat.le_refl _ | omega | (simp; omega) | (simp; done))) | (with_reducible refine Below.trans ?_ (Below.mono (by assumption) ?_); rotate_left; focus (first | exact Nat.le_refl _ | omega | (simp; omega) | (simp; done)))))
  go_wp2_with fail
  refine (meets_any a b _ false 0 h.out).mono ?_
  rintro e w1 ⟨rfl, k⟩
  have HB := Lib.hid (HB.out.trans (k.mono HB.out.size))
  have hA := hA.later k
  have hB := hB.later k
  clear k
  have la1 := hA.lt
  have lb1 := hB.lt
  obtain ⟨p1_0, p1_1, p1_2, p1_3, p1_4, p1_5, p1_6, p1_7⟩ := id hA
  obtain ⟨q1_0, q1_1, q1_2, q1_3, q1_4, q1_5, q1_6, q1_7⟩ := id hB
  go_wp2_with fail
  refine (compare_any a.x1 b.x0 _ c1 0 H1.out).mono ?_
  rintro e w2 ⟨rfl, k⟩
  have HB := Lib.hid (HB.out.trans (k.mono HB.out.size))
  have hA := hA.later k
  have hB := hB.later k
  clear k
  clear la1 lb1 p1_0 p1_1 p1_2 p1_3 p1_4 p1_5 p1_6 p1_7 q1_0 q1_1 q1_2 q1_3 q1_4 q1_5 q1_6 q1_7
  have la2 := hA.lt
  have lb2 := hB.lt
  obtain ⟨p2_0, p2_1, p2_2, p2_3, p2_4, p2_5, p2_6, p2_7⟩ := id hA
  obtain ⟨q2_0, q2_1, q2_2, q2_3, q2_4, q2_5, q2_6, q2_7⟩ := id hB
  go_wp2_with fail
  refine (compare_any b.x1 a.x0 _ c2 0 H2.out).mono ?_
  rintro e w3 ⟨rfl, k⟩
  have HB := Lib.hid (HB.out.trans (k.mono HB.out.size))
  have hA := hA.later k
  have hB := hB.later k
  clear k
  clear la2 lb2 p2_0 p2_1 p2_2 p2_3 p2_4 p2_5 p2_6 p2_7 q2_0 q2_1 q2_2 q2_3 q2_4 q2_5 q2_6 q2_7
  have la3 := hA.lt
  have lb3 := hB.lt
  obtain ⟨p3_0, p3_1, p3_2, p3_3, p3_4, p3_5, p3_6, p3_7⟩ := id hA
  obtain ⟨q3_0, q3_1, q3_2, q3_3, q3_4, q3_5, q3_6, q3_7⟩ := id hB
  go_wp2_with fail
  refine (compare_any a.y1 b.y0 _ c3 0 H3.out).mono ?_
  rintro e w4 ⟨rfl, k⟩
  have HB := Lib.hid (HB.out.trans (k.mono HB.out.size))
  have hA := hA.later k
  have hB := hB.later k
  clear k
  clear la3 lb3 p3_0 p3_1 p3_2 p3_3 p3_4 p3_5 p3_6 p3_7 q3_0 q3_1 q3_2 q3_3 q3_4 q3_5 q3_6 q3_7
  have la4 := hA.lt
  have lb4 := hB.lt
  obtain ⟨p4_0, p4_1, p4_2, p4_3, p4_4, p4_5, p4_6, p4_7⟩ := id hA
  obtain ⟨q4_0, q4_1, q4_2, q4_3, q4_4, q4_5, q4_6, q4_7⟩ := id hB
  go_wp2_with fail
  refine (compare_any b.y1 a.y0 _ c4 0 H4.out).mono ?_
  rintro e w5 ⟨rfl, k⟩
  have HB := Lib.hid (HB.out.trans (k.mono HB.out.size))
  have hA := hA.later k
  have hB := hB.later k
  clear k
  clear la4 lb4 p4_0 p4_1 p4_2 p4_3 p4_4 p4_5 p4_6 p4_7 q4_0 q4_1 q4_2 q4_3 q4_4 q4_5 q4_6 q4_7
  have la5 := hA.lt
  have lb5 := hB.lt
  obtain ⟨p5_0, p5_1, p5_2, p5_3, p5_4, p5_5, p5_6, p5_7⟩ := id hA
  obtain ⟨q5_0, q5_1, q5_2, q5_3, q5_4, q5_5, q5_6, q5_7⟩ := id hB
  go_wp2_with fail
  refine (bawake_any _).mono ?_
  rintro e w6 ⟨rfl, k⟩
  have HB := Lib.hid (HB.out.trans (k.mono HB.out.size))
  have hA := hA.later k
  have hB := hB.later k
  clear k
  clear la5 lb5 p5_0 p5_1 p5_2 p5_3 p5_4 p5_5 p5_6 p5_7 q5_0 q5_1 q5_2 q5_3 q5_4 q5_5 q5_6 q5_7
  have la6 := hA.lt
  have lb6 := hB.lt
  obtain ⟨p6_0, p6_1, p6_2, p6_3, p6_4, p6_5, p6_6, p6_7⟩ := id hA
  obtain ⟨q6_0, q6_1, q6_2, q6_3, q6_4, q6_5, q6_6, q6_7⟩ := id hB
  have n1 : ¬ 0 ≤ c1 := by omega
  go_wp2
  go_ret
  refine ⟨by first | rfl | (simp; done) | (simp; omega), ?_⟩
  (repeat (first | with_reducible refine Below.drew ?_ | with_reducible refine bdrewN ?_ _ | (with_reducible refine Below.setCell ?_ ?_ _; rotate_left; focus (first | exact Nat.le_refl _ | omega | (simp; omega) | (simp; done))) | (with_reducible refine Below.alloc ?_ ?_ _; rotate_left; focus (first | exact Nat.le_refl _ | omega | (simp; omega) | (simp; done))))); with_reducible exact HB.out
set_option maxRecDepth 100000 in
set_option maxHeartbeats 4000000 in
theorem apart_1 (a b : BV) (w : World) (c1 c2 c3 c4 : Int) (h : Hid (MeetIs a b false 0)) (H1 : Hid (CmpIs a.x1 b.x0 c1 0)) (H2 : Hid (CmpIs b.x1 a.x0 c2 0)) (H3 : Hid (CmpIs a.y1 b.y0 c3 0)) (H4 : Hid (CmpIs b.y1 a.y0 c4 0)) (s1 : 0 ≤ c1) (s2 : c2 < 0) :
    Calls Try.prog 5 #[a.val, b.val] w fun e w' => e = .returned (.bool true) ∧ Below w.heap.size w w' := by
  go_enter Try.func5, Try.ntmps5
  have hA := (BIn.made w 25 a).old (.cells #[.int .i64 b.x0.m, .int .i64 b.x0.s, .int .i64 b.y0.m, .int .i64 b.y0.s, .int .i64 b.x1.m, .int .i64 b.x1.s, .int .i64 b.y1.m, .int .i64 b.y1.s] 25)
  have hB := BIn.made (w.alloc (.cells #[.int .i64 a.x0.m, .int .i64 a.x0.s, .int .i64 a.y0.m, .int .i64 a.y0.s, .int .i64 a.x1.m, .int .i64 a.x1.s, .int .i64 a.y1.m, .int .i64 a.y1.s] 25)) 25 b
  simp only [World.size_alloc] at hB
  have HB : Hid (Below w.heap.size w ((w.alloc (.cells #[.int .i64 a.x0.m, .int .i64 a.x0.s, .int .i64 a.y0.m, .int .i64 a.y0.s, .int .i64 a.x1.m, .int .i64 a.x1.s, .int .i64 a.y1.m, .int .i64 a.y1.s] 25)).alloc (.cells #[.int .i64 b.x0.m, .int .i64 b.x0.s, .int .i64 b.y0.m, .int .i64 b.y0.s, .int .i64 b.x1.m, .int .i64 b.x1.s, .int .i64 b.y1.m, .int .i64 b.y1.s] 25))) := by
    unfold Hid
    (repeat (first | with_reducible exact Below.refl _ _ | with_reducible refine Below.drew ?_ | with_reducible refine bdrewN ?_ _ | (with_reducible refine Below.setCell ?_ ?_ _; rotate_left; focus (first | exact Nat.le_refl _ | omega | (simp; omega) | (simp; done))) | (with_reducible refine Below.alloc ?_ ?_ _; rotate_left; focus (first | exact Nat.le_refl _ | omega | (simp; omega) | (simp; done))) | (with_reducible refine Below.trans ?_ (Below.mono (by assumption) ?_); rotate_left; focus (first | exact Nat.le_refl _ | omega | (simp; omega) | (simp; done)))))
  go_wp2_with fail
  refine (meets_any a b _ false 0 h.out).mono ?_
  rintro e w1 ⟨rfl, k⟩
  have HB := Lib.hid (HB.out.trans (k.mono HB.out.size))
  have hA := hA.later k
  have hB := hB.later k
  clear k
  have la1 := hA.lt
  have lb1 := hB.lt
  obtain ⟨p1_0, p1_1, p1_2, p1_3, p1_4, p1_5, p1_6, p1_7⟩ := id hA
  obtain ⟨q1_0, q1_1, q1_2, q1_3, q1_4, q1_5, q1_6, q1_7⟩ := id hB
  go_wp2_with fail
  refine (compare_any a.x1 b.x0 _ c1 0 H1.out).mono ?_
  rintro e w2 ⟨rfl, k⟩
  have HB := Lib.hid (HB.out.trans (k.mono HB.out.size))
  have hA := hA.later k
  have hB := hB.later k
  clear k
  clear la1 lb1 p1_0 p1_1 p1_2 p1_3 p1_4 p1_5 p1_6 p1_7 q1_0 q1_1 q1_2 q1_3 q1_4 q1_5 q1_6 q1_7
  have la2 := hA.lt
  have lb2 := hB.lt
  obtain ⟨p2_0, p2_1, p2_2, p2_3, p2_4, p2_5, p2_6, p2_7⟩ := id hA
  obtain ⟨q2_0, q2_1, q2_2, q2_3, q2_4, q2_5, q2_6, q2_7⟩ := id hB
  go_wp2_with fail
  refine (compare_any b.x1 a.x0 _ c2 0 H2.out).mono ?_
  rintro e w3 ⟨rfl, k⟩
  have HB := Lib.hid (HB.out.trans (k.mono HB.out.size))
  have hA := hA.later k
  have hB := hB.later k
  clear k
  clear la2 lb2 p2_0 p2_1 p2_2 p2_3 p2_4 p2_5 p2_6 p2_7 q2_0 q2_1 q2_2 q2_3 q2_4 q2_5 q2_6 q2_7
  have la3 := hA.lt
  have lb3 := hB.lt
  obtain ⟨p3_0, p3_1, p3_2, p3_3, p3_4, p3_5, p3_6, p3_7⟩ := id hA
  obtain ⟨q3_0, q3_1, q3_2, q3_3, q3_4, q3_5, q3_6, q3_7⟩ := id hB
  go_wp2_with fail
  refine (compare_any a.y1 b.y0 _ c3 0 H3.out).mono ?_
  rintro e w4 ⟨rfl, k⟩
  have HB := Lib.hid (HB.out.trans (k.mono HB.out.size))
  have hA := hA.later k
  have hB := hB.later k
  clear k
  clear la3 lb3 p3_0 p3_1 p3_2 p3_3 p3_4 p3_5 p3_6 p3_7 q3_0 q3_1 q3_2 q3_3 q3_4 q3_5 q3_6 q3_7
  have la4 := hA.lt
  have lb4 := hB.lt
  obtain ⟨p4_0, p4_1, p4_2, p4_3, p4_4, p4_5, p4_6, p4_7⟩ := id hA
  obtain ⟨q4_0, q4_1, q4_2, q4_3, q4_4, q4_5, q4_6, q4_7⟩ := id hB
  go_wp2_with fail
  refine (compare_any b.y1 a.y0 _ c4 0 H4.out).mono ?_
  rintro e w5 ⟨rfl, k⟩
  have HB := Lib.hid (HB.out.trans (k.mono HB.out.size))
  have hA := hA.later k
  have hB := hB.later k
  clear k
  clear la4 lb4 p4_0 p4_1 p4_2 p4_3 p4_4 p4_5 p4_6 p4_7 q4_0 q4_1 q4_2 q4_3 q4_4 q4_5 q4_6 q4_7
  have la5 := hA.lt
  have lb5 := hB.lt
  obtain ⟨p5_0, p5_1, p5_2, p5_3, p5_4, p5_5, p5_6, p5_7⟩ := id hA
  obtain ⟨q5_0, q5_1, q5_2, q5_3, q5_4, q5_5, q5_6, q5_7⟩ := id hB
  go_wp2_with fail
  refine (bawake_any _).mono ?_
  rintro e w6 ⟨rfl, k⟩
  have HB := Lib.hid (HB.out.trans (k.mono HB.out.size))
  have hA := hA.later k
  have hB := hB.later k
  clear k
  clear la5 lb5 p5_0 p5_1 p5_2 p5_3 p5_4 p5_5 p5_6 p5_7 q5_0 q5_1 q5_2 q5_3 q5_4 q5_5 q5_6 q5_7
  have la6 := hA.lt
  have lb6 := hB.lt
  obtain ⟨p6_0, p6_1, p6_2, p6_3, p6_4, p6_5, p6_6, p6_7⟩ := id hA
  obtain ⟨q6_0, q6_1, q6_2, q6_3, q6_4, q6_5, q6_6, q6_7⟩ := id hB
  have n2 : ¬ 0 ≤ c2 := by omega
  go_wp2
  go_ret
  refine ⟨by first | rfl | (simp; done) | (simp; omega), ?_⟩
  (repeat (first | with_reducible refine Below.drew ?_ | with_reducible refine bdrewN ?_ _ | (with_reducible refine Below.setCell ?_ ?_ _; rotate_left; focus (first | exact Nat.le_refl _ | omega | (simp; omega) | (simp; done))) | (with_reducible refine Below.alloc ?_ ?_ _; rotate_left; focus (first | exact Nat.le_refl _ | omega | (simp; omega) | (simp; done))))); with_reducible exact HB.out
set_option maxRecDepth 100000 in
set_option maxHeartbeats 4000000 in
theorem apart_2 (a b : BV) (w : World) (c1 c2 c3 c4 : Int) (h : Hid (MeetIs a b false 0)) (H1 : Hid (CmpIs a.x1 b.x0 c1 0)) (H2 : Hid (CmpIs b.x1 a.x0 c2 0)) (H3 : Hid (CmpIs a.y1 b.y0 c3 0)) (H4 : Hid (CmpIs b.y1 a.y0 c4 0)) (s1 : 0 ≤ c1) (s2 : 0 ≤ c2) (s3 : c3 < 0) :
    Calls Try.prog 5 #[a.val, b.val] w fun e w' => e = .returned (.bool true) ∧ Below w.heap.size w w' := by
  go_enter Try.func5, Try.ntmps5
  have hA := (BIn.made w 25 a).old (.cells #[.int .i64 b.x0.m, .int .i64 b.x0.s, .int .i64 b.y0.m, .int .i64 b.y0.s, .int .i64 b.x1.m, .int .i64 b.x1.s, .int .i64 b.y1.m, .int .i64 b.y1.s] 25)
  have hB := BIn.made (w.alloc (.cells #[.int .i64 a.x0.m, .int .i64 a.x0.s, .int .i64 a.y0.m, .int .i64 a.y0.s, .int .i64 a.x1.m, .int .i64 a.x1.s, .int .i64 a.y1.m, .int .i64 a.y1.s] 25)) 25 b
  simp only [World.size_alloc] at hB
  have HB : Hid (Below w.heap.size w ((w.alloc (.cells #[.int .i64 a.x0.m, .int .i64 a.x0.s, .int .i64 a.y0.m, .int .i64 a.y0.s, .int .i64 a.x1.m, .int .i64 a.x1.s, .int .i64 a.y1.m, .int .i64 a.y1.s] 25)).alloc (.cells #[.int .i64 b.x0.m, .int .i64 b.x0.s, .int .i64 b.y0.m, .int .i64 b.y0.s, .int .i64 b.x1.m, .int .i64 b.x1.s, .int .i64 b.y1.m, .int .i64 b.y1.s] 25))) := by
    unfold Hid
    (repeat (first | with_reducible exact Below.refl _ _ | with_reducible refine Below.drew ?_ | with_reducible refine bdrewN ?_ _ | (with_reducible refine Below.setCell ?_ ?_ _; rotate_left; focus (first | exact Nat.le_refl _ | omega | (simp; omega) | (simp; done))) | (with_reducible refine Below.alloc ?_ ?_ _; rotate_left; focus (first | exact Nat.le_refl _ | omega | (simp; omega) | (simp; done))) | (with_reducible refine Below.trans ?_ (Below.mono (by assumption) ?_); rotate_left; focus (first | exact Nat.le_refl _ | omega | (simp; omega) | (simp; done)))))
  go_wp2_with fail
  refine (meets_any a b _ false 0 h.out).mono ?_
  rintro e w1 ⟨rfl, k⟩
  have HB := Lib.hid (HB.out.trans (k.mono HB.out.size))
  have hA := hA.later k
  have hB := hB.later k
  clear k
  have la1 := hA.lt
  have lb1 := hB.lt
  obtain ⟨p1_0, p1_1, p1_2, p1_3, p1_4, p1_5, p1_6, p1_7⟩ := id hA
  obtain ⟨q1_0, q1_1, q1_2, q1_3, q1_4, q1_5, q1_6, q1_7⟩ := id hB
  go_wp2_with fail
  refine (compare_any a.x1 b.x0 _ c1 0 H1.out).mono ?_
  rintro e w2 ⟨rfl, k⟩
  have HB := Lib.hid (HB.out.trans (k.mono HB.out.size))
  have hA := hA.later k
  have hB := hB.later k
  clear k
  clear la1 lb1 p1_0 p1_1 p1_2 p1_3 p1_4 p1_5 p1_6 p1_7 q1_0 q1_1 q1_2 q1_3 q1_4 q1_5 q1_6 q1_7
  have la2 := hA.lt
  have lb2 := hB.lt
  obtain ⟨p2_0, p2_1, p2_2, p2_3, p2_4, p2_5, p2_6, p2_7⟩ := id hA
  obtain ⟨q2_0, q2_1, q2_2, q2_3, q2_4, q2_5, q2_6, q2_7⟩ := id hB
  go_wp2_with fail
  refine (compare_any b.x1 a.x0 _ c2 0 H2.out).mono ?_
  rintro e w3 ⟨rfl, k⟩
  have HB := Lib.hid (HB.out.trans (k.mono HB.out.size))
  have hA := hA.later k
  have hB := hB.later k
  clear k
  clear la2 lb2 p2_0 p2_1 p2_2 p2_3 p2_4 p2_5 p2_6 p2_7 q2_0 q2_1 q2_2 q2_3 q2_4 q2_5 q2_6 q2_7
  have la3 := hA.lt
  have lb3 := hB.lt
  obtain ⟨p3_0, p3_1, p3_2, p3_3, p3_4, p3_5, p3_6, p3_7⟩ := id hA
  obtain ⟨q3_0, q3_1, q3_2, q3_3, q3_4, q3_5, q3_6, q3_7⟩ := id hB
  go_wp2_with fail
  refine (compare_any a.y1 b.y0 _ c3 0 H3.out).mono ?_
  rintro e w4 ⟨rfl, k⟩
  have HB := Lib.hid (HB.out.trans (k.mono HB.out.size))
  have hA := hA.later k
  have hB := hB.later k
  clear k
  clear la3 lb3 p3_0 p3_1 p3_2 p3_3 p3_4 p3_5 p3_6 p3_7 q3_0 q3_1 q3_2 q3_3 q3_4 q3_5 q3_6 q3_7
  have la4 := hA.lt
  have lb4 := hB.lt
  obtain ⟨p4_0, p4_1, p4_2, p4_3, p4_4, p4_5, p4_6, p4_7⟩ := id hA
  obtain ⟨q4_0, q4_1, q4_2, q4_3, q4_4, q4_5, q4_6, q4_7⟩ := id hB
  go_wp2_with fail
  refine (compare_any b.y1 a.y0 _ c4 0 H4.out).mono ?_
  rintro e w5 ⟨rfl, k⟩
  have HB := Lib.hid (HB.out.trans (k.mono HB.out.size))
  have hA := hA.later k
  have hB := hB.later k
  clear k
  clear la4 lb4 p4_0 p4_1 p4_2 p4_3 p4_4 p4_5 p4_6 p4_7 q4_0 q4_1 q4_2 q4_3 q4_4 q4_5 q4_6 q4_7
  have la5 := hA.lt
  have lb5 := hB.lt
  obtain ⟨p5_0, p5_1, p5_2, p5_3, p5_4, p5_5, p5_6, p5_7⟩ := id hA
  obtain ⟨q5_0, q5_1, q5_2, q5_3, q5_4, q5_5, q5_6, q5_7⟩ := id hB
  go_wp2_with fail
  refine (bawake_any _).mono ?_
  rintro e w6 ⟨rfl, k⟩
  have HB := Lib.hid (HB.out.trans (k.mono HB.out.size))
  have hA := hA.later k
  have hB := hB.later k
  clear k
  clear la5 lb5 p5_0 p5_1 p5_2 p5_3 p5_4 p5_5 p5_6 p5_7 q5_0 q5_1 q5_2 q5_3 q5_4 q5_5 q5_6 q5_7
  have la6 := hA.lt
  have lb6 := hB.lt
  obtain ⟨p6_0, p6_1, p6_2, p6_3, p6_4, p6_5, p6_6, p6_7⟩ := id hA
  obtain ⟨q6_0, q6_1, q6_2, q6_3, q6_4, q6_5, q6_6, q6_7⟩ := id hB
  have n3 : ¬ 0 ≤ c3 := by omega
  go_wp2
  go_ret
  refine ⟨by first | rfl | (simp; done) | (simp; omega), ?_⟩
  (repeat (first | with_reducible refine Below.drew ?_ | with_reducible refine bdrewN ?_ _ | (with_reducible refine Below.setCell ?_ ?_ _; rotate_left; focus (first | exact Nat.le_refl _ | omega | (simp; omega) | (simp; done))) | (with_reducible refine Below.alloc ?_ ?_ _; rotate_left; focus (first | exact Nat.le_refl _ | omega | (simp; omega) | (simp; done))))); with_reducible exact HB.out
set_option maxRecDepth 100000 in
set_option maxHeartbeats 4000000 in
theorem apart_3 (a b : BV) (w : World) (c1 c2 c3 c4 : Int) (h : Hid (MeetIs a b false 0)) (H1 : Hid (CmpIs a.x1 b.x0 c1 0)) (H2 : Hid (CmpIs b.x1 a.x0 c2 0)) (H3 : Hid (CmpIs a.y1 b.y0 c3 0)) (H4 : Hid (CmpIs b.y1 a.y0 c4 0)) (s1 : 0 ≤ c1) (s2 : 0 ≤ c2) (s3 : 0 ≤ c3) (s4 : c4 < 0) :
    Calls Try.prog 5 #[a.val, b.val] w fun e w' => e = .returned (.bool true) ∧ Below w.heap.size w w' := by
  go_enter Try.func5, Try.ntmps5
  have hA := (BIn.made w 25 a).old (.cells #[.int .i64 b.x0.m, .int .i64 b.x0.s, .int .i64 b.y0.m, .int .i64 b.y0.s, .int .i64 b.x1.m, .int .i64 b.x1.s, .int .i64 b.y1.m, .int .i64 b.y1.s] 25)
  have hB := BIn.made (w.alloc (.cells #[.int .i64 a.x0.m, .int .i64 a.x0.s, .int .i64 a.y0.m, .int .i64 a.y0.s, .int .i64 a.x1.m, .int .i64 a.x1.s, .int .i64 a.y1.m, .int .i64 a.y1.s] 25)) 25 b
  simp only [World.size_alloc] at hB
  have HB : Hid (Below w.heap.size w ((w.alloc (.cells #[.int .i64 a.x0.m, .int .i64 a.x0.s, .int .i64 a.y0.m, .int .i64 a.y0.s, .int .i64 a.x1.m, .int .i64 a.x1.s, .int .i64 a.y1.m, .int .i64 a.y1.s] 25)).alloc (.cells #[.int .i64 b.x0.m, .int .i64 b.x0.s, .int .i64 b.y0.m, .int .i64 b.y0.s, .int .i64 b.x1.m, .int .i64 b.x1.s, .int .i64 b.y1.m, .int .i64 b.y1.s] 25))) := by
    unfold Hid
    (repeat (first | with_reducible exact Below.refl _ _ | with_reducible refine Below.drew ?_ | with_reducible refine bdrewN ?_ _ | (with_reducible refine Below.setCell ?_ ?_ _; rotate_left; focus (first | exact Nat.le_refl _ | omega | (simp; omega) | (simp; done))) | (with_reducible refine Below.alloc ?_ ?_ _; rotate_left; focus (first | exact Nat.le_refl _ | omega | (simp; omega) | (simp; done))) | (with_reducible refine Below.trans ?_ (Below.mono (by assumption) ?_); rotate_left; focus (first | exact Nat.le_refl _ | omega | (simp; omega) | (simp; done)))))
  go_wp2_with fail
  refine (meets_any a b _ false 0 h.out).mono ?_
  rintro e w1 ⟨rfl, k⟩
  have HB := Lib.hid (HB.out.trans (k.mono HB.out.size))
  have hA := hA.later k
  have hB := hB.later k
  clear k
  have la1 := hA.lt
  have lb1 := hB.lt
  obtain ⟨p1_0, p1_1, p1_2, p1_3, p1_4, p1_5, p1_6, p1_7⟩ := id hA
  obtain ⟨q1_0, q1_1, q1_2, q1_3, q1_4, q1_5, q1_6, q1_7⟩ := id hB
  go_wp2_with fail
  refine (compare_any a.x1 b.x0 _ c1 0 H1.out).mono ?_
  rintro e w2 ⟨rfl, k⟩
  have HB := Lib.hid (HB.out.trans (k.mono HB.out.size))
  have hA := hA.later k
  have hB := hB.later k
  clear k
  clear la1 lb1 p1_0 p1_1 p1_2 p1_3 p1_4 p1_5 p1_6 p1_7 q1_0 q1_1 q1_2 q1_3 q1_4 q1_5 q1_6 q1_7
  have la2 := hA.lt
  have lb2 := hB.lt
  obtain ⟨p2_0, p2_1, p2_2, p2_3, p2_4, p2_5, p2_6, p2_7⟩ := id hA
  obtain ⟨q2_0, q2_1, q2_2, q2_3, q2_4, q2_5, q2_6, q2_7⟩ := id hB
  go_wp2_with fail
  refine (compare_any b.x1 a.x0 _ c2 0 H2.out).mono ?_
  rintro e w3 ⟨rfl, k⟩
  have HB := Lib.hid (HB.out.trans (k.mono HB.out.size))
  have hA := hA.later k
  have hB := hB.later k
  clear k
  clear la2 lb2 p2_0 p2_1 p2_2 p2_3 p2_4 p2_5 p2_6 p2_7 q2_0 q2_1 q2_2 q2_3 q2_4 q2_5 q2_6 q2_7
  have la3 := hA.lt
  have lb3 := hB.lt
  obtain ⟨p3_0, p3_1, p3_2, p3_3, p3_4, p3_5, p3_6, p3_7⟩ := id hA
  obtain ⟨q3_0, q3_1, q3_2, q3_3, q3_4, q3_5, q3_6, q3_7⟩ := id hB
  go_wp2_with fail
  refine (compare_any a.y1 b.y0 _ c3 0 H3.out).mono ?_
  rintro e w4 ⟨rfl, k⟩
  have HB := Lib.hid (HB.out.trans (k.mono HB.out.size))
  have hA := hA.later k
  have hB := hB.later k
  clear k
  clear la3 lb3 p3_0 p3_1 p3_2 p3_3 p3_4 p3_5 p3_6 p3_7 q3_0 q3_1 q3_2 q3_3 q3_4 q3_5 q3_6 q3_7
  have la4 := hA.lt
  have lb4 := hB.lt
  obtain ⟨p4_0, p4_1, p4_2, p4_3, p4_4, p4_5, p4_6, p4_7⟩ := id hA
  obtain ⟨q4_0, q4_1, q4_2, q4_3, q4_4, q4_5, q4_6, q4_7⟩ := id hB
  go_wp2_with fail
  refine (compare_any b.y1 a.y0 _ c4 0 H4.out).mono ?_
  rintro e w5 ⟨rfl, k⟩
  have HB := Lib.hid (HB.out.trans (k.mono HB.out.size))
  have hA := hA.later k
  have hB := hB.later k
  clear k
  clear la4 lb4 p4_0 p4_1 p4_2 p4_3 p4_4 p4_5 p4_6 p4_7 q4_0 q4_1 q4_2 q4_3 q4_4 q4_5 q4_6 q4_7
  have la5 := hA.lt
  have lb5 := hB.lt
  obtain ⟨p5_0, p5_1, p5_2, p5_3, p5_4, p5_5, p5_6, p5_7⟩ := id hA
  obtain ⟨q5_0, q5_1, q5_2, q5_3, q5_4, q5_5, q5_6, q5_7⟩ := id hB
  go_wp2_with fail
  refine (bawake_any _).mono ?_
  rintro e w6 ⟨rfl, k⟩
  have HB := Lib.hid (HB.out.trans (k.mono HB.out.size))
  have hA := hA.later k
  have hB := hB.later k
  clear k
  clear la5 lb5 p5_0 p5_1 p5_2 p5_3 p5_4 p5_5 p5_6 p5_7 q5_0 q5_1 q5_2 q5_3 q5_4 q5_5 q5_6 q5_7
  have la6 := hA.lt
  have lb6 := hB.lt
  obtain ⟨p6_0, p6_1, p6_2, p6_3, p6_4, p6_5, p6_6, p6_7⟩ := id hA
  obtain ⟨q6_0, q6_1, q6_2, q6_3, q6_4, q6_5, q6_6, q6_7⟩ := id hB
  have n4 : ¬ 0 ≤ c4 := by omega
  go_wp2
  go_ret
  refine ⟨by first | rfl | (simp; done) | (simp; omega), ?_⟩
  (repeat (first | with_reducible refine Below.drew ?_ | with_reducible refine bdrewN ?_ _ | (with_reducible refine Below.setCell ?_ ?_ _; rotate_left; focus (first | exact Nat.le_refl _ | omega | (simp; omega) | (simp; done))) | (with_reducible refine Below.alloc ?_ ?_ _; rotate_left; focus (first | exact Nat.le_refl _ | omega | (simp; omega) | (simp; done))))); with_reducible exact HB.out
set_option maxRecDepth 100000 in
set_option maxHeartbeats 4000000 in
theorem apart_4 (a b : BV) (w : World) (c1 c2 c3 c4 : Int) (h : Hid (MeetIs a b true 0)) (H1 : Hid (CmpIs a.x1 b.x0 c1 0)) (H2 : Hid (CmpIs b.x1 a.x0 c2 0)) (H3 : Hid (CmpIs a.y1 b.y0 c3 0)) (H4 : Hid (CmpIs b.y1 a.y0 c4 0)) (s1 : 0 ≤ c1) (s2 : 0 ≤ c2) (s3 : 0 ≤ c3) (s4 : 0 ≤ c4) :
    Calls Try.prog 5 #[a.val, b.val] w fun e w' => e = .returned (.bool true) ∧ Below w.heap.size w w' := by
  go_enter Try.func5, Try.ntmps5
  have hA := (BIn.made w 25 a).old (.cells #[.int .i64 b.x0.m, .int .i64 b.x0.s, .int .i64 b.y0.m, .int .i64 b.y0.s, .int .i64 b.x1.m, .int .i64 b.x1.s, .int .i64 b.y1.m, .int .i64 b.y1.s] 25)
  have hB := BIn.made (w.alloc (.cells #[.int .i64 a.x0.m, .int .i64 a.x0.s, .int .i64 a.y0.m, .int .i64 a.y0.s, .int .i64 a.x1.m, .int .i64 a.x1.s, .int .i64 a.y1.m, .int .i64 a.y1.s] 25)) 25 b
  simp only [World.size_alloc] at hB
  have HB : Hid (Below w.heap.size w ((w.alloc (.cells #[.int .i64 a.x0.m, .int .i64 a.x0.s, .int .i64 a.y0.m, .int .i64 a.y0.s, .int .i64 a.x1.m, .int .i64 a.x1.s, .int .i64 a.y1.m, .int .i64 a.y1.s] 25)).alloc (.cells #[.int .i64 b.x0.m, .int .i64 b.x0.s, .int .i64 b.y0.m, .int .i64 b.y0.s, .int .i64 b.x1.m, .int .i64 b.x1.s, .int .i64 b.y1.m, .int .i64 b.y1.s] 25))) := by
    unfold Hid
    (repeat (first | with_reducible exact Below.refl _ _ | with_reducible refine Below.drew ?_ | with_reducible refine bdrewN ?_ _ | (with_reducible refine Below.setCell ?_ ?_ _; rotate_left; focus (first | exact Nat.le_refl _ | omega | (simp; omega) | (simp; done))) | (with_reducible refine Below.alloc ?_ ?_ _; rotate_left; focus (first | exact Nat.le_refl _ | omega | (simp; omega) | (simp; done))) | (with_reducible refine Below.trans ?_ (Below.mono (by assumption) ?_); rotate_left; focus (first | exact Nat.le_refl _ | omega | (simp; omega) | (simp; done)))))
  go_wp2_with fail
  refine (meets_any a b _ true 0 h.out).mono ?_
  rintro e w1 ⟨rfl, k⟩
  have HB := Lib.hid (HB.out.trans (k.mono HB.out.size))
  have hA := hA.later k
  have hB := hB.later k
  clear k
  have la1 := hA.lt
  have lb1 := hB.lt
  obtain ⟨p1_0, p1_1, p1_2, p1_3, p1_4, p1_5, p1_6, p1_7⟩ := id hA
  obtain ⟨q1_0, q1_1, q1_2, q1_3, q1_4, q1_5, q1_6, q1_7⟩ := id hB
  go_wp2_with fail
  refine (compare_any a.x1 b.x0 _ c1 0 H1.out).mono ?_
  rintro e w2 ⟨rfl, k⟩
  have HB := Lib.hid (HB.out.trans (k.mono HB.out.size))
  have hA := hA.later k
  have hB := hB.later k
  clear k
  clear la1 lb1 p1_0 p1_1 p1_2 p1_3 p1_4 p1_5 p1_6 p1_7 q1_0 q1_1 q1_2 q1_3 q1_4 q1_5 q1_6 q1_7
  have la2 := hA.lt
  have lb2 := hB.lt
  obtain ⟨p2_0, p2_1, p2_2, p2_3, p2_4, p2_5, p2_6, p2_7⟩ := id hA
  obtain ⟨q2_0, q2_1, q2_2, q2_3, q2_4, q2_5, q2_6, q2_7⟩ := id hB
  go_wp2_with fail
  refine (compare_any b.x1 a.x0 _ c2 0 H2.out).mono ?_
  rintro e w3 ⟨rfl, k⟩
  have HB := Lib.hid (HB.out.trans (k.mono HB.out.size))
  have hA := hA.later k
  have hB := hB.later k
  clear k
  clear la2 lb2 p2_0 p2_1 p2_2 p2_3 p2_4 p2_5 p2_6 p2_7 q2_0 q2_1 q2_2 q2_3 q2_4 q2_5 q2_6 q2_7
  have la3 := hA.lt
  have lb3 := hB.lt
  obtain ⟨p3_0, p3_1, p3_2, p3_3, p3_4, p3_5, p3_6, p3_7⟩ := id hA
  obtain ⟨q3_0, q3_1, q3_2, q3_3, q3_4, q3_5, q3_6, q3_7⟩ := id hB
  go_wp2_with fail
  refine (compare_any a.y1 b.y0 _ c3 0 H3.out).mono ?_
  rintro e w4 ⟨rfl, k⟩
  have HB := Lib.hid (HB.out.trans (k.mono HB.out.size))
  have hA := hA.later k
  have hB := hB.later k
  clear k
  clear la3 lb3 p3_0 p3_1 p3_2 p3_3 p3_4 p3_5 p3_6 p3_7 q3_0 q3_1 q3_2 q3_3 q3_4 q3_5 q3_6 q3_7
  have la4 := hA.lt
  have lb4 := hB.lt
  obtain ⟨p4_0, p4_1, p4_2, p4_3, p4_4, p4_5, p4_6, p4_7⟩ := id hA
  obtain ⟨q4_0, q4_1, q4_2, q4_3, q4_4, q4_5, q4_6, q4_7⟩ := id hB
  go_wp2_with fail
  refine (compare_any b.y1 a.y0 _ c4 0 H4.out).mono ?_
  rintro e w5 ⟨rfl, k⟩
  have HB := Lib.hid (HB.out.trans (k.mono HB.out.size))
  have hA := hA.later k
  have hB := hB.later k
  clear k
  clear la4 lb4 p4_0 p4_1 p4_2 p4_3 p4_4 p4_5 p4_6 p4_7 q4_0 q4_1 q4_2 q4_3 q4_4 q4_5 q4_6 q4_7
  have la5 := hA.lt
  have lb5 := hB.lt
  obtain ⟨p5_0, p5_1, p5_2, p5_3, p5_4, p5_5, p5_6, p5_7⟩ := id hA
  obtain ⟨q5_0, q5_1, q5_2, q5_3, q5_4, q5_5, q5_6, q5_7⟩ := id hB
  go_wp2_with fail
  refine (bawake_any _).mono ?_
  rintro e w6 ⟨rfl, k⟩
  have HB := Lib.hid (HB.out.trans (k.mono HB.out.size))
  have hA := hA.later k
  have hB := hB.later k
  clear k
  clear la5 lb5 p5_0 p5_1 p5_2 p5_3 p5_4 p5_5 p5_6 p5_7 q5_0 q5_1 q5_2 q5_3 q5_4 q5_5 q5_6 q5_7
  have la6 := hA.lt
  have lb6 := hB.lt
  obtain ⟨p6_0, p6_1, p6_2, p6_3, p6_4, p6_5, p6_6, p6_7⟩ := id hA
  obtain ⟨q6_0, q6_1, q6_2, q6_3, q6_4, q6_5, q6_6, q6_7⟩ := id hB
  go_wp2
  go_ret
  refine ⟨by first | rfl | (simp; done) | (simp; omega), ?_⟩
  (repeat (first | with_reducible refine Below.drew ?_ | with_reducible refine bdrewN ?_ _ | (with_reducible refine Below.setCell ?_ ?_ _; rotate_left; focus (first | exact Nat.le_refl _ | omega | (simp; omega) | (simp; done))) | (with_reducible refine Below.alloc ?_ ?_ _; rotate_left; focus (first | exact Nat.le_refl _ | omega | (simp; omega) | (simp; done))))); with_reducible exact HB.out
theorem apart_any (a b : BV) (w : World) :
    Calls Try.prog 5 #[a.val, b.val] w fun e w' => e = .returned (.bool true) ∧ Below w.heap.size w w' := by
  by_cases ho : a.Ok ∧ b.Ok
  · obtain ⟨ha, hb⟩ := ho
    have ax := leB_iff.1 ha.1
    have ay := leB_iff.1 ha.2
    have bx := leB_iff.1 hb.1
    have by' := leB_iff.1 hb.2
    have m := meetB_iff ha hb
    have k1 := cmp_le a.x1.v b.x0.v
    have k2 := cmp_le b.x1.v a.x0.v
    have k3 := cmp_le a.y1.v b.y0.v
    have k4 := cmp_le b.y1.v a.y0.v
    have H1 : CmpIs a.x1 b.x0 _ 0 := .inl ⟨ax.2.1, bx.1, rfl, rfl⟩
    have H2 : CmpIs b.x1 a.x0 _ 0 := .inl ⟨bx.2.1, ax.1, rfl, rfl⟩
    have H3 : CmpIs a.y1 b.y0 _ 0 := .inl ⟨ay.2.1, by'.1, rfl, rfl⟩
    have H4 : CmpIs b.y1 a.y0 _ 0 := .inl ⟨by'.2.1, ay.1, rfl, rfl⟩
    have hf : ¬ (a.x0.v ≤ b.x1.v ∧ b.x0.v ≤ a.x1.v ∧ a.y0.v ≤ b.y1.v ∧ b.y0.v ≤ a.y1.v) → MeetIs a b false 0 := fun h => .inl ⟨ha, hb, by
      cases hh : meetB a b
      · rfl
      · exact absurd (m.1 hh) h, rfl⟩
    by_cases s1 : 0 ≤ Lib.compareInt a.x1.v b.x0.v
    · by_cases s2 : 0 ≤ Lib.compareInt b.x1.v a.x0.v
      · by_cases s3 : 0 ≤ Lib.compareInt a.y1.v b.y0.v
        · by_cases s4 : 0 ≤ Lib.compareInt b.y1.v a.y0.v
          · exact apart_4 a b w _ _ _ _ (Lib.hid (.inl ⟨ha, hb, (m.2 ⟨k2.2.1.1 s2, k1.2.1.1 s1, k4.2.1.1 s4, k3.2.1.1 s3⟩).symm, rfl⟩)) (Lib.hid H1) (Lib.hid H2) (Lib.hid H3) (Lib.hid H4) s1 s2 s3 s4
          · exact apart_3 a b w _ _ _ _ (Lib.hid (hf fun h => s4 (k4.2.1.2 h.2.2.1))) (Lib.hid H1) (Lib.hid H2) (Lib.hid H3) (Lib.hid H4) s1 s2 s3 (by omega)
        · exact apart_2 a b w _ _ _ _ (Lib.hid (hf fun h => s3 (k3.2.1.2 h.2.2.2))) (Lib.hid H1) (Lib.hid H2) (Lib.hid H3) (Lib.hid H4) s1 s2 (by omega)
      · exact apart_1 a b w _ _ _ _ (Lib.hid (hf fun h => s2 (k2.2.1.2 h.1))) (Lib.hid H1) (Lib.hid H2) (Lib.hid H3) (Lib.hid H4) s1 (by omega)
    · exact apart_0 a b w _ _ _ _ (Lib.hid (hf fun h => s1 (k1.2.1.2 h.2.1))) (Lib.hid H1) (Lib.hid H2) (Lib.hid H3) (Lib.hid H4) (by omega)
  · have h : MeetIs a b false 1 := .inr ⟨ho, rfl, rfl⟩
    by_cases ha : a.Ok
    · exact apart_bad2 a b w (Lib.hid h) (Lib.hid (.inl ⟨ha, rfl⟩)) (Lib.hid (.inr ⟨fun hb => ho ⟨ha, hb⟩, rfl⟩))
    · exact apart_bad1 a b w (Lib.hid h) (Lib.hid (.inr ⟨ha, rfl⟩))
end Go.Proofs.Ytgdfdlicfjjfjaa
