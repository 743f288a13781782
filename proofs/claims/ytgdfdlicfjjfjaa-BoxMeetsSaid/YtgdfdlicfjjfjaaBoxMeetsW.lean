/- The walk of BoxMeets. -/
import Derived.Test.YtgdfdlicfjjfjaaBoxAwake
import Derived.Test.YtgdfdlicfjjfjaaBoxBoth
namespace Go.Proofs.Ytgdfdlicfjjfjaa
open Go.RowKit Dec

set_option maxRecDepth 100000 in
set_option maxHeartbeats 16000000 in
theorem bm_bad1 (a b c : BV) (w : World) (h1 : Hid (ChkIs a 1)) :
    Calls Try.prog 3 #[a.val, b.val, c.val] w fun e w' => e = .returned (.bool true) ∧ Below w.heap.size w w' := by
  go_enter Try.func3, Try.ntmps3
  have hA := ((BIn.made w 25 a).old (.cells #[.int .i64 b.x0.m, .int .i64 b.x0.s, .int .i64 b.y0.m, .int .i64 b.y0.s, .int .i64 b.x1.m, .int .i64 b.x1.s, .int .i64 b.y1.m, .int .i64 b.y1.s] 25)).old (.cells #[.int .i64 c.x0.m, .int .i64 c.x0.s, .int .i64 c.y0.m, .int .i64 c.y0.s, .int .i64 c.x1.m, .int .i64 c.x1.s, .int .i64 c.y1.m, .int .i64 c.y1.s] 25)
  have hB := (BIn.made (w.alloc (.cells #[.int .i64 a.x0.m, .int .i64 a.x0.s, .int .i64 a.y0.m, .int .i64 a.y0.s, .int .i64 a.x1.m, .int .i64 a.x1.s, .int .i64 a.y1.m, .int .i64 a.y1.s] 25)) 25 b).old (.cells #[.int .i64 c.x0.m, .int .i64 c.x0.s, .int .i64 c.y0.m, .int .i64 c.y0.s, .int .i64 c.x1.m, .int .i64 c.x1.s, .int .i64 c.y1.m, .int .i64 c.y1.s] 25)
  have hC := BIn.made ((w.alloc (.cells #[.int .i64 a.x0.m, .int .i64 a.x0.s, .int .i64 a.y0.m, .int .i64 a.y0.s, .int .i64 a.x1.m, .int .i64 a.x1.s, .int .i64 a.y1.m, .int .i64 a.y1.s] 25)).alloc (.cells #[.int .i64 b.x0.m, .int .i64 b.x0.s, .int .i64 b.y0.m, .int .i64 b.y0.s, .int .i64 b.x1.m, .int .i64 b.x1.s, .int .i64 b.y1.m, .int .i64 b.y1.s] 25)) 25 c
  simp only [World.size_alloc] at hB hC
  have HB : Hid (Below w.heap.size w (((w.alloc (.cells #[.int .i64 a.x0.m, .int .i64 a.x0.s, .int .i64 a.y0.m, .int .i64 a.y0.s, .int .i64 a.x1.m, .int .i64 a.x1.s, .int .i64 a.y1.m, .int .i64 a.y1.s] 25)).alloc (.cells #[.int .i64 b.x0.m, .int .i64 b.x0.s, .int .i64 b.y0.m, .int .i64 b.y0.s, .int .i64 b.x1.m, .int .i64 b.x1.s, .int .i64 b.y1.m, .int .i64 b.y1.s] 25)).alloc (.cells #[.int .i64 c.x0.m, .int .i64 c.x0.s, .int .i64 c.y0.m, .int .i64 c.y0.s, .int .i64 c.x1.m, .int .i64 c.x1.s, .int .i64 c.y1.m, .int .i64 c.y1.s] 25))) := by
    unfold Hid
    (repeat (first | with_reducible exact Below.refl _ _ | with_reducible refine Below.drew ?_ | with_reducible refine bdrewN ?_ _ | (with_reducible refine Below.setCell ?_ ?_ _; rotate_left; focus (first | exact Nat.le_refl _ | omega | (simp; omega) | (simp; done))) | (with_reducible refine Below.alloc ?_ ?_ _; rotate_left; focus (first | exact Nat.le_refl _ | omega | (simp; omega) | (simp; done))) | (with_reducible refine Below.trans ?_ (Below.mono (by assumption) ?_); rotate_left; focus (first | exact Nat.le_refl _ | omega | (simp; omega) | (simp; done)))))
  go_wp2_with fail
  refine (bcheck_any a _ 1 h1.out).mono ?_
  rintro e w1 ⟨rfl, k⟩
  have HB := Lib.hid (HB.out.trans (k.mono HB.out.size))
  have hA := hA.later k
  have hB := hB.later k
  have hC := hC.later k
  clear k
  have l_hA := hA.lt
  obtain ⟨f_hA_0, f_hA_1, f_hA_2, f_hA_3, f_hA_4, f_hA_5, f_hA_6, f_hA_7⟩ := id hA
  have l_hB := hB.lt
  obtain ⟨f_hB_0, f_hB_1, f_hB_2, f_hB_3, f_hB_4, f_hB_5, f_hB_6, f_hB_7⟩ := id hB
  have l_hC := hC.lt
  obtain ⟨f_hC_0, f_hC_1, f_hC_2, f_hC_3, f_hC_4, f_hC_5, f_hC_6, f_hC_7⟩ := id hC
  go_wp2_with fail
  refine (bawake_any _).mono ?_
  rintro e w2 ⟨rfl, k⟩
  have HB := Lib.hid (HB.out.trans (k.mono HB.out.size))
  clear k
  clear l_hA f_hA_0 f_hA_1 f_hA_2 f_hA_3 f_hA_4 f_hA_5 f_hA_6 f_hA_7 l_hB f_hB_0 f_hB_1 f_hB_2 f_hB_3 f_hB_4 f_hB_5 f_hB_6 f_hB_7 l_hC f_hC_0 f_hC_1 f_hC_2 f_hC_3 f_hC_4 f_hC_5 f_hC_6 f_hC_7
  go_wp2
  go_ret
  refine ⟨by first | rfl | (simp; done) | (simp; omega), ?_⟩
  (repeat (first | with_reducible refine Below.drew ?_ | with_reducible refine bdrewN ?_ _ | (with_reducible refine Below.setCell ?_ ?_ _; rotate_left; focus (first | exact Nat.le_refl _ | omega | (simp; omega) | (simp; done))) | (with_reducible refine Below.alloc ?_ ?_ _; rotate_left; focus (first | exact Nat.le_refl _ | omega | (simp; omega) | (simp; done))))); with_reducible exact HB.out
set_option maxRecDepth 100000 in
set_option maxHeartbeats 16000000 in
theorem bm_bad2 (a b c : BV) (w : World) (h1 : Hid (ChkIs a 0)) (h2 : Hid (ChkIs b 1)) :
    Calls Try.prog 3 #[a.val, b.val, c.val] w fun e w' => e = .returned (.bool true) ∧ Below w.heap.size w w' := by
  go_enter Try.func3, Try.ntmps3
  have hA := ((BIn.made w 25 a).old (.cells #[.int .i64 b.x0.m, .int .i64 b.x0.s, .int .i64 b.y0.m, .int .i64 b.y0.s, .int .i64 b.x1.m, .int .i64 b.x1.s, .int .i64 b.y1.m, .int .i64 b.y1.s] 25)).old (.cells #[.int .i64 c.x0.m, .int .i64 c.x0.s, .int .i64 c.y0.m, .int .i64 c.y0.s, .int .i64 c.x1.m, .int .i64 c.x1.s, .int .i64 c.y1.m, .int .i64 c.y1.s] 25)
  have hB := (BIn.made (w.alloc (.cells #[.int .i64 a.x0.m, .int .i64 a.x0.s, .int .i64 a.y0.m, .int .i64 a.y0.s, .int .i64 a.x1.m, .int .i64 a.x1.s, .int .i64 a.y1.m, .int .i64 a.y1.s] 25)) 25 b).old (.cells #[.int .i64 c.x0.m, .int .i64 c.x0.s, .int .i64 c.y0.m, .int .i64 c.y0.s, .int .i64 c.x1.m, .int .i64 c.x1.s, .int .i64 c.y1.m, .int .i64 c.y1.s] 25)
  have hC := BIn.made ((w.alloc (.cells #[.int .i64 a.x0.m, .int .i64 a.x0.s, .int .i64 a.y0.m, .int .i64 a.y0.s, .int .i64 a.x1.m, .int .i64 a.x1.s, .int .i64 a.y1.m, .int .i64 a.y1.s] 25)).alloc (.cells #[.int .i64 b.x0.m, .int .i64 b.x0.s, .int .i64 b.y0.m, .int .i64 b.y0.s, .int .i64 b.x1.m, .int .i64 b.x1.s, .int .i64 b.y1.m, .int .i64 b.y1.s] 25)) 25 c
  simp only [World.size_alloc] at hB hC
  have HB : Hid (Below w.heap.size w (((w.alloc (.cells #[.int .i64 a.x0.m, .int .i64 a.x0.s, .int .i64 a.y0.m, .int .i64 a.y0.s, .int .i64 a.x1.m, .int .i64 a.x1.s, .int .i64 a.y1.m, .int .i64 a.y1.s] 25)).alloc (.cells #[.int .i64 b.x0.m, .int .i64 b.x0.s, .int .i64 b.y0.m, .int .i64 b.y0.s, .int .i64 b.x1.m, .int .i64 b.x1.s, .int .i64 b.y1.m, .int .i64 b.y1.s] 25)).alloc (.cells #[.int .i64 c.x0.m, .int .i64 c.x0.s, .int .i64 c.y0.m, .int .i64 c.y0.s, .int .i64 c.x1.m, .int .i64 c.x1.s, .int .i64 c.y1.m, .int .i64 c.y1.s] 25))) := by
    unfold Hid
    (repeat (first | with_reducible exact Below.refl _ _ | with_reducible refine Below.drew ?_ | with_reducible refine bdrewN ?_ _ | (with_reducible refine Below.setCell ?_ ?_ _; rotate_left; focus (first | exact Nat.le_refl _ | omega | (simp; omega) | (simp; done))) | (with_reducible refine Below.alloc ?_ ?_ _; rotate_left; focus (first | exact Nat.le_refl _ | omega | (simp; omega) | (simp; done))) | (with_reducible refine Below.trans ?_ (Below.mono (by assumption) ?_); rotate_left; focus (first | exact Nat.le_refl _ | omega | (simp; omega) | (simp; done)))))
  go_wp2_with fail
  refine (bcheck_any a _ 0 h1.out).mono ?_
  rintro e w1 ⟨rfl, k⟩
  have HB := Lib.hid (HB.out.trans (k.mono HB.out.size))
  have hA := hA.later k
  have hB := hB.later k
  have hC := hC.later k
  clear k
  have l_hA := hA.lt
  obtain ⟨f_hA_0, f_hA_1, f_hA_2, f_hA_3, f_hA_4, f_hA_5, f_hA_6, f_hA_7⟩ := id hA
  have l_hB := hB.lt
  obtain ⟨f_hB_0, f_hB_1, f_hB_2, f_hB_3, f_hB_4, f_hB_5, f_hB_6, f_hB_7⟩ := id hB
  have l_hC := hC.lt
  obtain ⟨f_hC_0, f_hC_1, f_hC_2, f_hC_3, f_hC_4, f_hC_5, f_hC_6, f_hC_7⟩ := id hC
  go_wp2_with fail
  refine (bcheck_any b _ 1 h2.out).mono ?_
  rintro e w2 ⟨rfl, k⟩
  have HB := Lib.hid (HB.out.trans (k.mono HB.out.size))
  have hA := hA.later k
  have hB := hB.later k
  have hC := hC.later k
  clear k
  clear l_hA f_hA_0 f_hA_1 f_hA_2 f_hA_3 f_hA_4 f_hA_5 f_hA_6 f_hA_7 l_hB f_hB_0 f_hB_1 f_hB_2 f_hB_3 f_hB_4 f_hB_5 f_hB_6 f_hB_7 l_hC f_hC_0 f_hC_1 f_hC_2 f_hC_3 f_hC_4 f_hC_5 f_hC_6 f_hC_7
  have l_hA := hA.lt
  obtain ⟨f_hA_0, f_hA_1, f_hA_2, f_hA_3, f_hA_4, f_hA_5, f_hA_6, f_hA_7⟩ := id hA
  have l_hB := hB.lt
  obtain ⟨f_hB_0, f_hB_1, f_hB_2, f_hB_3, f_hB_4, f_hB_5, f_hB_6, f_hB_7⟩ := id hB
  have l_hC := hC.lt
  obtain ⟨f_hC_0, f_hC_1, f_hC_2, f_hC_3, f_hC_4, f_hC_5, f_hC_6, f_hC_7⟩ := id hC
  go_wp2_with fail
  refine (bawake_any _).mono ?_
  rintro e w3 ⟨rfl, k⟩
  have HB := Lib.hid (HB.out.trans (k.mono HB.out.size))
  clear k
  clear l_hA f_hA_0 f_hA_1 f_hA_2 f_hA_3 f_hA_4 f_hA_5 f_hA_6 f_hA_7 l_hB f_hB_0 f_hB_1 f_hB_2 f_hB_3 f_hB_4 f_hB_5 f_hB_6 f_hB_7 l_hC f_hC_0 f_hC_1 f_hC_2 f_hC_3 f_hC_4 f_hC_5 f_hC_6 f_hC_7
  go_wp2
  go_ret
  refine ⟨by first | rfl | (simp; done) | (simp; omega), ?_⟩
  (repeat (first | with_reducible refine Below.drew ?_ | with_reducible refine bdrewN ?_ _ | (with_reducible refine Below.setCell ?_ ?_ _; rotate_left; focus (first | exact Nat.le_refl _ | omega | (simp; omega) | (simp; done))) | (with_reducible refine Below.alloc ?_ ?_ _; rotate_left; focus (first | exact Nat.le_refl _ | omega | (simp; omega) | (simp; done))))); with_reducible exact HB.out
set_option maxRecDepth 100000 in
set_option maxHeartbeats 16000000 in
theorem bm_bad3 (a b c : BV) (w : World) (h1 : Hid (ChkIs a 0)) (h2 : Hid (ChkIs b 0)) (h3 : Hid (ChkIs c 1)) :
    Calls Try.prog 3 #[a.val, b.val, c.val] w fun e w' => e = .returned (.bool true) ∧ Below w.heap.size w w' := by
  go_enter Try.func3, Try.ntmps3
  have hA := ((BIn.made w 25 a).old (.cells #[.int .i64 b.x0.m, .int .i64 b.x0.s, .int .i64 b.y0.m, .int .i64 b.y0.s, .int .i64 b.x1.m, .int .i64 b.x1.s, .int .i64 b.y1.m, .int .i64 b.y1.s] 25)).old (.cells #[.int .i64 c.x0.m, .int .i64 c.x0.s, .int .i64 c.y0.m, .int .i64 c.y0.s, .int .i64 c.x1.m, .int .i64 c.x1.s, .int .i64 c.y1.m, .int .i64 c.y1.s] 25)
  have hB := (BIn.made (w.alloc (.cells #[.int .i64 a.x0.m, .int .i64 a.x0.s, .int .i64 a.y0.m, .int .i64 a.y0.s, .int .i64 a.x1.m, .int .i64 a.x1.s, .int .i64 a.y1.m, .int .i64 a.y1.s] 25)) 25 b).old (.cells #[.int .i64 c.x0.m, .int .i64 c.x0.s, .int .i64 c.y0.m, .int .i64 c.y0.s, .int .i64 c.x1.m, .int .i64 c.x1.s, .int .i64 c.y1.m, .int .i64 c.y1.s] 25)
  have hC := BIn.made ((w.alloc (.cells #[.int .i64 a.x0.m, .int .i64 a.x0.s, .int .i64 a.y0.m, .int .i64 a.y0.s, .int .i64 a.x1.m, .int .i64 a.x1.s, .int .i64 a.y1.m, .int .i64 a.y1.s] 25)).alloc (.cells #[.int .i64 b.x0.m, .int .i64 b.x0.s, .int .i64 b.y0.m, .int .i64 b.y0.s, .int .i64 b.x1.m, .int .i64 b.x1.s, .int .i64 b.y1.m, .int .i64 b.y1.s] 25)) 25 c
  simp only [World.size_alloc] at hB hC
  have HB : Hid (Below w.heap.size w (((w.alloc (.cells #[.int .i64 a.x0.m, .int .i64 a.x0.s, .int .i64 a.y0.m, .int .i64 a.y0.s, .int .i64 a.x1.m, .int .i64 a.x1.s, .int .i64 a.y1.m, .int .i64 a.y1.s] 25)).alloc (.cells #[.int .i64 b.x0.m, .int .i64 b.x0.s, .int .i64 b.y0.m, .int .i64 b.y0.s, .int .i64 b.x1.m, .int .i64 b.x1.s, .int .i64 b.y1.m, .int .i64 b.y1.s] 25)).alloc (.cells #[.int .i64 c.x0.m, .int .i64 c.x0.s, .int .i64 c.y0.m, .int .i64 c.y0.s, .int .i64 c.x1.m, .int .i64 c.x1.s, .int .i64 c.y1.m, .int .i64 c.y1.s] 25))) := by
    unfold Hid
    (repeat (first | with_reducible exact Below.refl _ _ | with_reducible refine Below.drew ?_ | with_reducible refine bdrewN ?_ _ | (with_reducible refine Below.setCell ?_ ?_ _; rotate_left; focus (first | exact Nat.le_refl _ | omega | (simp; omega) | (simp; done))) | (with_reducible refine Below.alloc ?_ ?_ _; rotate_left; focus (first | exact Nat.le_refl _ | omega | (simp; omega) | (simp; done))) | (with_reducible refine Below.trans ?_ (Below.mono (by assumption) ?_); rotate_left; focus (first | exact Nat.le_refl _ | omega | (simp; omega) | (simp; done)))))
  go_wp2_with fail
  refine (bcheck_any a _ 0 h1.out).mono ?_
  rintro e w1 ⟨rfl, k⟩
  have HB := Lib.hid (HB.out.trans (k.mono HB.out.size))
  have hA := hA.later k
  have hB := hB.later k
  have hC := hC.later k
  clear k
  have l_hA := hA.lt
  obtain ⟨f_hA_0, f_hA_1, f_hA_2, f_hA_3, f_hA_4, f_hA_5, f_hA_6, f_hA_7⟩ := id hA
  have l_hB := hB.lt
  obtain ⟨f_hB_0, f_hB_1, f_hB_2, f_hB_3, f_hB_4, f_hB_5, f_hB_6, f_hB_7⟩ := id hB
  have l_hC := hC.lt
  obtain ⟨f_hC_0, f_hC_1, f_hC_2, f_hC_3, f_hC_4, f_hC_5, f_hC_6, f_hC_7⟩ := id hC
  go_wp2_with fail
  refine (bcheck_any b _ 0 h2.out).mono ?_
  rintro e w2 ⟨rfl, k⟩
  have HB := Lib.hid (HB.out.trans (k.mono HB.out.size))
  have hA := hA.later k
  have hB := hB.later k
  have hC := hC.later k
  clear k
  clear l_hA f_hA_0 f_hA_1 f_hA_2 f_hA_3 f_hA_4 f_hA_5 f_hA_6 f_hA_7 l_hB f_hB_0 f_hB_1 f_hB_2 f_hB_3 f_hB_4 f_hB_5 f_hB_6 f_hB_7 l_hC f_hC_0 f_hC_1 f_hC_2 f_hC_3 f_hC_4 f_hC_5 f_hC_6 f_hC_7
  have l_hA := hA.lt
  obtain ⟨f_hA_0, f_hA_1, f_hA_2, f_hA_3, f_hA_4, f_hA_5, f_hA_6, f_hA_7⟩ := id hA
  have l_hB := hB.lt
  obtain ⟨f_hB_0, f_hB_1, f_hB_2, f_hB_3, f_hB_4, f_hB_5, f_hB_6, f_hB_7⟩ := id hB
  have l_hC := hC.lt
  obtain ⟨f_hC_0, f_hC_1, f_hC_2, f_hC_3, f_hC_4, f_hC_5, f_hC_6, f_hC_7⟩ := id hC
  go_wp2_with fail
  refine (bcheck_any c _ 1 h3.out).mono ?_
  rintro e w3 ⟨rfl, k⟩
  have HB := Lib.hid (HB.out.trans (k.mono HB.out.size))
  have hA := hA.later k
  have hB := hB.later k
  have hC := hC.later k
  clear k
  clear l_hA f_hA_0 f_hA_1 f_hA_2 f_hA_3 f_hA_4 f_hA_5 f_hA_6 f_hA_7 l_hB f_hB_0 f_hB_1 f_hB_2 f_hB_3 f_hB_4 f_hB_5 f_hB_6 f_hB_7 l_hC f_hC_0 f_hC_1 f_hC_2 f_hC_3 f_hC_4 f_hC_5 f_hC_6 f_hC_7
  have l_hA := hA.lt
  obtain ⟨f_hA_0, f_hA_1, f_hA_2, f_hA_3, f_hA_4, f_hA_5, f_hA_6, f_hA_7⟩ := id hA
  have l_hB := hB.lt
  obtain ⟨f_hB_0, f_hB_1, f_hB_2, f_hB_3, f_hB_4, f_hB_5, f_hB_6, f_hB_7⟩ := id hB
  have l_hC := hC.lt
  obtain ⟨f_hC_0, f_hC_1, f_hC_2, f_hC_3, f_hC_4, f_hC_5, f_hC_6, f_hC_7⟩ := id hC
  go_wp2_with fail
  refine (bawake_any _).mono ?_
  rintro e w4 ⟨rfl, k⟩
  have HB := Lib.hid (HB.out.trans (k.mono HB.out.size))
  clear k
  clear l_hA f_hA_0 f_hA_1 f_hA_2 f_hA_3 f_hA_4 f_hA_5 f_hA_6 f_hA_7 l_hB f_hB_0 f_hB_1 f_hB_2 f_hB_3 f_hB_4 f_hB_5 f_hB_6 f_hB_7 l_hC f_hC_0 f_hC_1 f_hC_2 f_hC_3 f_hC_4 f_hC_5 f_hC_6 f_hC_7
  go_wp2
  go_ret
  refine ⟨by first | rfl | (simp; done) | (simp; omega), ?_⟩
  (repeat (first | with_reducible refine Below.drew ?_ | with_reducible refine bdrewN ?_ _ | (with_reducible refine Below.setCell ?_ ?_ _; rotate_left; focus (first | exact Nat.le_refl _ | omega | (simp; omega) | (simp; done))) | (with_reducible refine Below.alloc ?_ ?_ _; rotate_left; focus (first | exact Nat.le_refl _ | omega | (simp; omega) | (simp; done))))); with_reducible exact HB.out
set_option maxRecDepth 100000 in
set_option maxHeartbeats 16000000 in
theorem bm_good_f0 (a b c d : BV) (w : World) (h1 : Hid (ChkIs a 0)) (h2 : Hid (ChkIs b 0)) (h3 : Hid (ChkIs c 0)) (m1 : Hid (MeetIs a b false 0)) (m2 : Hid (MeetIs b a false 0)) (m3 : Hid (MeetIs a a true 0)) (j1 : Hid (BothIs b c d 0)) (m4 : Hid (MeetIs a d false 0)) (j2 : Hid (BothIs c b d 0)) (j3 : Hid (BothIs b b b 0)) (h4 : Hid (ChkIs d 0)) :
    Calls Try.prog 3 #[a.val, b.val, c.val] w fun e w' => e = .returned (.bool true) ∧ Below w.heap.size w w' := by
  go_enter Try.func3, Try.ntmps3
  have hA := ((BIn.made w 25 a).old (.cells #[.int .i64 b.x0.m, .int .i64 b.x0.s, .int .i64 b.y0.m, .int .i64 b.y0.s, .int .i64 b.x1.m, .int .i64 b.x1.s, .int .i64 b.y1.m, .int .i64 b.y1.s] 25)).old (.cells #[.int .i64 c.x0.m, .int .i64 c.x0.s, .int .i64 c.y0.m, .int .i64 c.y0.s, .int .i64 c.x1.m, .int .i64 c.x1.s, .int .i64 c.y1.m, .int .i64 c.y1.s] 25)
  have hB := (BIn.made (w.alloc (.cells #[.int .i64 a.x0.m, .int .i64 a.x0.s, .int .i64 a.y0.m, .int .i64 a.y0.s, .int .i64 a.x1.m, .int .i64 a.x1.s, .int .i64 a.y1.m, .int .i64 a.y1.s] 25)) 25 b).old (.cells #[.int .i64 c.x0.m, .int .i64 c.x0.s, .int .i64 c.y0.m, .int .i64 c.y0.s, .int .i64 c.x1.m, .int .i64 c.x1.s, .int .i64 c.y1.m, .int .i64 c.y1.s] 25)
  have hC := BIn.made ((w.alloc (.cells #[.int .i64 a.x0.m, .int .i64 a.x0.s, .int .i64 a.y0.m, .int .i64 a.y0.s, .int .i64 a.x1.m, .int .i64 a.x1.s, .int .i64 a.y1.m, .int .i64 a.y1.s] 25)).alloc (.cells #[.int .i64 b.x0.m, .int .i64 b.x0.s, .int .i64 b.y0.m, .int .i64 b.y0.s, .int .i64 b.x1.m, .int .i64 b.x1.s, .int .i64 b.y1.m, .int .i64 b.y1.s] 25)) 25 c
  simp only [World.size_alloc] at hB hC
  have HB : Hid (Below w.heap.size w (((w.alloc (.cells #[.int .i64 a.x0.m, .int .i64 a.x0.s, .int .i64 a.y0.m, .int .i64 a.y0.s, .int .i64 a.x1.m, .int .i64 a.x1.s, .int .i64 a.y1.m, .int .i64 a.y1.s] 25)).alloc (.cells #[.int .i64 b.x0.m, .int .i64 b.x0.s, .int .i64 b.y0.m, .int .i64 b.y0.s, .int .i64 b.x1.m, .int .i64 b.x1.s, .int .i64 b.y1.m, .int .i64 b.y1.s] 25)).alloc (.cells #[.int .i64 c.x0.m, .int .i64 c.x0.s, .int .i64 c.y0.m, .int .i64 c.y0.s, .int .i64 c.x1.m, .int .i64 c.x1.s, .int .i64 c.y1.m, .int .i64 c.y1.s] 25))) := by
    unfold Hid
    (repeat (first | with_reducible exact Below.refl _ _ | with_reducible refine Below.drew ?_ | with_reducible refine bdrewN ?_ _ | (with_reducible refine Below.setCell ?_ ?_ _; rotate_left; focus (first | exact Nat.le_refl _ | omega | (simp; omega) | (simp; done))) | (with_reducible refine Below.alloc ?_ ?_ _; rotate_left; focus (first | exact Nat.le_refl _ | omega | (simp; omega) | (simp; done))) | (with_reducible refine Below.trans ?_ (Below.mono (by assumption) ?_); rotate_left; focus (first | exact Nat.le_refl _ | omega | (simp; omega) | (simp; done)))))
  go_wp2_with fail
  refine (bcheck_any a _ 0 h1.out).mono ?_
  rintro e w1 ⟨rfl, k⟩
  have HB := Lib.hid (HB.out.trans (k.mono HB.out.size))
  have hA := hA.later k
  have hB := hB.later k
  have hC := hC.later k
  clear k
  have l_hA := hA.lt
  obtain ⟨f_hA_0, f_hA_1, f_hA_2, f_hA_3, f_hA_4, f_hA_5, f_hA_6, f_hA_7⟩ := id hA
  have l_hB := hB.lt
  obtain ⟨f_hB_0, f_hB_1, f_hB_2, f_hB_3, f_hB_4, f_hB_5, f_hB_6, f_hB_7⟩ := id hB
  have l_hC := hC.lt
  obtain ⟨f_hC_0, f_hC_1, f_hC_2, f_hC_3, f_hC_4, f_hC_5, f_hC_6, f_hC_7⟩ := id hC
  go_wp2_with fail
  refine (bcheck_any b _ 0 h2.out).mono ?_
  rintro e w2 ⟨rfl, k⟩
  have HB := Lib.hid (HB.out.trans (k.mono HB.out.size))
  have hA := hA.later k
  have hB := hB.later k
  have hC := hC.later k
  clear k
  clear l_hA f_hA_0 f_hA_1 f_hA_2 f_hA_3 f_hA_4 f_hA_5 f_hA_6 f_hA_7 l_hB f_hB_0 f_hB_1 f_hB_2 f_hB_3 f_hB_4 f_hB_5 f_hB_6 f_hB_7 l_hC f_hC_0 f_hC_1 f_hC_2 f_hC_3 f_hC_4 f_hC_5 f_hC_6 f_hC_7
  have l_hA := hA.lt
  obtain ⟨f_hA_0, f_hA_1, f_hA_2, f_hA_3, f_hA_4, f_hA_5, f_hA_6, f_hA_7⟩ := id hA
  have l_hB := hB.lt
  obtain ⟨f_hB_0, f_hB_1, f_hB_2, f_hB_3, f_hB_4, f_hB_5, f_hB_6, f_hB_7⟩ := id hB
  have l_hC := hC.lt
  obtain ⟨f_hC_0, f_hC_1, f_hC_2, f_hC_3, f_hC_4, f_hC_5, f_hC_6, f_hC_7⟩ := id hC
  go_wp2_with fail
  refine (bcheck_any c _ 0 h3.out).mono ?_
  rintro e w3 ⟨rfl, k⟩
  have HB := Lib.hid (HB.out.trans (k.mono HB.out.size))
  have hA := hA.later k
  have hB := hB.later k
  have hC := hC.later k
  clear k
  clear l_hA f_hA_0 f_hA_1 f_hA_2 f_hA_3 f_hA_4 f_hA_5 f_hA_6 f_hA_7 l_hB f_hB_0 f_hB_1 f_hB_2 f_hB_3 f_hB_4 f_hB_5 f_hB_6 f_hB_7 l_hC f_hC_0 f_hC_1 f_hC_2 f_hC_3 f_hC_4 f_hC_5 f_hC_6 f_hC_7
  have l_hA := hA.lt
  obtain ⟨f_hA_0, f_hA_1, f_hA_2, f_hA_3, f_hA_4, f_hA_5, f_hA_6, f_hA_7⟩ := id hA
  have l_hB := hB.lt
  obtain ⟨f_hB_0, f_hB_1, f_hB_2, f_hB_3, f_hB_4, f_hB_5, f_hB_6, f_hB_7⟩ := id hB
  have l_hC := hC.lt
  obtain ⟨f_hC_0, f_hC_1, f_hC_2, f_hC_3, f_hC_4, f_hC_5, f_hC_6, f_hC_7⟩ := id hC
  go_wp2_with fail
  refine (meets_any a b _ false 0 m1.out).mono ?_
  rintro e w4 ⟨rfl, k⟩
  have HB := Lib.hid (HB.out.trans (k.mono HB.out.size))
  have hA := hA.later k
  have hB := hB.later k
  have hC := hC.later k
  clear k
  clear l_hA f_hA_0 f_hA_1 f_hA_2 f_hA_3 f_hA_4 f_hA_5 f_hA_6 f_hA_7 l_hB f_hB_0 f_hB_1 f_hB_2 f_hB_3 f_hB_4 f_hB_5 f_hB_6 f_hB_7 l_hC f_hC_0 f_hC_1 f_hC_2 f_hC_3 f_hC_4 f_hC_5 f_hC_6 f_hC_7
  have l_hA := hA.lt
  obtain ⟨f_hA_0, f_hA_1, f_hA_2, f_hA_3, f_hA_4, f_hA_5, f_hA_6, f_hA_7⟩ := id hA
  have l_hB := hB.lt
  obtain ⟨f_hB_0, f_hB_1, f_hB_2, f_hB_3, f_hB_4, f_hB_5, f_hB_6, f_hB_7⟩ := id hB
  have l_hC := hC.lt
  obtain ⟨f_hC_0, f_hC_1, f_hC_2, f_hC_3, f_hC_4, f_hC_5, f_hC_6, f_hC_7⟩ := id hC
  go_wp2_with fail
  refine (meets_any b a _ false 0 m2.out).mono ?_
  rintro e w5 ⟨rfl, k⟩
  have HB := Lib.hid (HB.out.trans (k.mono HB.out.size))
  have hA := hA.later k
  have hB := hB.later k
  have hC := hC.later k
  clear k
  clear l_hA f_hA_0 f_hA_1 f_hA_2 f_hA_3 f_hA_4 f_hA_5 f_hA_6 f_hA_7 l_hB f_hB_0 f_hB_1 f_hB_2 f_hB_3 f_hB_4 f_hB_5 f_hB_6 f_hB_7 l_hC f_hC_0 f_hC_1 f_hC_2 f_hC_3 f_hC_4 f_hC_5 f_hC_6 f_hC_7
  have l_hA := hA.lt
  obtain ⟨f_hA_0, f_hA_1, f_hA_2, f_hA_3, f_hA_4, f_hA_5, f_hA_6, f_hA_7⟩ := id hA
  have l_hB := hB.lt
  obtain ⟨f_hB_0, f_hB_1, f_hB_2, f_hB_3, f_hB_4, f_hB_5, f_hB_6, f_hB_7⟩ := id hB
  have l_hC := hC.lt
  obtain ⟨f_hC_0, f_hC_1, f_hC_2, f_hC_3, f_hC_4, f_hC_5, f_hC_6, f_hC_7⟩ := id hC
  go_wp2_with fail
  refine (meets_any a a _ true 0 m3.out).mono ?_
  rintro e w6 ⟨rfl, k⟩
  have HB := Lib.hid (HB.out.trans (k.mono HB.out.size))
  have hA := hA.later k
  have hB := hB.later k
  have hC := hC.later k
  clear k
  clear l_hA f_hA_0 f_hA_1 f_hA_2 f_hA_3 f_hA_4 f_hA_5 f_hA_6 f_hA_7 l_hB f_hB_0 f_hB_1 f_hB_2 f_hB_3 f_hB_4 f_hB_5 f_hB_6 f_hB_7 l_hC f_hC_0 f_hC_1 f_hC_2 f_hC_3 f_hC_4 f_hC_5 f_hC_6 f_hC_7
  have l_hA := hA.lt
  obtain ⟨f_hA_0, f_hA_1, f_hA_2, f_hA_3, f_hA_4, f_hA_5, f_hA_6, f_hA_7⟩ := id hA
  have l_hB := hB.lt
  obtain ⟨f_hB_0, f_hB_1, f_hB_2, f_hB_3, f_hB_4, f_hB_5, f_hB_6, f_hB_7⟩ := id hB
  have l_hC := hC.lt
  obtain ⟨f_hC_0, f_hC_1, f_hC_2, f_hC_3, f_hC_4, f_hC_5, f_hC_6, f_hC_7⟩ := id hC
  go_wp2_with fail
  refine (both_any b c d 0 _ j1.out).mono ?_
  rintro e w7 ⟨rfl, k⟩
  have HB := Lib.hid (HB.out.trans (k.mono HB.out.size))
  have hA := hA.later k
  have hB := hB.later k
  have hC := hC.later k
  clear k
  clear l_hA f_hA_0 f_hA_1 f_hA_2 f_hA_3 f_hA_4 f_hA_5 f_hA_6 f_hA_7 l_hB f_hB_0 f_hB_1 f_hB_2 f_hB_3 f_hB_4 f_hB_5 f_hB_6 f_hB_7 l_hC f_hC_0 f_hC_1 f_hC_2 f_hC_3 f_hC_4 f_hC_5 f_hC_6 f_hC_7
  have l_hA := hA.lt
  obtain ⟨f_hA_0, f_hA_1, f_hA_2, f_hA_3, f_hA_4, f_hA_5, f_hA_6, f_hA_7⟩ := id hA
  have l_hB := hB.lt
  obtain ⟨f_hB_0, f_hB_1, f_hB_2, f_hB_3, f_hB_4, f_hB_5, f_hB_6, f_hB_7⟩ := id hB
  have l_hC := hC.lt
  obtain ⟨f_hC_0, f_hC_1, f_hC_2, f_hC_3, f_hC_4, f_hC_5, f_hC_6, f_hC_7⟩ := id hC
  have HB := Lib.hid (HB.out.alloc HB.out.size (.cells #[.int .i64 d.x0.m, .int .i64 d.x0.s, .int .i64 d.y0.m, .int .i64 d.y0.s, .int .i64 d.x1.m, .int .i64 d.x1.s, .int .i64 d.y1.m, .int .i64 d.y1.s] 25))
  have hA := hA.old (.cells #[.int .i64 d.x0.m, .int .i64 d.x0.s, .int .i64 d.y0.m, .int .i64 d.y0.s, .int .i64 d.x1.m, .int .i64 d.x1.s, .int .i64 d.y1.m, .int .i64 d.y1.s] 25)
  have hB := hB.old (.cells #[.int .i64 d.x0.m, .int .i64 d.x0.s, .int .i64 d.y0.m, .int .i64 d.y0.s, .int .i64 d.x1.m, .int .i64 d.x1.s, .int .i64 d.y1.m, .int .i64 d.y1.s] 25)
  have hC := hC.old (.cells #[.int .i64 d.x0.m, .int .i64 d.x0.s, .int .i64 d.y0.m, .int .i64 d.y0.s, .int .i64 d.x1.m, .int .i64 d.x1.s, .int .i64 d.y1.m, .int .i64 d.y1.s] 25)
  have hD := BIn.made w7 25 d
  go_wp2_with fail
  refine (meets_any a d _ false 0 m4.out).mono ?_
  rintro e w8 ⟨rfl, k⟩
  have HB := Lib.hid (HB.out.trans (k.mono HB.out.size))
  have hA := hA.later k
  have hB := hB.later k
  have hC := hC.later k
  have hD := hD.later k
  clear k
  clear l_hA f_hA_0 f_hA_1 f_hA_2 f_hA_3 f_hA_4 f_hA_5 f_hA_6 f_hA_7 l_hB f_hB_0 f_hB_1 f_hB_2 f_hB_3 f_hB_4 f_hB_5 f_hB_6 f_hB_7 l_hC f_hC_0 f_hC_1 f_hC_2 f_hC_3 f_hC_4 f_hC_5 f_hC_6 f_hC_7
  have l_hA := hA.lt
  obtain ⟨f_hA_0, f_hA_1, f_hA_2, f_hA_3, f_hA_4, f_hA_5, f_hA_6, f_hA_7⟩ := id hA
  have l_hB := hB.lt
  obtain ⟨f_hB_0, f_hB_1, f_hB_2, f_hB_3, f_hB_4, f_hB_5, f_hB_6, f_hB_7⟩ := id hB
  have l_hC := hC.lt
  obtain ⟨f_hC_0, f_hC_1, f_hC_2, f_hC_3, f_hC_4, f_hC_5, f_hC_6, f_hC_7⟩ := id hC
  have l_hD := hD.lt
  obtain ⟨f_hD_0, f_hD_1, f_hD_2, f_hD_3, f_hD_4, f_hD_5, f_hD_6, f_hD_7⟩ := id hD
  go_wp2_with fail
  refine (both_any c b d 0 _ j2.out).mono ?_
  rintro e w9 ⟨rfl, k⟩
  have HB := Lib.hid (HB.out.trans (k.mono HB.out.size))
  have hA := hA.later k
  have hB := hB.later k
  have hC := hC.later k
  have hD := hD.later k
  clear k
  clear l_hA f_hA_0 f_hA_1 f_hA_2 f_hA_3 f_hA_4 f_hA_5 f_hA_6 f_hA_7 l_hB f_hB_0 f_hB_1 f_hB_2 f_hB_3 f_hB_4 f_hB_5 f_hB_6 f_hB_7 l_hC f_hC_0 f_hC_1 f_hC_2 f_hC_3 f_hC_4 f_hC_5 f_hC_6 f_hC_7 l_hD f_hD_0 f_hD_1 f_hD_2 f_hD_3 f_hD_4 f_hD_5 f_hD_6 f_hD_7
  have l_hA := hA.lt
  obtain ⟨f_hA_0, f_hA_1, f_hA_2, f_hA_3, f_hA_4, f_hA_5, f_hA_6, f_hA_7⟩ := id hA
  have l_hB := hB.lt
  obtain ⟨f_hB_0, f_hB_1, f_hB_2, f_hB_3, f_hB_4, f_hB_5, f_hB_6, f_hB_7⟩ := id hB
  have l_hC := hC.lt
  obtain ⟨f_hC_0, f_hC_1, f_hC_2, f_hC_3, f_hC_4, f_hC_5, f_hC_6, f_hC_7⟩ := id hC
  have l_hD := hD.lt
  obtain ⟨f_hD_0, f_hD_1, f_hD_2, f_hD_3, f_hD_4, f_hD_5, f_hD_6, f_hD_7⟩ := id hD
  have HB := Lib.hid (HB.out.alloc HB.out.size (.cells #[.int .i64 d.x0.m, .int .i64 d.x0.s, .int .i64 d.y0.m, .int .i64 d.y0.s, .int .i64 d.x1.m, .int .i64 d.x1.s, .int .i64 d.y1.m, .int .i64 d.y1.s] 25))
  have hA := hA.old (.cells #[.int .i64 d.x0.m, .int .i64 d.x0.s, .int .i64 d.y0.m, .int .i64 d.y0.s, .int .i64 d.x1.m, .int .i64 d.x1.s, .int .i64 d.y1.m, .int .i64 d.y1.s] 25)
  have hB := hB.old (.cells #[.int .i64 d.x0.m, .int .i64 d.x0.s, .int .i64 d.y0.m, .int .i64 d.y0.s, .int .i64 d.x1.m, .int .i64 d.x1.s, .int .i64 d.y1.m, .int .i64 d.y1.s] 25)
  have hC := hC.old (.cells #[.int .i64 d.x0.m, .int .i64 d.x0.s, .int .i64 d.y0.m, .int .i64 d.y0.s, .int .i64 d.x1.m, .int .i64 d.x1.s, .int .i64 d.y1.m, .int .i64 d.y1.s] 25)
  have hD := hD.old (.cells #[.int .i64 d.x0.m, .int .i64 d.x0.s, .int .i64 d.y0.m, .int .i64 d.y0.s, .int .i64 d.x1.m, .int .i64 d.x1.s, .int .i64 d.y1.m, .int .i64 d.y1.s] 25)
  have hP := BIn.made w9 25 d
  go_wp2_with fail
  refine (both_any b b b 0 _ j3.out).mono ?_
  rintro e w10 ⟨rfl, k⟩
  have HB := Lib.hid (HB.out.trans (k.mono HB.out.size))
  have hA := hA.later k
  have hB := hB.later k
  have hC := hC.later k
  have hD := hD.later k
  have hP := hP.later k
  clear k
  clear l_hA f_hA_0 f_hA_1 f_hA_2 f_hA_3 f_hA_4 f_hA_5 f_hA_6 f_hA_7 l_hB f_hB_0 f_hB_1 f_hB_2 f_hB_3 f_hB_4 f_hB_5 f_hB_6 f_hB_7 l_hC f_hC_0 f_hC_1 f_hC_2 f_hC_3 f_hC_4 f_hC_5 f_hC_6 f_hC_7 l_hD f_hD_0 f_hD_1 f_hD_2 f_hD_3 f_hD_4 f_hD_5 f_hD_6 f_hD_7
  have l_hA := hA.lt
  obtain ⟨f_hA_0, f_hA_1, f_hA_2, f_hA_3, f_hA_4, f_hA_5, f_hA_6, f_hA_7⟩ := id hA
  have l_hB := hB.lt
  obtain ⟨f_hB_0, f_hB_1, f_hB_2, f_hB_3, f_hB_4, f_hB_5, f_hB_6, f_hB_7⟩ := id hB
  have l_hC := hC.lt
  obtain ⟨f_hC_0, f_hC_1, f_hC_2, f_hC_3, f_hC_4, f_hC_5, f_hC_6, f_hC_7⟩ := id hC
  have l_hD := hD.lt
  obtain ⟨f_hD_0, f_hD_1, f_hD_2, f_hD_3, f_hD_4, f_hD_5, f_hD_6, f_hD_7⟩ := id hD
  have l_hP := hP.lt
  obtain ⟨f_hP_0, f_hP_1, f_hP_2, f_hP_3, f_hP_4, f_hP_5, f_hP_6, f_hP_7⟩ := id hP
  have HB := Lib.hid (HB.out.alloc HB.out.size (.cells #[.int .i64 b.x0.m, .int .i64 b.x0.s, .int .i64 b.y0.m, .int .i64 b.y0.s, .int .i64 b.x1.m, .int .i64 b.x1.s, .int .i64 b.y1.m, .int .i64 b.y1.s] 25))
  have hA := hA.old (.cells #[.int .i64 b.x0.m, .int .i64 b.x0.s, .int .i64 b.y0.m, .int .i64 b.y0.s, .int .i64 b.x1.m, .int .i64 b.x1.s, .int .i64 b.y1.m, .int .i64 b.y1.s] 25)
  have hB := hB.old (.cells #[.int .i64 b.x0.m, .int .i64 b.x0.s, .int .i64 b.y0.m, .int .i64 b.y0.s, .int .i64 b.x1.m, .int .i64 b.x1.s, .int .i64 b.y1.m, .int .i64 b.y1.s] 25)
  have hC := hC.old (.cells #[.int .i64 b.x0.m, .int .i64 b.x0.s, .int .i64 b.y0.m, .int .i64 b.y0.s, .int .i64 b.x1.m, .int .i64 b.x1.s, .int .i64 b.y1.m, .int .i64 b.y1.s] 25)
  have hD := hD.old (.cells #[.int .i64 b.x0.m, .int .i64 b.x0.s, .int .i64 b.y0.m, .int .i64 b.y0.s, .int .i64 b.x1.m, .int .i64 b.x1.s, .int .i64 b.y1.m, .int .i64 b.y1.s] 25)
  have hP := hP.old (.cells #[.int .i64 b.x0.m, .int .i64 b.x0.s, .int .i64 b.y0.m, .int .i64 b.y0.s, .int .i64 b.x1.m, .int .i64 b.x1.s, .int .i64 b.y1.m, .int .i64 b.y1.s] 25)
  have hQ := BIn.made w10 25 b
  go_wp2_with fail
  refine (bawake_any _).mono ?_
  rintro e w11 ⟨rfl, k⟩
  have HB := Lib.hid (HB.out.trans (k.mono HB.out.size))
  have hA := hA.later k
  have hB := hB.later k
  have hC := hC.later k
  have hD := hD.later k
  have hP := hP.later k
  have hQ := hQ.later k
  clear k
  clear l_hA f_hA_0 f_hA_1 f_hA_2 f_hA_3 f_hA_4 f_hA_5 f_hA_6 f_hA_7 l_hB f_hB_0 f_hB_1 f_hB_2 f_hB_3 f_hB_4 f_hB_5 f_hB_6 f_hB_7 l_hC f_hC_0 f_hC_1 f_hC_2 f_hC_3 f_hC_4 f_hC_5 f_hC_6 f_hC_7 l_hD f_hD_0 f_hD_1 f_hD_2 f_hD_3 f_hD_4 f_hD_5 f_hD_6 f_hD_7 l_hP f_hP_0 f_hP_1 f_hP_2 f_hP_3 f_hP_4 f_hP_5 f_hP_6 f_hP_7
  have l_hA := hA.lt
  obtain ⟨f_hA_0, f_hA_1, f_hA_2, f_hA_3, f_hA_4, f_hA_5, f_hA_6, f_hA_7⟩ := id hA
  have l_hB := hB.lt
  obtain ⟨f_hB_0, f_hB_1, f_hB_2, f_hB_3, f_hB_4, f_hB_5, f_hB_6, f_hB_7⟩ := id hB
  have l_hC := hC.lt
  obtain ⟨f_hC_0, f_hC_1, f_hC_2, f_hC_3, f_hC_4, f_hC_5, f_hC_6, f_hC_7⟩ := id hC
  have l_hD := hD.lt
  obtain ⟨f_hD_0, f_hD_1, f_hD_2, f_hD_3, f_hD_4, f_hD_5, f_hD_6, f_hD_7⟩ := id hD
  have l_hP := hP.lt
  obtain ⟨f_hP_0, f_hP_1, f_hP_2, f_hP_3, f_hP_4, f_hP_5, f_hP_6, f_hP_7⟩ := id hP
  have l_hQ := hQ.lt
  obtain ⟨f_hQ_0, f_hQ_1, f_hQ_2, f_hQ_3, f_hQ_4, f_hQ_5, f_hQ_6, f_hQ_7⟩ := id hQ
  go_wp2_with fail
  refine (bcheck_any d _ 0 h4.out).mono ?_
  rintro e w12 ⟨rfl, k⟩
  have HB := Lib.hid (HB.out.trans (k.mono HB.out.size))
  have hA := hA.later k
  have hB := hB.later k
  have hC := hC.later k
  have hD := hD.later k
  have hP := hP.later k
  have hQ := hQ.later k
  clear k
  clear l_hA f_hA_0 f_hA_1 f_hA_2 f_hA_3 f_hA_4 f_hA_5 f_hA_6 f_hA_7 l_hB f_hB_0 f_hB_1 f_hB_2 f_hB_3 f_hB_4 f_hB_5 f_hB_6 f_hB_7 l_hC f_hC_0 f_hC_1 f_hC_2 f_hC_3 f_hC_4 f_hC_5 f_hC_6 f_hC_7 l_hD f_hD_0 f_hD_1 f_hD_2 f_hD_3 f_hD_4 f_hD_5 f_hD_6 f_hD_7 l_hP f_hP_0 f_hP_1 f_hP_2 f_hP_3 f_hP_4 f_hP_5 f_hP_6 f_hP_7 l_hQ f_hQ_0 f_hQ_1 f_hQ_2 f_hQ_3 f_hQ_4 f_hQ_5 f_hQ_6 f_hQ_7
  have l_hA := hA.lt
  obtain ⟨f_hA_0, f_hA_1, f_hA_2, f_hA_3, f_hA_4, f_hA_5, f_hA_6, f_hA_7⟩ := id hA
  have l_hB := hB.lt
  obtain ⟨f_hB_0, f_hB_1, f_hB_2, f_hB_3, f_hB_4, f_hB_5, f_hB_6, f_hB_7⟩ := id hB
  have l_hC := hC.lt
  obtain ⟨f_hC_0, f_hC_1, f_hC_2, f_hC_3, f_hC_4, f_hC_5, f_hC_6, f_hC_7⟩ := id hC
  have l_hD := hD.lt
  obtain ⟨f_hD_0, f_hD_1, f_hD_2, f_hD_3, f_hD_4, f_hD_5, f_hD_6, f_hD_7⟩ := id hD
  have l_hP := hP.lt
  obtain ⟨f_hP_0, f_hP_1, f_hP_2, f_hP_3, f_hP_4, f_hP_5, f_hP_6, f_hP_7⟩ := id hP
  have l_hQ := hQ.lt
  obtain ⟨f_hQ_0, f_hQ_1, f_hQ_2, f_hQ_3, f_hQ_4, f_hQ_5, f_hQ_6, f_hQ_7⟩ := id hQ
  go_wp2
  go_ret
  refine ⟨by first | rfl | (simp; done) | (simp; omega), ?_⟩
  (repeat (first | with_reducible refine Below.drew ?_ | with_reducible refine bdrewN ?_ _ | (with_reducible refine Below.setCell ?_ ?_ _; rotate_left; focus (first | exact Nat.le_refl _ | omega | (simp; omega) | (simp; done))) | (with_reducible refine Below.alloc ?_ ?_ _; rotate_left; focus (first | exact Nat.le_refl _ | omega | (simp; omega) | (simp; done))))); with_reducible exact HB.out
set_option maxRecDepth 100000 in
set_option maxHeartbeats 16000000 in
theorem bm_good_f1 (a b c d : BV) (w : World) (h1 : Hid (ChkIs a 0)) (h2 : Hid (ChkIs b 0)) (h3 : Hid (ChkIs c 0)) (m1 : Hid (MeetIs a b false 0)) (m2 : Hid (MeetIs b a false 0)) (m3 : Hid (MeetIs a a true 0)) (j1 : Hid (BothIs b c d 0)) (m4 : Hid (MeetIs a d true 0)) (j2 : Hid (BothIs c b d 0)) (j3 : Hid (BothIs b b b 0)) (h4 : Hid (ChkIs d 0)) :
    Calls Try.prog 3 #[a.val, b.val, c.val] w fun e w' => e = .returned (.bool true) ∧ Below w.heap.size w w' := by
  go_enter Try.func3, Try.ntmps3
  have hA := ((BIn.made w 25 a).old (.cells #[.int .i64 b.x0.m, .int .i64 b.x0.s, .int .i64 b.y0.m, .int .i64 b.y0.s, .int .i64 b.x1.m, .int .i64 b.x1.s, .int .i64 b.y1.m, .int .i64 b.y1.s] 25)).old (.cells #[.int .i64 c.x0.m, .int .i64 c.x0.s, .int .i64 c.y0.m, .int .i64 c.y0.s, .int .i64 c.x1.m, .int .i64 c.x1.s, .int .i64 c.y1.m, .int .i64 c.y1.s] 25)
  have hB := (BIn.made (w.alloc (.cells #[.int .i64 a.x0.m, .int .i64 a.x0.s, .int .i64 a.y0.m, .int .i64 a.y0.s, .int .i64 a.x1.m, .int .i64 a.x1.s, .int .i64 a.y1.m, .int .i64 a.y1.s] 25)) 25 b).old (.cells #[.int .i64 c.x0.m, .int .i64 c.x0.s, .int .i64 c.y0.m, .int .i64 c.y0.s, .int .i64 c.x1.m, .int .i64 c.x1.s, .int .i64 c.y1.m, .int .i64 c.y1.s] 25)
  have hC := BIn.made ((w.alloc (.cells #[.int .i64 a.x0.m, .int .i64 a.x0.s, .int .i64 a.y0.m, .int .i64 a.y0.s, .int .i64 a.x1.m, .int .i64 a.x1.s, .int .i64 a.y1.m, .int .i64 a.y1.s] 25)).alloc (.cells #[.int .i64 b.x0.m, .int .i64 b.x0.s, .int .i64 b.y0.m, .int .i64 b.y0.s, .int .i64 b.x1.m, .int .i64 b.x1.s, .int .i64 b.y1.m, .int .i64 b.y1.s] 25)) 25 c
  simp only [World.size_alloc] at hB hC
  have HB : Hid (Below w.heap.size w (((w.alloc (.cells #[.int .i64 a.x0.m, .int .i64 a.x0.s, .int .i64 a.y0.m, .int .i64 a.y0.s, .int .i64 a.x1.m, .int .i64 a.x1.s, .int .i64 a.y1.m, .int .i64 a.y1.s] 25)).alloc (.cells #[.int .i64 b.x0.m, .int .i64 b.x0.s, .int .i64 b.y0.m, .int .i64 b.y0.s, .int .i64 b.x1.m, .int .i64 b.x1.s, .int .i64 b.y1.m, .int .i64 b.y1.s] 25)).alloc (.cells #[.int .i64 c.x0.m, .int .i64 c.x0.s, .int .i64 c.y0.m, .int .i64 c.y0.s, .int .i64 c.x1.m, .int .i64 c.x1.s, .int .i64 c.y1.m, .int .i64 c.y1.s] 25))) := by
    unfold Hid
    (repeat (first | with_reducible exact Below.refl _ _ | with_reducible refine Below.drew ?_ | with_reducible refine bdrewN ?_ _ | (with_reducible refine Below.setCell ?_ ?_ _; rotate_left; focus (first | exact Nat.le_refl _ | omega | (simp; omega) | (simp; done))) | (with_reducible refine Below.alloc ?_ ?_ _; rotate_left; focus (first | exact Nat.le_refl _ | omega | (simp; omega) | (simp; done))) | (with_reducible refine Below.trans ?_ (Below.mono (by assumption) ?_); rotate_left; focus (first | exact Nat.le_refl _ | omega | (simp; omega) | (simp; done)))))
  go_wp2_with fail
  refine (bcheck_any a _ 0 h1.out).mono ?_
  rintro e w1 ⟨rfl, k⟩
  have HB := Lib.hid (HB.out.trans (k.mono HB.out.size))
  have hA := hA.later k
  have hB := hB.later k
  have hC := hC.later k
  clear k
  have l_hA := hA.lt
  obtain ⟨f_hA_0, f_hA_1, f_hA_2, f_hA_3, f_hA_4, f_hA_5, f_hA_6, f_hA_7⟩ := id hA
  have l_hB := hB.lt
  obtain ⟨f_hB_0, f_hB_1, f_hB_2, f_hB_3, f_hB_4, f_hB_5, f_hB_6, f_hB_7⟩ := id hB
  have l_hC := hC.lt
  obtain ⟨f_hC_0, f_hC_1, f_hC_2, f_hC_3, f_hC_4, f_hC_5, f_hC_6, f_hC_7⟩ := id hC
  go_wp2_with fail
  refine (bcheck_any b _ 0 h2.out).mono ?_
  rintro e w2 ⟨rfl, k⟩
  have HB := Lib.hid (HB.out.trans (k.mono HB.out.size))
  have hA := hA.later k
  have hB := hB.later k
  have hC := hC.later k
  clear k
  clear l_hA f_hA_0 f_hA_1 f_hA_2 f_hA_3 f_hA_4 f_hA_5 f_hA_6 f_hA_7 l_hB f_hB_0 f_hB_1 f_hB_2 f_hB_3 f_hB_4 f_hB_5 f_hB_6 f_hB_7 l_hC f_hC_0 f_hC_1 f_hC_2 f_hC_3 f_hC_4 f_hC_5 f_hC_6 f_hC_7
  have l_hA := hA.lt
  obtain ⟨f_hA_0, f_hA_1, f_hA_2, f_hA_3, f_hA_4, f_hA_5, f_hA_6, f_hA_7⟩ := id hA
  have l_hB := hB.lt
  obtain ⟨f_hB_0, f_hB_1, f_hB_2, f_hB_3, f_hB_4, f_hB_5, f_hB_6, f_hB_7⟩ := id hB
  have l_hC := hC.lt
  obtain ⟨f_hC_0, f_hC_1, f_hC_2, f_hC_3, f_hC_4, f_hC_5, f_hC_6, f_hC_7⟩ := id hC
  go_wp2_with fail
  refine (bcheck_any c _ 0 h3.out).mono ?_
  rintro e w3 ⟨rfl, k⟩
  have HB := Lib.hid (HB.out.trans (k.mono HB.out.size))
  have hA := hA.later k
  have hB := hB.later k
  have hC := hC.later k
  clear k
  clear l_hA f_hA_0 f_hA_1 f_hA_2 f_hA_3 f_hA_4 f_hA_5 f_hA_6 f_hA_7 l_hB f_hB_0 f_hB_1 f_hB_2 f_hB_3 f_hB_4 f_hB_5 f_hB_6 f_hB_7 l_hC f_hC_0 f_hC_1 f_hC_2 f_hC_3 f_hC_4 f_hC_5 f_hC_6 f_hC_7
  have l_hA := hA.lt
  obtain ⟨f_hA_0, f_hA_1, f_hA_2, f_hA_3, f_hA_4, f_hA_5, f_hA_6, f_hA_7⟩ := id hA
  have l_hB := hB.lt
  obtain ⟨f_hB_0, f_hB_1, f_hB_2, f_hB_3, f_hB_4, f_hB_5, f_hB_6, f_hB_7⟩ := id hB
  have l_hC := hC.lt
  obtain ⟨f_hC_0, f_hC_1, f_hC_2, f_hC_3, f_hC_4, f_hC_5, f_hC_6, f_hC_7⟩ := id hC
  go_wp2_with fail
  refine (meets_any a b _ false 0 m1.out).mono ?_
  rintro e w4 ⟨rfl, k⟩
  have HB := Lib.hid (HB.out.trans (k.mono HB.out.size))
  have hA := hA.later k
  have hB := hB.later k
  have hC := hC.later k
  clear k
  clear l_hA f_hA_0 f_hA_1 f_hA_2 f_hA_3 f_hA_4 f_hA_5 f_hA_6 f_hA_7 l_hB f_hB_0 f_hB_1 f_hB_2 f_hB_3 f_hB_4 f_hB_5 f_hB_6 f_hB_7 l_hC f_hC_0 f_hC_1 f_hC_2 f_hC_3 f_hC_4 f_hC_5 f_hC_6 f_hC_7
  have l_hA := hA.lt
  obtain ⟨f_hA_0, f_hA_1, f_hA_2, f_hA_3, f_hA_4, f_hA_5, f_hA_6, f_hA_7⟩ := id hA
  have l_hB := hB.lt
  obtain ⟨f_hB_0, f_hB_1, f_hB_2, f_hB_3, f_hB_4, f_hB_5, f_hB_6, f_hB_7⟩ := id hB
  have l_hC := hC.lt
  obtain ⟨f_hC_0, f_hC_1, f_hC_2, f_hC_3, f_hC_4, f_hC_5, f_hC_6, f_hC_7⟩ := id hC
  go_wp2_with fail
  refine (meets_any b a _ false 0 m2.out).mono ?_
  rintro e w5 ⟨rfl, k⟩
  have HB := Lib.hid (HB.out.trans (k.mono HB.out.size))
  have hA := hA.later k
  have hB := hB.later k
  have hC := hC.later k
  clear k
  clear l_hA f_hA_0 f_hA_1 f_hA_2 f_hA_3 f_hA_4 f_hA_5 f_hA_6 f_hA_7 l_hB f_hB_0 f_hB_1 f_hB_2 f_hB_3 f_hB_4 f_hB_5 f_hB_6 f_hB_7 l_hC f_hC_0 f_hC_1 f_hC_2 f_hC_3 f_hC_4 f_hC_5 f_hC_6 f_hC_7
  have l_hA := hA.lt
  obtain ⟨f_hA_0, f_hA_1, f_hA_2, f_hA_3, f_hA_4, f_hA_5, f_hA_6, f_hA_7⟩ := id hA
  have l_hB := hB.lt
  obtain ⟨f_hB_0, f_hB_1, f_hB_2, f_hB_3, f_hB_4, f_hB_5, f_hB_6, f_hB_7⟩ := id hB
  have l_hC := hC.lt
  obtain ⟨f_hC_0, f_hC_1, f_hC_2, f_hC_3, f_hC_4, f_hC_5, f_hC_6, f_hC_7⟩ := id hC
  go_wp2_with fail
  refine (meets_any a a _ true 0 m3.out).mono ?_
  rintro e w6 ⟨rfl, k⟩
  have HB := Lib.hid (HB.out.trans (k.mono HB.out.size))
  have hA := hA.later k
  have hB := hB.later k
  have hC := hC.later k
  clear k
  clear l_hA f_hA_0 f_hA_1 f_hA_2 f_hA_3 f_hA_4 f_hA_5 f_hA_6 f_hA_7 l_hB f_hB_0 f_hB_1 f_hB_2 f_hB_3 f_hB_4 f_hB_5 f_hB_6 f_hB_7 l_hC f_hC_0 f_hC_1 f_hC_2 f_hC_3 f_hC_4 f_hC_5 f_hC_6 f_hC_7
  have l_hA := hA.lt
  obtain ⟨f_hA_0, f_hA_1, f_hA_2, f_hA_3, f_hA_4, f_hA_5, f_hA_6, f_hA_7⟩ := id hA
  have l_hB := hB.lt
  obtain ⟨f_hB_0, f_hB_1, f_hB_2, f_hB_3, f_hB_4, f_hB_5, f_hB_6, f_hB_7⟩ := id hB
  have l_hC := hC.lt
  obtain ⟨f_hC_0, f_hC_1, f_hC_2, f_hC_3, f_hC_4, f_hC_5, f_hC_6, f_hC_7⟩ := id hC
  go_wp2_with fail
  refine (both_any b c d 0 _ j1.out).mono ?_
  rintro e w7 ⟨rfl, k⟩
  have HB := Lib.hid (HB.out.trans (k.mono HB.out.size))
  have hA := hA.later k
  have hB := hB.later k
  have hC := hC.later k
  clear k
  clear l_hA f_hA_0 f_hA_1 f_hA_2 f_hA_3 f_hA_4 f_hA_5 f_hA_6 f_hA_7 l_hB f_hB_0 f_hB_1 f_hB_2 f_hB_3 f_hB_4 f_hB_5 f_hB_6 f_hB_7 l_hC f_hC_0 f_hC_1 f_hC_2 f_hC_3 f_hC_4 f_hC_5 f_hC_6 f_hC_7
  have l_hA := hA.lt
  obtain ⟨f_hA_0, f_hA_1, f_hA_2, f_hA_3, f_hA_4, f_hA_5, f_hA_6, f_hA_7⟩ := id hA
  have l_hB := hB.lt
  obtain ⟨f_hB_0, f_hB_1, f_hB_2, f_hB_3, f_hB_4, f_hB_5, f_hB_6, f_hB_7⟩ := id hB
  have l_hC := hC.lt
  obtain ⟨f_hC_0, f_hC_1, f_hC_2, f_hC_3, f_hC_4, f_hC_5, f_hC_6, f_hC_7⟩ := id hC
  have HB := Lib.hid (HB.out.alloc HB.out.size (.cells #[.int .i64 d.x0.m, .int .i64 d.x0.s, .int .i64 d.y0.m, .int .i64 d.y0.s, .int .i64 d.x1.m, .int .i64 d.x1.s, .int .i64 d.y1.m, .int .i64 d.y1.s] 25))
  have hA := hA.old (.cells #[.int .i64 d.x0.m, .int .i64 d.x0.s, .int .i64 d.y0.m, .int .i64 d.y0.s, .int .i64 d.x1.m, .int .i64 d.x1.s, .int .i64 d.y1.m, .int .i64 d.y1.s] 25)
  have hB := hB.old (.cells #[.int .i64 d.x0.m, .int .i64 d.x0.s, .int .i64 d.y0.m, .int .i64 d.y0.s, .int .i64 d.x1.m, .int .i64 d.x1.s, .int .i64 d.y1.m, .int .i64 d.y1.s] 25)
  have hC := hC.old (.cells #[.int .i64 d.x0.m, .int .i64 d.x0.s, .int .i64 d.y0.m, .int .i64 d.y0.s, .int .i64 d.x1.m, .int .i64 d.x1.s, .int .i64 d.y1.m, .int .i64 d.y1.s] 25)
  have hD := BIn.made w7 25 d
  go_wp2_with fail
  refine (meets_any a d _ true 0 m4.out).mono ?_
  rintro e w8 ⟨rfl, k⟩
  have HB := Lib.hid (HB.out.trans (k.mono HB.out.size))
  have hA := hA.later k
  have hB := hB.later k
  have hC := hC.later k
  have hD := hD.later k
  clear k
  clear l_hA f_hA_0 f_hA_1 f_hA_2 f_hA_3 f_hA_4 f_hA_5 f_hA_6 f_hA_7 l_hB f_hB_0 f_hB_1 f_hB_2 f_hB_3 f_hB_4 f_hB_5 f_hB_6 f_hB_7 l_hC f_hC_0 f_hC_1 f_hC_2 f_hC_3 f_hC_4 f_hC_5 f_hC_6 f_hC_7
  have l_hA := hA.lt
  obtain ⟨f_hA_0, f_hA_1, f_hA_2, f_hA_3, f_hA_4, f_hA_5, f_hA_6, f_hA_7⟩ := id hA
  have l_hB := hB.lt
  obtain ⟨f_hB_0, f_hB_1, f_hB_2, f_hB_3, f_hB_4, f_hB_5, f_hB_6, f_hB_7⟩ := id hB
  have l_hC := hC.lt
  obtain ⟨f_hC_0, f_hC_1, f_hC_2, f_hC_3, f_hC_4, f_hC_5, f_hC_6, f_hC_7⟩ := id hC
  have l_hD := hD.lt
  obtain ⟨f_hD_0, f_hD_1, f_hD_2, f_hD_3, f_hD_4, f_hD_5, f_hD_6, f_hD_7⟩ := id hD
  go_wp2_with fail
  refine (both_any c b d 0 _ j2.out).mono ?_
  rintro e w9 ⟨rfl, k⟩
  have HB := Lib.hid (HB.out.trans (k.mono HB.out.size))
  have hA := hA.later k
  have hB := hB.later k
  have hC := hC.later k
  have hD := hD.later k
  clear k
  clear l_hA f_hA_0 f_hA_1 f_hA_2 f_hA_3 f_hA_4 f_hA_5 f_hA_6 f_hA_7 l_hB f_hB_0 f_hB_1 f_hB_2 f_hB_3 f_hB_4 f_hB_5 f_hB_6 f_hB_7 l_hC f_hC_0 f_hC_1 f_hC_2 f_hC_3 f_hC_4 f_hC_5 f_hC_6 f_hC_7 l_hD f_hD_0 f_hD_1 f_hD_2 f_hD_3 f_hD_4 f_hD_5 f_hD_6 f_hD_7
  have l_hA := hA.lt
  obtain ⟨f_hA_0, f_hA_1, f_hA_2, f_hA_3, f_hA_4, f_hA_5, f_hA_6, f_hA_7⟩ := id hA
  have l_hB := hB.lt
  obtain ⟨f_hB_0, f_hB_1, f_hB_2, f_hB_3, f_hB_4, f_hB_5, f_hB_6, f_hB_7⟩ := id hB
  have l_hC := hC.lt
  obtain ⟨f_hC_0, f_hC_1, f_hC_2, f_hC_3, f_hC_4, f_hC_5, f_hC_6, f_hC_7⟩ := id hC
  have l_hD := hD.lt
  obtain ⟨f_hD_0, f_hD_1, f_hD_2, f_hD_3, f_hD_4, f_hD_5, f_hD_6, f_hD_7⟩ := id hD
  have HB := Lib.hid (HB.out.alloc HB.out.size (.cells #[.int .i64 d.x0.m, .int .i64 d.x0.s, .int .i64 d.y0.m, .int .i64 d.y0.s, .int .i64 d.x1.m, .int .i64 d.x1.s, .int .i64 d.y1.m, .int .i64 d.y1.s] 25))
  have hA := hA.old (.cells #[.int .i64 d.x0.m, .int .i64 d.x0.s, .int .i64 d.y0.m, .int .i64 d.y0.s, .int .i64 d.x1.m, .int .i64 d.x1.s, .int .i64 d.y1.m, .int .i64 d.y1.s] 25)
  have hB := hB.old (.cells #[.int .i64 d.x0.m, .int .i64 d.x0.s, .int .i64 d.y0.m, .int .i64 d.y0.s, .int .i64 d.x1.m, .int .i64 d.x1.s, .int .i64 d.y1.m, .int .i64 d.y1.s] 25)
  have hC := hC.old (.cells #[.int .i64 d.x0.m, .int .i64 d.x0.s, .int .i64 d.y0.m, .int .i64 d.y0.s, .int .i64 d.x1.m, .int .i64 d.x1.s, .int .i64 d.y1.m, .int .i64 d.y1.s] 25)
  have hD := hD.old (.cells #[.int .i64 d.x0.m, .int .i64 d.x0.s, .int .i64 d.y0.m, .int .i64 d.y0.s, .int .i64 d.x1.m, .int .i64 d.x1.s, .int .i64 d.y1.m, .int .i64 d.y1.s] 25)
  have hP := BIn.made w9 25 d
  go_wp2_with fail
  refine (both_any b b b 0 _ j3.out).mono ?_
  rintro e w10 ⟨rfl, k⟩
  have HB := Lib.hid (HB.out.trans (k.mono HB.out.size))
  have hA := hA.later k
  have hB := hB.later k
  have hC := hC.later k
  have hD := hD.later k
  have hP := hP.later k
  clear k
  clear l_hA f_hA_0 f_hA_1 f_hA_2 f_hA_3 f_hA_4 f_hA_5 f_hA_6 f_hA_7 l_hB f_hB_0 f_hB_1 f_hB_2 f_hB_3 f_hB_4 f_hB_5 f_hB_6 f_hB_7 l_hC f_hC_0 f_hC_1 f_hC_2 f_hC_3 f_hC_4 f_hC_5 f_hC_6 f_hC_7 l_hD f_hD_0 f_hD_1 f_hD_2 f_hD_3 f_hD_4 f_hD_5 f_hD_6 f_hD_7
  have l_hA := hA.lt
  obtain ⟨f_hA_0, f_hA_1, f_hA_2, f_hA_3, f_hA_4, f_hA_5, f_hA_6, f_hA_7⟩ := id hA
  have l_hB := hB.lt
  obtain ⟨f_hB_0, f_hB_1, f_hB_2, f_hB_3, f_hB_4, f_hB_5, f_hB_6, f_hB_7⟩ := id hB
  have l_hC := hC.lt
  obtain ⟨f_hC_0, f_hC_1, f_hC_2, f_hC_3, f_hC_4, f_hC_5, f_hC_6, f_hC_7⟩ := id hC
  have l_hD := hD.lt
  obtain ⟨f_hD_0, f_hD_1, f_hD_2, f_hD_3, f_hD_4, f_hD_5, f_hD_6, f_hD_7⟩ := id hD
  have l_hP := hP.lt
  obtain ⟨f_hP_0, f_hP_1, f_hP_2, f_hP_3, f_hP_4, f_hP_5, f_hP_6, f_hP_7⟩ := id hP
  have HB := Lib.hid (HB.out.alloc HB.out.size (.cells #[.int .i64 b.x0.m, .int .i64 b.x0.s, .int .i64 b.y0.m, .int .i64 b.y0.s, .int .i64 b.x1.m, .int .i64 b.x1.s, .int .i64 b.y1.m, .int .i64 b.y1.s] 25))
  have hA := hA.old (.cells #[.int .i64 b.x0.m, .int .i64 b.x0.s, .int .i64 b.y0.m, .int .i64 b.y0.s, .int .i64 b.x1.m, .int .i64 b.x1.s, .int .i64 b.y1.m, .int .i64 b.y1.s] 25)
  have hB := hB.old (.cells #[.int .i64 b.x0.m, .int .i64 b.x0.s, .int .i64 b.y0.m, .int .i64 b.y0.s, .int .i64 b.x1.m, .int .i64 b.x1.s, .int .i64 b.y1.m, .int .i64 b.y1.s] 25)
  have hC := hC.old (.cells #[.int .i64 b.x0.m, .int .i64 b.x0.s, .int .i64 b.y0.m, .int .i64 b.y0.s, .int .i64 b.x1.m, .int .i64 b.x1.s, .int .i64 b.y1.m, .int .i64 b.y1.s] 25)
  have hD := hD.old (.cells #[.int .i64 b.x0.m, .int .i64 b.x0.s, .int .i64 b.y0.m, .int .i64 b.y0.s, .int .i64 b.x1.m, .int .i64 b.x1.s, .int .i64 b.y1.m, .int .i64 b.y1.s] 25)
  have hP := hP.old (.cells #[.int .i64 b.x0.m, .int .i64 b.x0.s, .int .i64 b.y0.m, .int .i64 b.y0.s, .int .i64 b.x1.m, .int .i64 b.x1.s, .int .i64 b.y1.m, .int .i64 b.y1.s] 25)
  have hQ := BIn.made w10 25 b
  go_wp2_with fail
  refine (bawake_any _).mono ?_
  rintro e w11 ⟨rfl, k⟩
  have HB := Lib.hid (HB.out.trans (k.mono HB.out.size))
  have hA := hA.later k
  have hB := hB.later k
  have hC := hC.later k
  have hD := hD.later k
  have hP := hP.later k
  have hQ := hQ.later k
  clear k
  clear l_hA f_hA_0 f_hA_1 f_hA_2 f_hA_3 f_hA_4 f_hA_5 f_hA_6 f_hA_7 l_hB f_hB_0 f_hB_1 f_hB_2 f_hB_3 f_hB_4 f_hB_5 f_hB_6 f_hB_7 l_hC f_hC_0 f_hC_1 f_hC_2 f_hC_3 f_hC_4 f_hC_5 f_hC_6 f_hC_7 l_hD f_hD_0 f_hD_1 f_hD_2 f_hD_3 f_hD_4 f_hD_5 f_hD_6 f_hD_7 l_hP f_hP_0 f_hP_1 f_hP_2 f_hP_3 f_hP_4 f_hP_5 f_hP_6 f_hP_7
  have l_hA := hA.lt
  obtain ⟨f_hA_0, f_hA_1, f_hA_2, f_hA_3, f_hA_4, f_hA_5, f_hA_6, f_hA_7⟩ := id hA
  have l_hB := hB.lt
  obtain ⟨f_hB_0, f_hB_1, f_hB_2, f_hB_3, f_hB_4, f_hB_5, f_hB_6, f_hB_7⟩ := id hB
  have l_hC := hC.lt
  obtain ⟨f_hC_0, f_hC_1, f_hC_2, f_hC_3, f_hC_4, f_hC_5, f_hC_6, f_hC_7⟩ := id hC
  have l_hD := hD.lt
  obtain ⟨f_hD_0, f_hD_1, f_hD_2, f_hD_3, f_hD_4, f_hD_5, f_hD_6, f_hD_7⟩ := id hD
  have l_hP := hP.lt
  obtain ⟨f_hP_0, f_hP_1, f_hP_2, f_hP_3, f_hP_4, f_hP_5, f_hP_6, f_hP_7⟩ := id hP
  have l_hQ := hQ.lt
  obtain ⟨f_hQ_0, f_hQ_1, f_hQ_2, f_hQ_3, f_hQ_4, f_hQ_5, f_hQ_6, f_hQ_7⟩ := id hQ
  go_wp2_with fail
  refine (bcheck_any d _ 0 h4.out).mono ?_
  rintro e w12 ⟨rfl, k⟩
  have HB := Lib.hid (HB.out.trans (k.mono HB.out.size))
  have hA := hA.later k
  have hB := hB.later k
  have hC := hC.later k
  have hD := hD.later k
  have hP := hP.later k
  have hQ := hQ.later k
  clear k
  clear l_hA f_hA_0 f_hA_1 f_hA_2 f_hA_3 f_hA_4 f_hA_5 f_hA_6 f_hA_7 l_hB f_hB_0 f_hB_1 f_hB_2 f_hB_3 f_hB_4 f_hB_5 f_hB_6 f_hB_7 l_hC f_hC_0 f_hC_1 f_hC_2 f_hC_3 f_hC_4 f_hC_5 f_hC_6 f_hC_7 l_hD f_hD_0 f_hD_1 f_hD_2 f_hD_3 f_hD_4 f_hD_5 f_hD_6 f_hD_7 l_hP f_hP_0 f_hP_1 f_hP_2 f_hP_3 f_hP_4 f_hP_5 f_hP_6 f_hP_7 l_hQ f_hQ_0 f_hQ_1 f_hQ_2 f_hQ_3 f_hQ_4 f_hQ_5 f_hQ_6 f_hQ_7
  have l_hA := hA.lt
  obtain ⟨f_hA_0, f_hA_1, f_hA_2, f_hA_3, f_hA_4, f_hA_5, f_hA_6, f_hA_7⟩ := id hA
  have l_hB := hB.lt
  obtain ⟨f_hB_0, f_hB_1, f_hB_2, f_hB_3, f_hB_4, f_hB_5, f_hB_6, f_hB_7⟩ := id hB
  have l_hC := hC.lt
  obtain ⟨f_hC_0, f_hC_1, f_hC_2, f_hC_3, f_hC_4, f_hC_5, f_hC_6, f_hC_7⟩ := id hC
  have l_hD := hD.lt
  obtain ⟨f_hD_0, f_hD_1, f_hD_2, f_hD_3, f_hD_4, f_hD_5, f_hD_6, f_hD_7⟩ := id hD
  have l_hP := hP.lt
  obtain ⟨f_hP_0, f_hP_1, f_hP_2, f_hP_3, f_hP_4, f_hP_5, f_hP_6, f_hP_7⟩ := id hP
  have l_hQ := hQ.lt
  obtain ⟨f_hQ_0, f_hQ_1, f_hQ_2, f_hQ_3, f_hQ_4, f_hQ_5, f_hQ_6, f_hQ_7⟩ := id hQ
  go_wp2
  go_ret
  refine ⟨by first | rfl | (simp; done) | (simp; omega), ?_⟩
  (repeat (first | with_reducible refine Below.drew ?_ | with_reducible refine bdrewN ?_ _ | (with_reducible refine Below.setCell ?_ ?_ _; rotate_left; focus (first | exact Nat.le_refl _ | omega | (simp; omega) | (simp; done))) | (with_reducible refine Below.alloc ?_ ?_ _; rotate_left; focus (first | exact Nat.le_refl _ | omega | (simp; omega) | (simp; done))))); with_reducible exact HB.out
set_option maxRecDepth 100000 in
set_option maxHeartbeats 16000000 in
theorem bm_good_t (a b c d : BV) (w : World) (h1 : Hid (ChkIs a 0)) (h2 : Hid (ChkIs b 0)) (h3 : Hid (ChkIs c 0)) (m1 : Hid (MeetIs a b true 0)) (m2 : Hid (MeetIs b a true 0)) (m3 : Hid (MeetIs a a true 0)) (j1 : Hid (BothIs b c d 0)) (m4 : Hid (MeetIs a d true 0)) (j2 : Hid (BothIs c b d 0)) (j3 : Hid (BothIs b b b 0)) (h4 : Hid (ChkIs d 0)) :
    Calls Try.prog 3 #[a.val, b.val, c.val] w fun e w' => e = .returned (.bool true) ∧ Below w.heap.size w w' := by
  go_enter Try.func3, Try.ntmps3
  have hA := ((BIn.made w 25 a).old (.cells #[.int .i64 b.x0.m, .int .i64 b.x0.s, .int .i64 b.y0.m, .int .i64 b.y0.s, .int .i64 b.x1.m, .int .i64 b.x1.s, .int .i64 b.y1.m, .int .i64 b.y1.s] 25)).old (.cells #[.int .i64 c.x0.m, .int .i64 c.x0.s, .int .i64 c.y0.m, .int .i64 c.y0.s, .int .i64 c.x1.m, .int .i64 c.x1.s, .int .i64 c.y1.m, .int .i64 c.y1.s] 25)
  have hB := (BIn.made (w.alloc (.cells #[.int .i64 a.x0.m, .int .i64 a.x0.s, .int .i64 a.y0.m, .int .i64 a.y0.s, .int .i64 a.x1.m, .int .i64 a.x1.s, .int .i64 a.y1.m, .int .i64 a.y1.s] 25)) 25 b).old (.cells #[.int .i64 c.x0.m, .int .i64 c.x0.s, .int .i64 c.y0.m, .int .i64 c.y0.s, .int .i64 c.x1.m, .int .i64 c.x1.s, .int .i64 c.y1.m, .int .i64 c.y1.s] 25)
  have hC := BIn.made ((w.alloc (.cells #[.int .i64 a.x0.m, .int .i64 a.x0.s, .int .i64 a.y0.m, .int .i64 a.y0.s, .int .i64 a.x1.m, .int .i64 a.x1.s, .int .i64 a.y1.m, .int .i64 a.y1.s] 25)).alloc (.cells #[.int .i64 b.x0.m, .int .i64 b.x0.s, .int .i64 b.y0.m, .int .i64 b.y0.s, .int .i64 b.x1.m, .int .i64 b.x1.s, .int .i64 b.y1.m, .int .i64 b.y1.s] 25)) 25 c
  simp only [World.size_alloc] at hB hC
  have HB : Hid (Below w.heap.size w (((w.alloc (.cells #[.int .i64 a.x0.m, .int .i64 a.x0.s, .int .i64 a.y0.m, .int .i64 a.y0.s, .int .i64 a.x1.m, .int .i64 a.x1.s, .int .i64 a.y1.m, .int .i64 a.y1.s] 25)).alloc (.cells #[.int .i64 b.x0.m, .int .i64 b.x0.s, .int .i64 b.y0.m, .int .i64 b.y0.s, .int .i64 b.x1.m, .int .i64 b.x1.s, .int .i64 b.y1.m, .int .i64 b.y1.s] 25)).alloc (.cells #[.int .i64 c.x0.m, .int .i64 c.x0.s, .int .i64 c.y0.m, .int .i64 c.y0.s, .int .i64 c.x1.m, .int .i64 c.x1.s, .int .i64 c.y1.m, .int .i64 c.y1.s] 25))) := by
    unfold Hid
    (repeat (first | with_reducible exact Below.refl _ _ | with_reducible refine Below.drew ?_ | with_reducible refine bdrewN ?_ _ | (with_reducible refine Below.setCell ?_ ?_ _; rotate_left; focus (first | exact Nat.le_refl _ | omega | (simp; omega) | (simp; done))) | (with_reducible refine Below.alloc ?_ ?_ _; rotate_left; focus (first | exact Nat.le_refl _ | omega | (simp; omega) | (simp; done))) | (with_reducible refine Below.trans ?_ (Below.mono (by assumption) ?_); rotate_left; focus (first | exact Nat.le_refl _ | omega | (simp; omega) | (simp; done)))))
  go_wp2_with fail
  refine (bcheck_any a _ 0 h1.out).mono ?_
  rintro e w1 ⟨rfl, k⟩
  have HB := Lib.hid (HB.out.trans (k.mono HB.out.size))
  have hA := hA.later k
  have hB := hB.later k
  have hC := hC.later k
  clear k
  have l_hA := hA.lt
  obtain ⟨f_hA_0, f_hA_1, f_hA_2, f_hA_3, f_hA_4, f_hA_5, f_hA_6, f_hA_7⟩ := id hA
  have l_hB := hB.lt
  obtain ⟨f_hB_0, f_hB_1, f_hB_2, f_hB_3, f_hB_4, f_hB_5, f_hB_6, f_hB_7⟩ := id hB
  have l_hC := hC.lt
  obtain ⟨f_hC_0, f_hC_1, f_hC_2, f_hC_3, f_hC_4, f_hC_5, f_hC_6, f_hC_7⟩ := id hC
  go_wp2_with fail
  refine (bcheck_any b _ 0 h2.out).mono ?_
  rintro e w2 ⟨rfl, k⟩
  have HB := Lib.hid (HB.out.trans (k.mono HB.out.size))
  have hA := hA.later k
  have hB := hB.later k
  have hC := hC.later k
  clear k
  clear l_hA f_hA_0 f_hA_1 f_hA_2 f_hA_3 f_hA_4 f_hA_5 f_hA_6 f_hA_7 l_hB f_hB_0 f_hB_1 f_hB_2 f_hB_3 f_hB_4 f_hB_5 f_hB_6 f_hB_7 l_hC f_hC_0 f_hC_1 f_hC_2 f_hC_3 f_hC_4 f_hC_5 f_hC_6 f_hC_7
  have l_hA := hA.lt
  obtain ⟨f_hA_0, f_hA_1, f_hA_2, f_hA_3, f_hA_4, f_hA_5, f_hA_6, f_hA_7⟩ := id hA
  have l_hB := hB.lt
  obtain ⟨f_hB_0, f_hB_1, f_hB_2, f_hB_3, f_hB_4, f_hB_5, f_hB_6, f_hB_7⟩ := id hB
  have l_hC := hC.lt
  obtain ⟨f_hC_0, f_hC_1, f_hC_2, f_hC_3, f_hC_4, f_hC_5, f_hC_6, f_hC_7⟩ := id hC
  go_wp2_with fail
  refine (bcheck_any c _ 0 h3.out).mono ?_
  rintro e w3 ⟨rfl, k⟩
  have HB := Lib.hid (HB.out.trans (k.mono HB.out.size))
  have hA := hA.later k
  have hB := hB.later k
  have hC := hC.later k
  clear k
  clear l_hA f_hA_0 f_hA_1 f_hA_2 f_hA_3 f_hA_4 f_hA_5 f_hA_6 f_hA_7 l_hB f_hB_0 f_hB_1 f_hB_2 f_hB_3 f_hB_4 f_hB_5 f_hB_6 f_hB_7 l_hC f_hC_0 f_hC_1 f_hC_2 f_hC_3 f_hC_4 f_hC_5 f_hC_6 f_hC_7
  have l_hA := hA.lt
  obtain ⟨f_hA_0, f_hA_1, f_hA_2, f_hA_3, f_hA_4, f_hA_5, f_hA_6, f_hA_7⟩ := id hA
  have l_hB := hB.lt
  obtain ⟨f_hB_0, f_hB_1, f_hB_2, f_hB_3, f_hB_4, f_hB_5, f_hB_6, f_hB_7⟩ := id hB
  have l_hC := hC.lt
  obtain ⟨f_hC_0, f_hC_1, f_hC_2, f_hC_3, f_hC_4, f_hC_5, f_hC_6, f_hC_7⟩ := id hC
  go_wp2_with fail
  refine (meets_any a b _ true 0 m1.out).mono ?_
  rintro e w4 ⟨rfl, k⟩
  have HB := Lib.hid (HB.out.trans (k.mono HB.out.size))
  have hA := hA.later k
  have hB := hB.later k
  have hC := hC.later k
  clear k
  clear l_hA f_hA_0 f_hA_1 f_hA_2 f_hA_3 f_hA_4 f_hA_5 f_hA_6 f_hA_7 l_hB f_hB_0 f_hB_1 f_hB_2 f_hB_3 f_hB_4 f_hB_5 f_hB_6 f_hB_7 l_hC f_hC_0 f_hC_1 f_hC_2 f_hC_3 f_hC_4 f_hC_5 f_hC_6 f_hC_7
  have l_hA := hA.lt
  obtain ⟨f_hA_0, f_hA_1, f_hA_2, f_hA_3, f_hA_4, f_hA_5, f_hA_6, f_hA_7⟩ := id hA
  have l_hB := hB.lt
  obtain ⟨f_hB_0, f_hB_1, f_hB_2, f_hB_3, f_hB_4, f_hB_5, f_hB_6, f_hB_7⟩ := id hB
  have l_hC := hC.lt
  obtain ⟨f_hC_0, f_hC_1, f_hC_2, f_hC_3, f_hC_4, f_hC_5, f_hC_6, f_hC_7⟩ := id hC
  go_wp2_with fail
  refine (meets_any b a _ true 0 m2.out).mono ?_
  rintro e w5 ⟨rfl, k⟩
  have HB := Lib.hid (HB.out.trans (k.mono HB.out.size))
  have hA := hA.later k
  have hB := hB.later k
  have hC := hC.later k
  clear k
  clear l_hA f_hA_0 f_hA_1 f_hA_2 f_hA_3 f_hA_4 f_hA_5 f_hA_6 f_hA_7 l_hB f_hB_0 f_hB_1 f_hB_2 f_hB_3 f_hB_4 f_hB_5 f_hB_6 f_hB_7 l_hC f_hC_0 f_hC_1 f_hC_2 f_hC_3 f_hC_4 f_hC_5 f_hC_6 f_hC_7
  have l_hA := hA.lt
  obtain ⟨f_hA_0, f_hA_1, f_hA_2, f_hA_3, f_hA_4, f_hA_5, f_hA_6, f_hA_7⟩ := id hA
  have l_hB := hB.lt
  obtain ⟨f_hB_0, f_hB_1, f_hB_2, f_hB_3, f_hB_4, f_hB_5, f_hB_6, f_hB_7⟩ := id hB
  have l_hC := hC.lt
  obtain ⟨f_hC_0, f_hC_1, f_hC_2, f_hC_3, f_hC_4, f_hC_5, f_hC_6, f_hC_7⟩ := id hC
  go_wp2_with fail
  refine (meets_any a a _ true 0 m3.out).mono ?_
  rintro e w6 ⟨rfl, k⟩
  have HB := Lib.hid (HB.out.trans (k.mono HB.out.size))
  have hA := hA.later k
  have hB := hB.later k
  have hC := hC.later k
  clear k
  clear l_hA f_hA_0 f_hA_1 f_hA_2 f_hA_3 f_hA_4 f_hA_5 f_hA_6 f_hA_7 l_hB f_hB_0 f_hB_1 f_hB_2 f_hB_3 f_hB_4 f_hB_5 f_hB_6 f_hB_7 l_hC f_hC_0 f_hC_1 f_hC_2 f_hC_3 f_hC_4 f_hC_5 f_hC_6 f_hC_7
  have l_hA := hA.lt
  obtain ⟨f_hA_0, f_hA_1, f_hA_2, f_hA_3, f_hA_4, f_hA_5, f_hA_6, f_hA_7⟩ := id hA
  have l_hB := hB.lt
  obtain ⟨f_hB_0, f_hB_1, f_hB_2, f_hB_3, f_hB_4, f_hB_5, f_hB_6, f_hB_7⟩ := id hB
  have l_hC := hC.lt
  obtain ⟨f_hC_0, f_hC_1, f_hC_2, f_hC_3, f_hC_4, f_hC_5, f_hC_6, f_hC_7⟩ := id hC
  go_wp2_with fail
  refine (both_any b c d 0 _ j1.out).mono ?_
  rintro e w7 ⟨rfl, k⟩
  have HB := Lib.hid (HB.out.trans (k.mono HB.out.size))
  have hA := hA.later k
  have hB := hB.later k
  have hC := hC.later k
  clear k
  clear l_hA f_hA_0 f_hA_1 f_hA_2 f_hA_3 f_hA_4 f_hA_5 f_hA_6 f_hA_7 l_hB f_hB_0 f_hB_1 f_hB_2 f_hB_3 f_hB_4 f_hB_5 f_hB_6 f_hB_7 l_hC f_hC_0 f_hC_1 f_hC_2 f_hC_3 f_hC_4 f_hC_5 f_hC_6 f_hC_7
  have l_hA := hA.lt
  obtain ⟨f_hA_0, f_hA_1, f_hA_2, f_hA_3, f_hA_4, f_hA_5, f_hA_6, f_hA_7⟩ := id hA
  have l_hB := hB.lt
  obtain ⟨f_hB_0, f_hB_1, f_hB_2, f_hB_3, f_hB_4, f_hB_5, f_hB_6, f_hB_7⟩ := id hB
  have l_hC := hC.lt
  obtain ⟨f_hC_0, f_hC_1, f_hC_2, f_hC_3, f_hC_4, f_hC_5, f_hC_6, f_hC_7⟩ := id hC
  have HB := Lib.hid (HB.out.alloc HB.out.size (.cells #[.int .i64 d.x0.m, .int .i64 d.x0.s, .int .i64 d.y0.m, .int .i64 d.y0.s, .int .i64 d.x1.m, .int .i64 d.x1.s, .int .i64 d.y1.m, .int .i64 d.y1.s] 25))
  have hA := hA.old (.cells #[.int .i64 d.x0.m, .int .i64 d.x0.s, .int .i64 d.y0.m, .int .i64 d.y0.s, .int .i64 d.x1.m, .int .i64 d.x1.s, .int .i64 d.y1.m, .int .i64 d.y1.s] 25)
  have hB := hB.old (.cells #[.int .i64 d.x0.m, .int .i64 d.x0.s, .int .i64 d.y0.m, .int .i64 d.y0.s, .int .i64 d.x1.m, .int .i64 d.x1.s, .int .i64 d.y1.m, .int .i64 d.y1.s] 25)
  have hC := hC.old (.cells #[.int .i64 d.x0.m, .int .i64 d.x0.s, .int .i64 d.y0.m, .int .i64 d.y0.s, .int .i64 d.x1.m, .int .i64 d.x1.s, .int .i64 d.y1.m, .int .i64 d.y1.s] 25)
  have hD := BIn.made w7 25 d
  go_wp2_with fail
  refine (meets_any a d _ true 0 m4.out).mono ?_
  rintro e w8 ⟨rfl, k⟩
  have HB := Lib.hid (HB.out.trans (k.mono HB.out.size))
  have hA := hA.later k
  have hB := hB.later k
  have hC := hC.later k
  have hD := hD.later k
  clear k
  clear l_hA f_hA_0 f_hA_1 f_hA_2 f_hA_3 f_hA_4 f_hA_5 f_hA_6 f_hA_7 l_hB f_hB_0 f_hB_1 f_hB_2 f_hB_3 f_hB_4 f_hB_5 f_hB_6 f_hB_7 l_hC f_hC_0 f_hC_1 f_hC_2 f_hC_3 f_hC_4 f_hC_5 f_hC_6 f_hC_7
  have l_hA := hA.lt
  obtain ⟨f_hA_0, f_hA_1, f_hA_2, f_hA_3, f_hA_4, f_hA_5, f_hA_6, f_hA_7⟩ := id hA
  have l_hB := hB.lt
  obtain ⟨f_hB_0, f_hB_1, f_hB_2, f_hB_3, f_hB_4, f_hB_5, f_hB_6, f_hB_7⟩ := id hB
  have l_hC := hC.lt
  obtain ⟨f_hC_0, f_hC_1, f_hC_2, f_hC_3, f_hC_4, f_hC_5, f_hC_6, f_hC_7⟩ := id hC
  have l_hD := hD.lt
  obtain ⟨f_hD_0, f_hD_1, f_hD_2, f_hD_3, f_hD_4, f_hD_5, f_hD_6, f_hD_7⟩ := id hD
  go_wp2_with fail
  refine (both_any c b d 0 _ j2.out).mono ?_
  rintro e w9 ⟨rfl, k⟩
  have HB := Lib.hid (HB.out.trans (k.mono HB.out.size))
  have hA := hA.later k
  have hB := hB.later k
  have hC := hC.later k
  have hD := hD.later k
  clear k
  clear l_hA f_hA_0 f_hA_1 f_hA_2 f_hA_3 f_hA_4 f_hA_5 f_hA_6 f_hA_7 l_hB f_hB_0 f_hB_1 f_hB_2 f_hB_3 f_hB_4 f_hB_5 f_hB_6 f_hB_7 l_hC f_hC_0 f_hC_1 f_hC_2 f_hC_3 f_hC_4 f_hC_5 f_hC_6 f_hC_7 l_hD f_hD_0 f_hD_1 f_hD_2 f_hD_3 f_hD_4 f_hD_5 f_hD_6 f_hD_7
  have l_hA := hA.lt
  obtain ⟨f_hA_0, f_hA_1, f_hA_2, f_hA_3, f_hA_4, f_hA_5, f_hA_6, f_hA_7⟩ := id hA
  have l_hB := hB.lt
  obtain ⟨f_hB_0, f_hB_1, f_hB_2, f_hB_3, f_hB_4, f_hB_5, f_hB_6, f_hB_7⟩ := id hB
  have l_hC := hC.lt
  obtain ⟨f_hC_0, f_hC_1, f_hC_2, f_hC_3, f_hC_4, f_hC_5, f_hC_6, f_hC_7⟩ := id hC
  have l_hD := hD.lt
  obtain ⟨f_hD_0, f_hD_1, f_hD_2, f_hD_3, f_hD_4, f_hD_5, f_hD_6, f_hD_7⟩ := id hD
  have HB := Lib.hid (HB.out.alloc HB.out.size (.cells #[.int .i64 d.x0.m, .int .i64 d.x0.s, .int .i64 d.y0.m, .int .i64 d.y0.s, .int .i64 d.x1.m, .int .i64 d.x1.s, .int .i64 d.y1.m, .int .i64 d.y1.s] 25))
  have hA := hA.old (.cells #[.int .i64 d.x0.m, .int .i64 d.x0.s, .int .i64 d.y0.m, .int .i64 d.y0.s, .int .i64 d.x1.m, .int .i64 d.x1.s, .int .i64 d.y1.m, .int .i64 d.y1.s] 25)
  have hB := hB.old (.cells #[.int .i64 d.x0.m, .int .i64 d.x0.s, .int .i64 d.y0.m, .int .i64 d.y0.s, .int .i64 d.x1.m, .int .i64 d.x1.s, .int .i64 d.y1.m, .int .i64 d.y1.s] 25)
  have hC := hC.old (.cells #[.int .i64 d.x0.m, .int .i64 d.x0.s, .int .i64 d.y0.m, .int .i64 d.y0.s, .int .i64 d.x1.m, .int .i64 d.x1.s, .int .i64 d.y1.m, .int .i64 d.y1.s] 25)
  have hD := hD.old (.cells #[.int .i64 d.x0.m, .int .i64 d.x0.s, .int .i64 d.y0.m, .int .i64 d.y0.s, .int .i64 d.x1.m, .int .i64 d.x1.s, .int .i64 d.y1.m, .int .i64 d.y1.s] 25)
  have hP := BIn.made w9 25 d
  go_wp2_with fail
  refine (both_any b b b 0 _ j3.out).mono ?_
  rintro e w10 ⟨rfl, k⟩
  have HB := Lib.hid (HB.out.trans (k.mono HB.out.size))
  have hA := hA.later k
  have hB := hB.later k
  have hC := hC.later k
  have hD := hD.later k
  have hP := hP.later k
  clear k
  clear l_hA f_hA_0 f_hA_1 f_hA_2 f_hA_3 f_hA_4 f_hA_5 f_hA_6 f_hA_7 l_hB f_hB_0 f_hB_1 f_hB_2 f_hB_3 f_hB_4 f_hB_5 f_hB_6 f_hB_7 l_hC f_hC_0 f_hC_1 f_hC_2 f_hC_3 f_hC_4 f_hC_5 f_hC_6 f_hC_7 l_hD f_hD_0 f_hD_1 f_hD_2 f_hD_3 f_hD_4 f_hD_5 f_hD_6 f_hD_7
  have l_hA := hA.lt
  obtain ⟨f_hA_0, f_hA_1, f_hA_2, f_hA_3, f_hA_4, f_hA_5, f_hA_6, f_hA_7⟩ := id hA
  have l_hB := hB.lt
  obtain ⟨f_hB_0, f_hB_1, f_hB_2, f_hB_3, f_hB_4, f_hB_5, f_hB_6, f_hB_7⟩ := id hB
  have l_hC := hC.lt
  obtain ⟨f_hC_0, f_hC_1, f_hC_2, f_hC_3, f_hC_4, f_hC_5, f_hC_6, f_hC_7⟩ := id hC
  have l_hD := hD.lt
  obtain ⟨f_hD_0, f_hD_1, f_hD_2, f_hD_3, f_hD_4, f_hD_5, f_hD_6, f_hD_7⟩ := id hD
  have l_hP := hP.lt
  obtain ⟨f_hP_0, f_hP_1, f_hP_2, f_hP_3, f_hP_4, f_hP_5, f_hP_6, f_hP_7⟩ := id hP
  have HB := Lib.hid (HB.out.alloc HB.out.size (.cells #[.int .i64 b.x0.m, .int .i64 b.x0.s, .int .i64 b.y0.m, .int .i64 b.y0.s, .int .i64 b.x1.m, .int .i64 b.x1.s, .int .i64 b.y1.m, .int .i64 b.y1.s] 25))
  have hA := hA.old (.cells #[.int .i64 b.x0.m, .int .i64 b.x0.s, .int .i64 b.y0.m, .int .i64 b.y0.s, .int .i64 b.x1.m, .int .i64 b.x1.s, .int .i64 b.y1.m, .int .i64 b.y1.s] 25)
  have hB := hB.old (.cells #[.int .i64 b.x0.m, .int .i64 b.x0.s, .int .i64 b.y0.m, .int .i64 b.y0.s, .int .i64 b.x1.m, .int .i64 b.x1.s, .int .i64 b.y1.m, .int .i64 b.y1.s] 25)
  have hC := hC.old (.cells #[.int .i64 b.x0.m, .int .i64 b.x0.s, .int .i64 b.y0.m, .int .i64 b.y0.s, .int .i64 b.x1.m, .int .i64 b.x1.s, .int .i64 b.y1.m, .int .i64 b.y1.s] 25)
  have hD := hD.old (.cells #[.int .i64 b.x0.m, .int .i64 b.x0.s, .int .i64 b.y0.m, .int .i64 b.y0.s, .int .i64 b.x1.m, .int .i64 b.x1.s, .int .i64 b.y1.m, .int .i64 b.y1.s] 25)
  have hP := hP.old (.cells #[.int .i64 b.x0.m, .int .i64 b.x0.s, .int .i64 b.y0.m, .int .i64 b.y0.s, .int .i64 b.x1.m, .int .i64 b.x1.s, .int .i64 b.y1.m, .int .i64 b.y1.s] 25)
  have hQ := BIn.made w10 25 b
  go_wp2_with fail
  refine (bawake_any _).mono ?_
  rintro e w11 ⟨rfl, k⟩
  have HB := Lib.hid (HB.out.trans (k.mono HB.out.size))
  have hA := hA.later k
  have hB := hB.later k
  have hC := hC.later k
  have hD := hD.later k
  have hP := hP.later k
  have hQ := hQ.later k
  clear k
  clear l_hA f_hA_0 f_hA_1 f_hA_2 f_hA_3 f_hA_4 f_hA_5 f_hA_6 f_hA_7 l_hB f_hB_0 f_hB_1 f_hB_2 f_hB_3 f_hB_4 f_hB_5 f_hB_6 f_hB_7 l_hC f_hC_0 f_hC_1 f_hC_2 f_hC_3 f_hC_4 f_hC_5 f_hC_6 f_hC_7 l_hD f_hD_0 f_hD_1 f_hD_2 f_hD_3 f_hD_4 f_hD_5 f_hD_6 f_hD_7 l_hP f_hP_0 f_hP_1 f_hP_2 f_hP_3 f_hP_4 f_hP_5 f_hP_6 f_hP_7
  have l_hA := hA.lt
  obtain ⟨f_hA_0, f_hA_1, f_hA_2, f_hA_3, f_hA_4, f_hA_5, f_hA_6, f_hA_7⟩ := id hA
  have l_hB := hB.lt
  obtain ⟨f_hB_0, f_hB_1, f_hB_2, f_hB_3, f_hB_4, f_hB_5, f_hB_6, f_hB_7⟩ := id hB
  have l_hC := hC.lt
  obtain ⟨f_hC_0, f_hC_1, f_hC_2, f_hC_3, f_hC_4, f_hC_5, f_hC_6, f_hC_7⟩ := id hC
  have l_hD := hD.lt
  obtain ⟨f_hD_0, f_hD_1, f_hD_2, f_hD_3, f_hD_4, f_hD_5, f_hD_6, f_hD_7⟩ := id hD
  have l_hP := hP.lt
  obtain ⟨f_hP_0, f_hP_1, f_hP_2, f_hP_3, f_hP_4, f_hP_5, f_hP_6, f_hP_7⟩ := id hP
  have l_hQ := hQ.lt
  obtain ⟨f_hQ_0, f_hQ_1, f_hQ_2, f_hQ_3, f_hQ_4, f_hQ_5, f_hQ_6, f_hQ_7⟩ := id hQ
  go_wp2_with fail
  refine (bcheck_any d _ 0 h4.out).mono ?_
  rintro e w12 ⟨rfl, k⟩
  have HB := Lib.hid (HB.out.trans (k.mono HB.out.size))
  have hA := hA.later k
  have hB := hB.later k
  have hC := hC.later k
  have hD := hD.later k
  have hP := hP.later k
  have hQ := hQ.later k
  clear k
  clear l_hA f_hA_0 f_hA_1 f_hA_2 f_hA_3 f_hA_4 f_hA_5 f_hA_6 f_hA_7 l_hB f_hB_0 f_hB_1 f_hB_2 f_hB_3 f_hB_4 f_hB_5 f_hB_6 f_hB_7 l_hC f_hC_0 f_hC_1 f_hC_2 f_hC_3 f_hC_4 f_hC_5 f_hC_6 f_hC_7 l_hD f_hD_0 f_hD_1 f_hD_2 f_hD_3 f_hD_4 f_hD_5 f_hD_6 f_hD_7 l_hP f_hP_0 f_hP_1 f_hP_2 f_hP_3 f_hP_4 f_hP_5 f_hP_6 f_hP_7 l_hQ f_hQ_0 f_hQ_1 f_hQ_2 f_hQ_3 f_hQ_4 f_hQ_5 f_hQ_6 f_hQ_7
  have l_hA := hA.lt
  obtain ⟨f_hA_0, f_hA_1, f_hA_2, f_hA_3, f_hA_4, f_hA_5, f_hA_6, f_hA_7⟩ := id hA
  have l_hB := hB.lt
  obtain ⟨f_hB_0, f_hB_1, f_hB_2, f_hB_3, f_hB_4, f_hB_5, f_hB_6, f_hB_7⟩ := id hB
  have l_hC := hC.lt
  obtain ⟨f_hC_0, f_hC_1, f_hC_2, f_hC_3, f_hC_4, f_hC_5, f_hC_6, f_hC_7⟩ := id hC
  have l_hD := hD.lt
  obtain ⟨f_hD_0, f_hD_1, f_hD_2, f_hD_3, f_hD_4, f_hD_5, f_hD_6, f_hD_7⟩ := id hD
  have l_hP := hP.lt
  obtain ⟨f_hP_0, f_hP_1, f_hP_2, f_hP_3, f_hP_4, f_hP_5, f_hP_6, f_hP_7⟩ := id hP
  have l_hQ := hQ.lt
  obtain ⟨f_hQ_0, f_hQ_1, f_hQ_2, f_hQ_3, f_hQ_4, f_hQ_5, f_hQ_6, f_hQ_7⟩ := id hQ
  go_wp2
  go_ret
  refine ⟨by first | rfl | (simp; done) | (simp; omega), ?_⟩
  (repeat (first | with_reducible refine Below.drew ?_ | with_reducible refine bdrewN ?_ _ | (with_reducible refine Below.setCell ?_ ?_ _; rotate_left; focus (first | exact Nat.le_refl _ | omega | (simp; omega) | (simp; done))) | (with_reducible refine Below.alloc ?_ ?_ _; rotate_left; focus (first | exact Nat.le_refl _ | omega | (simp; omega) | (simp; done))))); with_reducible exact HB.out
theorem bm_any (a b c : BV) (w : World) :
    Calls Try.prog 3 #[a.val, b.val, c.val] w fun e w' => e = .returned (.bool true) ∧ Below w.heap.size w w' := by
  by_cases ha : a.Ok
  · by_cases hb : b.Ok
    · by_cases hc : c.Ok
      · have hd := joinB_ok hb hc
        have k := meetB_join ha hb hc
        have e1 := meetB_comm ha hb
        have j1 : BothIs b c (joinB b c) 0 := .inl ⟨hb, hc, rfl, rfl⟩
        have j2 : BothIs c b (joinB b c) 0 := .inl ⟨hc, hb, joinB_comm hb hc, rfl⟩
        have j3 : BothIs b b b 0 := .inl ⟨hb, hb, (joinB_self hb).symm, rfl⟩
        have m3 : MeetIs a a true 0 := .inl ⟨ha, ha, (meetB_self ha).symm, rfl⟩
        cases hx : meetB a b
        · cases hw : meetB a (joinB b c)
          · exact bm_good_f0 a b c _ w (.inl ⟨ha, rfl⟩) (.inl ⟨hb, rfl⟩) (.inl ⟨hc, rfl⟩) (Lib.hid (.inl ⟨ha, hb, hx.symm, rfl⟩)) (Lib.hid (.inl ⟨hb, ha, (e1.symm.trans hx).symm, rfl⟩)) (Lib.hid m3) (Lib.hid j1) (Lib.hid (.inl ⟨ha, hd, hw.symm, rfl⟩)) (Lib.hid j2) (Lib.hid j3) (.inl ⟨hd, rfl⟩)
          · exact bm_good_f1 a b c _ w (.inl ⟨ha, rfl⟩) (.inl ⟨hb, rfl⟩) (.inl ⟨hc, rfl⟩) (Lib.hid (.inl ⟨ha, hb, hx.symm, rfl⟩)) (Lib.hid (.inl ⟨hb, ha, (e1.symm.trans hx).symm, rfl⟩)) (Lib.hid m3) (Lib.hid j1) (Lib.hid (.inl ⟨ha, hd, hw.symm, rfl⟩)) (Lib.hid j2) (Lib.hid j3) (.inl ⟨hd, rfl⟩)
        · exact bm_good_t a b c _ w (.inl ⟨ha, rfl⟩) (.inl ⟨hb, rfl⟩) (.inl ⟨hc, rfl⟩) (Lib.hid (.inl ⟨ha, hb, hx.symm, rfl⟩)) (Lib.hid (.inl ⟨hb, ha, (e1.symm.trans hx).symm, rfl⟩)) (Lib.hid m3) (Lib.hid j1) (Lib.hid (.inl ⟨ha, hd, (k hx).symm, rfl⟩)) (Lib.hid j2) (Lib.hid j3) (.inl ⟨hd, rfl⟩)
      · exact bm_bad3 a b c w (.inl ⟨ha, rfl⟩) (.inl ⟨hb, rfl⟩) (.inr ⟨hc, rfl⟩)
    · exact bm_bad2 a b c w (.inl ⟨ha, rfl⟩) (.inr ⟨hb, rfl⟩)
  · exact bm_bad1 a b c w (.inr ⟨ha, rfl⟩)
end Go.Proofs.Ytgdfdlicfjjfjaa
