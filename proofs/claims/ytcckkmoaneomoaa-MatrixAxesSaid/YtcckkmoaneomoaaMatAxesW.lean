/- The walk of MatrixAxes. -/
import Derived.Test.YtcckkmoaneomoaaMatAwake
namespace Go.Proofs.Ytcckkmoaneomoaa
open Go.RowKit Dec

theorem axes_zero {m : MV} (hm : m.Ok) : MapIs m ⟨⟨0, 0⟩, ⟨0, 0⟩⟩ ⟨m.e, m.f⟩ 0 :=
  .mk hm PV.zero_ok (.left DV.zero_ok (by rw [DV.zero_v]; exact mul_zero_v _) (mul_zero_v _) (.to_zero hm.2.2.2.2.1)) (.left DV.zero_ok (by rw [DV.zero_v]; exact mul_zero_v _) (mul_zero_v _) (.to_zero hm.2.2.2.2.2))
theorem axes_x {m : MV} (hm : m.Ok) : MapIs ⟨m.a, m.b, m.c, m.d, ⟨0, 0⟩, ⟨0, 0⟩⟩ ⟨⟨1, 0⟩, ⟨0, 0⟩⟩ ⟨m.a, m.b⟩ 0 :=
  .mk ⟨hm.1, hm.2.1, hm.2.2.1, hm.2.2.2.1, DV.zero_ok, DV.zero_ok⟩ ⟨DV.one_ok, DV.zero_ok⟩ (.left hm.1 (mul_one_v _) (mul_zero_v _) (.zero_added hm.1)) (.left hm.2.1 (mul_one_v _) (mul_zero_v _) (.zero_added hm.2.1))
theorem axes_y {m : MV} (hm : m.Ok) : MapIs ⟨m.a, m.b, m.c, m.d, ⟨0, 0⟩, ⟨0, 0⟩⟩ ⟨⟨0, 0⟩, ⟨1, 0⟩⟩ ⟨m.c, m.d⟩ 0 :=
  .mk ⟨hm.1, hm.2.1, hm.2.2.1, hm.2.2.2.1, DV.zero_ok, DV.zero_ok⟩ ⟨DV.zero_ok, DV.one_ok⟩ (.right hm.2.2.1 (mul_zero_v _) (mul_one_v _) (.zero_added hm.2.2.1)) (.right hm.2.2.2.1 (mul_zero_v _) (mul_one_v _) (.zero_added hm.2.2.2.1))

set_option maxRecDepth 100000 in
set_option maxHeartbeats 16000000 in
theorem axes_ok (m : MV) (w : World) (h : m.Ok) :
    Calls Try.prog 7 #[m.val] w fun e w' => e = .returned (.bool true) ∧ Below w.heap.size w w' := by
  have H := Lib.hid h
  clear h
  go_enter Try.func7, Try.ntmps7
  have hM := MIn.made w 25 m
  have hM := MIn.old hM (.cells #[.int .i64 1, .int .i64 0] 23)
  have hO := Var.new (w.alloc (.cells #[.int .i64 m.a.m, .int .i64 m.a.s, .int .i64 m.b.m, .int .i64 m.b.s, .int .i64 m.c.m, .int .i64 m.c.s, .int .i64 m.d.m, .int .i64 m.d.s, .int .i64 m.e.m, .int .i64 m.e.s, .int .i64 m.f.m, .int .i64 m.f.s] 25)) ⟨1, 0⟩ 23
  simp only [World.size_alloc] at hM hO
  have HB : Hid (Below w.heap.size w _) := Below.alloc (Below.alloc (Below.refl _ _) (by first | exact Nat.le_refl _ | omega | (simp; omega) | (simp; done)) (.cells #[.int .i64 m.a.m, .int .i64 m.a.s, .int .i64 m.b.m, .int .i64 m.b.s, .int .i64 m.c.m, .int .i64 m.c.s, .int .i64 m.d.m, .int .i64 m.d.s, .int .i64 m.e.m, .int .i64 m.e.s, .int .i64 m.f.m, .int .i64 m.f.s] 25)) (by first | exact Nat.le_refl _ | omega | (simp; omega) | (simp; done)) (.cells #[.int .i64 1, .int .i64 0] 23)
  go_wp2_with fail
  refine (map_any m ⟨⟨0, 0⟩, ⟨0, 0⟩⟩ _ 0 _ (axes_zero H.out)).mono ?_
  rintro e w1 ⟨rfl, k⟩
  have HB := Lib.hid (HB.out.trans (k.mono HB.out.size))
  have hM := MIn.later hM k
  have hO := Var.later hO k
  clear k
  have LhM1 := MIn.lt hM
  obtain ⟨fhM1_0, fhM1_1, fhM1_2, fhM1_3, fhM1_4, fhM1_5, fhM1_6, fhM1_7, fhM1_8, fhM1_9, fhM1_10, fhM1_11⟩ := id hM
  have LhO1 := Var.lt hO
  obtain ⟨fhO1_0, fhO1_1⟩ := id hO
  have hM := MIn.old hM (.cells #[.int .i64 m.e.m, .int .i64 m.e.s, .int .i64 m.f.m, .int .i64 m.f.s] 27)
  have hO := Var.old hO (.cells #[.int .i64 m.e.m, .int .i64 m.e.s, .int .i64 m.f.m, .int .i64 m.f.s] 27)
  have hA := PIn.made w1 27 ⟨m.e, m.f⟩
  have HB := Lib.hid (HB.out.alloc HB.out.size (.cells #[.int .i64 m.e.m, .int .i64 m.e.s, .int .i64 m.f.m, .int .i64 m.f.s] 27))
  go_wp2_with fail
  refine (map_any ⟨m.a, m.b, m.c, m.d, ⟨0, 0⟩, ⟨0, 0⟩⟩ ⟨⟨1, 0⟩, ⟨0, 0⟩⟩ _ 0 _ (axes_x H.out)).mono ?_
  rintro e w2 ⟨rfl, k⟩
  have HB := Lib.hid (HB.out.trans (k.mono HB.out.size))
  have hM := MIn.later hM k
  have hO := Var.later hO k
  have hA := PIn.later hA k
  clear LhM1 fhM1_0 fhM1_1 fhM1_2 fhM1_3 fhM1_4 fhM1_5 fhM1_6 fhM1_7 fhM1_8 fhM1_9 fhM1_10 fhM1_11 LhO1 fhO1_0 fhO1_1
  clear k
  have LhM2 := MIn.lt hM
  obtain ⟨fhM2_0, fhM2_1, fhM2_2, fhM2_3, fhM2_4, fhM2_5, fhM2_6, fhM2_7, fhM2_8, fhM2_9, fhM2_10, fhM2_11⟩ := id hM
  have LhO2 := Var.lt hO
  obtain ⟨fhO2_0, fhO2_1⟩ := id hO
  have LhA2 := PIn.lt hA
  obtain ⟨fhA2_0, fhA2_1, fhA2_2, fhA2_3⟩ := id hA
  have hM := MIn.old hM (.cells #[.int .i64 m.a.m, .int .i64 m.a.s, .int .i64 m.b.m, .int .i64 m.b.s] 27)
  have hO := Var.old hO (.cells #[.int .i64 m.a.m, .int .i64 m.a.s, .int .i64 m.b.m, .int .i64 m.b.s] 27)
  have hA := PIn.old hA (.cells #[.int .i64 m.a.m, .int .i64 m.a.s, .int .i64 m.b.m, .int .i64 m.b.s] 27)
  have hX := PIn.made w2 27 ⟨m.a, m.b⟩
  have HB := Lib.hid (HB.out.alloc HB.out.size (.cells #[.int .i64 m.a.m, .int .i64 m.a.s, .int .i64 m.b.m, .int .i64 m.b.s] 27))
  go_wp2_with fail
  refine (map_any ⟨m.a, m.b, m.c, m.d, ⟨0, 0⟩, ⟨0, 0⟩⟩ ⟨⟨0, 0⟩, ⟨1, 0⟩⟩ _ 0 _ (axes_y H.out)).mono ?_
  rintro e w3 ⟨rfl, k⟩
  have HB := Lib.hid (HB.out.trans (k.mono HB.out.size))
  have hM := MIn.later hM k
  have hO := Var.later hO k
  have hA := PIn.later hA k
  have hX := PIn.later hX k
  clear LhM2 fhM2_0 fhM2_1 fhM2_2 fhM2_3 fhM2_4 fhM2_5 fhM2_6 fhM2_7 fhM2_8 fhM2_9 fhM2_10 fhM2_11 LhO2 fhO2_0 fhO2_1 LhA2 fhA2_0 fhA2_1 fhA2_2 fhA2_3
  clear k
  have LhM3 := MIn.lt hM
  obtain ⟨fhM3_0, fhM3_1, fhM3_2, fhM3_3, fhM3_4, fhM3_5, fhM3_6, fhM3_7, fhM3_8, fhM3_9, fhM3_10, fhM3_11⟩ := id hM
  have LhO3 := Var.lt hO
  obtain ⟨fhO3_0, fhO3_1⟩ := id hO
  have LhA3 := PIn.lt hA
  obtain ⟨fhA3_0, fhA3_1, fhA3_2, fhA3_3⟩ := id hA
  have LhX3 := PIn.lt hX
  obtain ⟨fhX3_0, fhX3_1, fhX3_2, fhX3_3⟩ := id hX
  have hM := MIn.old hM (.cells #[.int .i64 m.c.m, .int .i64 m.c.s, .int .i64 m.d.m, .int .i64 m.d.s] 27)
  have hO := Var.old hO (.cells #[.int .i64 m.c.m, .int .i64 m.c.s, .int .i64 m.d.m, .int .i64 m.d.s] 27)
  have hA := PIn.old hA (.cells #[.int .i64 m.c.m, .int .i64 m.c.s, .int .i64 m.d.m, .int .i64 m.d.s] 27)
  have hX := PIn.old hX (.cells #[.int .i64 m.c.m, .int .i64 m.c.s, .int .i64 m.d.m, .int .i64 m.d.s] 27)
  have hY := PIn.made w3 27 ⟨m.c, m.d⟩
  have HB := Lib.hid (HB.out.alloc HB.out.size (.cells #[.int .i64 m.c.m, .int .i64 m.c.s, .int .i64 m.d.m, .int .i64 m.d.s] 27))
  go_wp2_with fail
  refine (mcheck_any m _ 0 (.inl ⟨H.out, rfl⟩)).mono ?_
  rintro e w4 ⟨rfl, k⟩
  have HB := Lib.hid (HB.out.trans (k.mono HB.out.size))
  have hM := MIn.later hM k
  have hO := Var.later hO k
  have hA := PIn.later hA k
  have hX := PIn.later hX k
  have hY := PIn.later hY k
  clear LhM3 fhM3_0 fhM3_1 fhM3_2 fhM3_3 fhM3_4 fhM3_5 fhM3_6 fhM3_7 fhM3_8 fhM3_9 fhM3_10 fhM3_11 LhO3 fhO3_0 fhO3_1 LhA3 fhA3_0 fhA3_1 fhA3_2 fhA3_3 LhX3 fhX3_0 fhX3_1 fhX3_2 fhX3_3
  clear k
  have LhM4 := MIn.lt hM
  obtain ⟨fhM4_0, fhM4_1, fhM4_2, fhM4_3, fhM4_4, fhM4_5, fhM4_6, fhM4_7, fhM4_8, fhM4_9, fhM4_10, fhM4_11⟩ := id hM
  have LhO4 := Var.lt hO
  obtain ⟨fhO4_0, fhO4_1⟩ := id hO
  have LhA4 := PIn.lt hA
  obtain ⟨fhA4_0, fhA4_1, fhA4_2, fhA4_3⟩ := id hA
  have LhX4 := PIn.lt hX
  obtain ⟨fhX4_0, fhX4_1, fhX4_2, fhX4_3⟩ := id hX
  have LhY4 := PIn.lt hY
  obtain ⟨fhY4_0, fhY4_1, fhY4_2, fhY4_3⟩ := id hY
  go_wp2_with fail
  refine (mawake_any _).mono ?_
  rintro e w5 ⟨rfl, k⟩
  have HB := Lib.hid (HB.out.trans (k.mono HB.out.size))
  have hM := MIn.later hM k
  have hO := Var.later hO k
  have hA := PIn.later hA k
  have hX := PIn.later hX k
  have hY := PIn.later hY k
  clear LhM4 fhM4_0 fhM4_1 fhM4_2 fhM4_3 fhM4_4 fhM4_5 fhM4_6 fhM4_7 fhM4_8 fhM4_9 fhM4_10 fhM4_11 LhO4 fhO4_0 fhO4_1 LhA4 fhA4_0 fhA4_1 fhA4_2 fhA4_3 LhX4 fhX4_0 fhX4_1 fhX4_2 fhX4_3 LhY4 fhY4_0 fhY4_1 fhY4_2 fhY4_3
  clear k
  have LhM5 := MIn.lt hM
  obtain ⟨fhM5_0, fhM5_1, fhM5_2, fhM5_3, fhM5_4, fhM5_5, fhM5_6, fhM5_7, fhM5_8, fhM5_9, fhM5_10, fhM5_11⟩ := id hM
  have LhO5 := Var.lt hO
  obtain ⟨fhO5_0, fhO5_1⟩ := id hO
  have LhA5 := PIn.lt hA
  obtain ⟨fhA5_0, fhA5_1, fhA5_2, fhA5_3⟩ := id hA
  have LhX5 := PIn.lt hX
  obtain ⟨fhX5_0, fhX5_1, fhX5_2, fhX5_3⟩ := id hX
  have LhY5 := PIn.lt hY
  obtain ⟨fhY5_0, fhY5_1, fhY5_2, fhY5_3⟩ := id hY
  go_wp2
  go_ret
  exact ⟨rfl, HB.out⟩

set_option maxRecDepth 100000 in
set_option maxHeartbeats 16000000 in
theorem axes_bad (m : MV) (r s : PV) (E F : Int) (w : World) (h : ¬ m.Ok) (hr : MapIs ⟨m.a, m.b, m.c, m.d, ⟨0, 0⟩, ⟨0, 0⟩⟩ ⟨⟨1, 0⟩, ⟨0, 0⟩⟩ r E) (hs : MapIs ⟨m.a, m.b, m.c, m.d, ⟨0, 0⟩, ⟨0, 0⟩⟩ ⟨⟨0, 0⟩, ⟨1, 0⟩⟩ s F) :
    Calls Try.prog 7 #[m.val] w fun e w' => e = .returned (.bool true) ∧ Below w.heap.size w w' := by
  have HR := Lib.hid hr
  have HS := Lib.hid hs
  clear hr hs
  have H := Lib.hid h
  clear h
  go_enter Try.func7, Try.ntmps7
  have hM := MIn.made w 25 m
  have hM := MIn.old hM (.cells #[.int .i64 1, .int .i64 0] 23)
  have hO := Var.new (w.alloc (.cells #[.int .i64 m.a.m, .int .i64 m.a.s, .int .i64 m.b.m, .int .i64 m.b.s, .int .i64 m.c.m, .int .i64 m.c.s, .int .i64 m.d.m, .int .i64 m.d.s, .int .i64 m.e.m, .int .i64 m.e.s, .int .i64 m.f.m, .int .i64 m.f.s] 25)) ⟨1, 0⟩ 23
  simp only [World.size_alloc] at hM hO
  have HB : Hid (Below w.heap.size w _) := Below.alloc (Below.alloc (Below.refl _ _) (by first | exact Nat.le_refl _ | omega | (simp; omega) | (simp; done)) (.cells #[.int .i64 m.a.m, .int .i64 m.a.s, .int .i64 m.b.m, .int .i64 m.b.s, .int .i64 m.c.m, .int .i64 m.c.s, .int .i64 m.d.m, .int .i64 m.d.s, .int .i64 m.e.m, .int .i64 m.e.s, .int .i64 m.f.m, .int .i64 m.f.s] 25)) (by first | exact Nat.le_refl _ | omega | (simp; omega) | (simp; done)) (.cells #[.int .i64 1, .int .i64 0] 23)
  go_wp2_with fail
  refine (map_any m ⟨⟨0, 0⟩, ⟨0, 0⟩⟩ _ 1 _ (.inr ⟨fun h => H.out h.1, rfl, rfl⟩)).mono ?_
  rintro e w1 ⟨rfl, k⟩
  have HB := Lib.hid (HB.out.trans (k.mono HB.out.size))
  have hM := MIn.later hM k
  have hO := Var.later hO k
  clear k
  have LhM1 := MIn.lt hM
  obtain ⟨fhM1_0, fhM1_1, fhM1_2, fhM1_3, fhM1_4, fhM1_5, fhM1_6, fhM1_7, fhM1_8, fhM1_9, fhM1_10, fhM1_11⟩ := id hM
  have LhO1 := Var.lt hO
  obtain ⟨fhO1_0, fhO1_1⟩ := id hO
  have hM := MIn.old hM (.cells #[.int .i64 0, .int .i64 0, .int .i64 0, .int .i64 0] 27)
  have hO := Var.old hO (.cells #[.int .i64 0, .int .i64 0, .int .i64 0, .int .i64 0] 27)
  have hA := PIn.made w1 27 ⟨⟨0, 0⟩, ⟨0, 0⟩⟩
  have HB := Lib.hid (HB.out.alloc HB.out.size (.cells #[.int .i64 0, .int .i64 0, .int .i64 0, .int .i64 0] 27))
  go_wp2_with fail
  refine (map_any ⟨m.a, m.b, m.c, m.d, ⟨0, 0⟩, ⟨0, 0⟩⟩ ⟨⟨1, 0⟩, ⟨0, 0⟩⟩ r E _ HR.out).mono ?_
  rintro e w2 ⟨rfl, k⟩
  have HB := Lib.hid (HB.out.trans (k.mono HB.out.size))
  have hM := MIn.later hM k
  have hO := Var.later hO k
  have hA := PIn.later hA k
  clear LhM1 fhM1_0 fhM1_1 fhM1_2 fhM1_3 fhM1_4 fhM1_5 fhM1_6 fhM1_7 fhM1_8 fhM1_9 fhM1_10 fhM1_11 LhO1 fhO1_0 fhO1_1
  clear k
  have LhM2 := MIn.lt hM
  obtain ⟨fhM2_0, fhM2_1, fhM2_2, fhM2_3, fhM2_4, fhM2_5, fhM2_6, fhM2_7, fhM2_8, fhM2_9, fhM2_10, fhM2_11⟩ := id hM
  have LhO2 := Var.lt hO
  obtain ⟨fhO2_0, fhO2_1⟩ := id hO
  have LhA2 := PIn.lt hA
  obtain ⟨fhA2_0, fhA2_1, fhA2_2, fhA2_3⟩ := id hA
  have hM := MIn.old hM (.cells #[.int .i64 r.x.m, .int .i64 r.x.s, .int .i64 r.y.m, .int .i64 r.y.s] 27)
  have hO := Var.old hO (.cells #[.int .i64 r.x.m, .int .i64 r.x.s, .int .i64 r.y.m, .int .i64 r.y.s] 27)
  have hA := PIn.old hA (.cells #[.int .i64 r.x.m, .int .i64 r.x.s, .int .i64 r.y.m, .int .i64 r.y.s] 27)
  have hX := PIn.made w2 27 r
  have HB := Lib.hid (HB.out.alloc HB.out.size (.cells #[.int .i64 r.x.m, .int .i64 r.x.s, .int .i64 r.y.m, .int .i64 r.y.s] 27))
  go_wp2_with fail
  refine (map_any ⟨m.a, m.b, m.c, m.d, ⟨0, 0⟩, ⟨0, 0⟩⟩ ⟨⟨0, 0⟩, ⟨1, 0⟩⟩ s F _ HS.out).mono ?_
  rintro e w3 ⟨rfl, k⟩
  have HB := Lib.hid (HB.out.trans (k.mono HB.out.size))
  have hM := MIn.later hM k
  have hO := Var.later hO k
  have hA := PIn.later hA k
  have hX := PIn.later hX k
  clear LhM2 fhM2_0 fhM2_1 fhM2_2 fhM2_3 fhM2_4 fhM2_5 fhM2_6 fhM2_7 fhM2_8 fhM2_9 fhM2_10 fhM2_11 LhO2 fhO2_0 fhO2_1 LhA2 fhA2_0 fhA2_1 fhA2_2 fhA2_3
  clear k
  have LhM3 := MIn.lt hM
  obtain ⟨fhM3_0, fhM3_1, fhM3_2, fhM3_3, fhM3_4, fhM3_5, fhM3_6, fhM3_7, fhM3_8, fhM3_9, fhM3_10, fhM3_11⟩ := id hM
  have LhO3 := Var.lt hO
  obtain ⟨fhO3_0, fhO3_1⟩ := id hO
  have LhA3 := PIn.lt hA
  obtain ⟨fhA3_0, fhA3_1, fhA3_2, fhA3_3⟩ := id hA
  have LhX3 := PIn.lt hX
  obtain ⟨fhX3_0, fhX3_1, fhX3_2, fhX3_3⟩ := id hX
  have hM := MIn.old hM (.cells #[.int .i64 s.x.m, .int .i64 s.x.s, .int .i64 s.y.m, .int .i64 s.y.s] 27)
  have hO := Var.old hO (.cells #[.int .i64 s.x.m, .int .i64 s.x.s, .int .i64 s.y.m, .int .i64 s.y.s] 27)
  have hA := PIn.old hA (.cells #[.int .i64 s.x.m, .int .i64 s.x.s, .int .i64 s.y.m, .int .i64 s.y.s] 27)
  have hX := PIn.old hX (.cells #[.int .i64 s.x.m, .int .i64 s.x.s, .int .i64 s.y.m, .int .i64 s.y.s] 27)
  have hY := PIn.made w3 27 s
  have HB := Lib.hid (HB.out.alloc HB.out.size (.cells #[.int .i64 s.x.m, .int .i64 s.x.s, .int .i64 s.y.m, .int .i64 s.y.s] 27))
  go_wp2_with fail
  refine (mcheck_any m _ 1 (.inr ⟨H.out, rfl⟩)).mono ?_
  rintro e w4 ⟨rfl, k⟩
  have HB := Lib.hid (HB.out.trans (k.mono HB.out.size))
  have hM := MIn.later hM k
  have hO := Var.later hO k
  have hA := PIn.later hA k
  have hX := PIn.later hX k
  have hY := PIn.later hY k
  clear LhM3 fhM3_0 fhM3_1 fhM3_2 fhM3_3 fhM3_4 fhM3_5 fhM3_6 fhM3_7 fhM3_8 fhM3_9 fhM3_10 fhM3_11 LhO3 fhO3_0 fhO3_1 LhA3 fhA3_0 fhA3_1 fhA3_2 fhA3_3 LhX3 fhX3_0 fhX3_1 fhX3_2 fhX3_3
  clear k
  have LhM4 := MIn.lt hM
  obtain ⟨fhM4_0, fhM4_1, fhM4_2, fhM4_3, fhM4_4, fhM4_5, fhM4_6, fhM4_7, fhM4_8, fhM4_9, fhM4_10, fhM4_11⟩ := id hM
  have LhO4 := Var.lt hO
  obtain ⟨fhO4_0, fhO4_1⟩ := id hO
  have LhA4 := PIn.lt hA
  obtain ⟨fhA4_0, fhA4_1, fhA4_2, fhA4_3⟩ := id hA
  have LhX4 := PIn.lt hX
  obtain ⟨fhX4_0, fhX4_1, fhX4_2, fhX4_3⟩ := id hX
  have LhY4 := PIn.lt hY
  obtain ⟨fhY4_0, fhY4_1, fhY4_2, fhY4_3⟩ := id hY
  go_wp2_with fail
  refine (mawake_any _).mono ?_
  rintro e w5 ⟨rfl, k⟩
  have HB := Lib.hid (HB.out.trans (k.mono HB.out.size))
  have hM := MIn.later hM k
  have hO := Var.later hO k
  have hA := PIn.later hA k
  have hX := PIn.later hX k
  have hY := PIn.later hY k
  clear LhM4 fhM4_0 fhM4_1 fhM4_2 fhM4_3 fhM4_4 fhM4_5 fhM4_6 fhM4_7 fhM4_8 fhM4_9 fhM4_10 fhM4_11 LhO4 fhO4_0 fhO4_1 LhA4 fhA4_0 fhA4_1 fhA4_2 fhA4_3 LhX4 fhX4_0 fhX4_1 fhX4_2 fhX4_3 LhY4 fhY4_0 fhY4_1 fhY4_2 fhY4_3
  clear k
  have LhM5 := MIn.lt hM
  obtain ⟨fhM5_0, fhM5_1, fhM5_2, fhM5_3, fhM5_4, fhM5_5, fhM5_6, fhM5_7, fhM5_8, fhM5_9, fhM5_10, fhM5_11⟩ := id hM
  have LhO5 := Var.lt hO
  obtain ⟨fhO5_0, fhO5_1⟩ := id hO
  have LhA5 := PIn.lt hA
  obtain ⟨fhA5_0, fhA5_1, fhA5_2, fhA5_3⟩ := id hA
  have LhX5 := PIn.lt hX
  obtain ⟨fhX5_0, fhX5_1, fhX5_2, fhX5_3⟩ := id hX
  have LhY5 := PIn.lt hY
  obtain ⟨fhY5_0, fhY5_1, fhY5_2, fhY5_3⟩ := id hY
  go_wp2
  go_ret
  exact ⟨rfl, HB.out⟩

theorem axes_any (m : MV) (w : World) :
    Calls Try.prog 7 #[m.val] w fun e w' => e = .returned (.bool true) ∧ Below w.heap.size w w' := by
  by_cases h : m.Ok
  · exact axes_ok m w h
  · obtain ⟨r, E, hr⟩ := MapIs.total ⟨m.a, m.b, m.c, m.d, ⟨0, 0⟩, ⟨0, 0⟩⟩ ⟨⟨1, 0⟩, ⟨0, 0⟩⟩
    obtain ⟨s, F, hs⟩ := MapIs.total ⟨m.a, m.b, m.c, m.d, ⟨0, 0⟩, ⟨0, 0⟩⟩ ⟨⟨0, 0⟩, ⟨1, 0⟩⟩
    exact axes_bad m r s E F w h hr hs
end Go.Proofs.Ytcckkmoaneomoaa
