/- The walk of MatrixSteps. -/
import Derived.Test.YtcckkmoaneomoaaMatAwake
namespace Go.Proofs.Ytcckkmoaneomoaa
open Go.RowKit Dec

/-- What Add answers of any two. -/
def AddIs (a b r : DV) (E : Int) : Prop := (a.Ok ∧ b.Ok ∧ Tells (a.v + b.v) 9 r E) ∨ (¬ (a.Ok ∧ b.Ok) ∧ r = .zero ∧ E = 1)
theorem AddIs.total (a b : DV) : ∃ r E, AddIs a b r E := by
  by_cases h : a.Ok ∧ b.Ok
  · obtain ⟨r, E, h'⟩ := Tells.total (a.v + b.v) 9
    exact ⟨r, E, .inl ⟨h.1, h.2, h'⟩⟩
  · exact ⟨_, _, .inr ⟨h, rfl, rfl⟩⟩
theorem add_any (a b r : DV) (E : Int) (w : World) (h : AddIs a b r E) :
    Calls Try.prog 24 #[.agg #[.int .i64 a.m, .int .i64 a.s], .agg #[.int .i64 b.m, .int .i64 b.s]] w (IsD r E w) := by
  rcases h with ⟨ha, hb, h⟩ | ⟨h, rfl, rfl⟩
  · exact add_tells a b r E w ha hb h
  · exact add_bad _ _ _ _ w h
theorem StepIs.total (x y : DV) : ∃ r E, StepIs x y r E := by
  by_cases h : x.Ok ∧ y.Ok
  · exact ⟨_, _, .inl ⟨h.1, h.2, rfl, rfl⟩⟩
  · exact ⟨_, _, .inr ⟨h, rfl, rfl⟩⟩
/-- A step maps a point by two sums. -/
theorem steps_math {x y : DV} {p : PV} {a b : DV} {g h : Int} (hx : x.Ok) (hy : y.Ok) (hp : p.Ok) (ha : Tells (p.x.v + x.v) 9 a g) (hb : Tells (p.y.v + y.v) 9 b h) (g0 : g = 0) (h0 : h = 0) :
    MapIs ⟨.one, .zero, .zero, .one, x, y⟩ p ⟨a, b⟩ 0 := by
  subst g0 h0
  exact .mk ⟨DV.one_ok, DV.zero_ok, DV.zero_ok, DV.one_ok, hx, hy⟩ hp (.left hp.1 (one_mul_v _) (zero_mul_v _) ha) (.right hp.2 (zero_mul_v _) (one_mul_v _) hb)
theorem steps_over {x y : DV} {p : PV} {a b : DV} {g h : Int} (hx : x.Ok) (hy : y.Ok) (hp : p.Ok) (ha : Tells (p.x.v + x.v) 9 a g) (hb : Tells (p.y.v + y.v) 9 b h) (h5 : g = 5 ∨ (g = 0 ∧ h = 5)) :
    MapIs ⟨.one, .zero, .zero, .one, x, y⟩ p .zero 5 := by
  refine .inl ⟨⟨DV.one_ok, DV.zero_ok, DV.zero_ok, DV.one_ok, hx, hy⟩, hp, a, b, g, h, .left hp.1 (one_mul_v _) (zero_mul_v _) ha, .right hp.2 (zero_mul_v _) (one_mul_v _) hb, ?_⟩
  rcases h5 with h5 | ⟨h5, h6⟩
  · exact .inl ⟨h5, rfl, rfl⟩
  · exact .inr (.inl ⟨h5, h6, rfl, rfl⟩)

set_option maxRecDepth 100000 in
set_option maxHeartbeats 16000000 in
theorem steps_a (x y : DV) (p q : PV) (a b : DV) (F G K : Int) (w : World) (hs : ¬ (x.Ok ∧ y.Ok)) (hq : MapIs .zero p q F) (ha : AddIs p.x x a G) (hb : AddIs p.y y b K) :
    Calls Try.prog 6 #[(.agg #[.int .i64 x.m, .int .i64 x.s] : Value), .agg #[.int .i64 y.m, .int .i64 y.s], p.val] w fun e w' => e = .returned (.bool true) ∧ Below w.heap.size w w' := by
  have HS := Lib.hid hs
  have HQ := Lib.hid hq
  have HA := Lib.hid ha
  have HBB := Lib.hid hb
  clear hs hq ha hb
  go_enter Try.func6, Try.ntmps6
  have hX := Var.new w x 23
  have hX := Var.old hX (.cells #[.int .i64 y.m, .int .i64 y.s] 23)
  have hY := Var.new (w.alloc (.cells #[.int .i64 x.m, .int .i64 x.s] 23)) y 23
  have hX := Var.old hX (.cells #[.int .i64 p.x.m, .int .i64 p.x.s, .int .i64 p.y.m, .int .i64 p.y.s] 27)
  have hY := Var.old hY (.cells #[.int .i64 p.x.m, .int .i64 p.x.s, .int .i64 p.y.m, .int .i64 p.y.s] 27)
  have hP := PIn.made ((w.alloc (.cells #[.int .i64 x.m, .int .i64 x.s] 23)).alloc (.cells #[.int .i64 y.m, .int .i64 y.s] 23)) 27 p
  simp only [World.size_alloc] at hX hY hP
  have HB : Hid (Below w.heap.size w _) := Below.alloc (Below.alloc (Below.alloc (Below.refl _ _) (by first | exact Nat.le_refl _ | omega | (simp; omega) | (simp; done)) (.cells #[.int .i64 x.m, .int .i64 x.s] 23)) (by first | exact Nat.le_refl _ | omega | (simp; omega) | (simp; done)) (.cells #[.int .i64 y.m, .int .i64 y.s] 23)) (by first | exact Nat.le_refl _ | omega | (simp; omega) | (simp; done)) (.cells #[.int .i64 p.x.m, .int .i64 p.x.s, .int .i64 p.y.m, .int .i64 p.y.s] 27)
  go_wp2_with fail
  refine (step_any x y .zero 1 _ (.inr ⟨HS.out, rfl, rfl⟩)).mono ?_
  rintro e w1 ⟨rfl, k⟩
  have HB := Lib.hid (HB.out.trans (k.mono HB.out.size))
  have hX := Var.later hX k
  have hY := Var.later hY k
  have hP := PIn.later hP k
  clear k
  have LhX1 := Var.lt hX
  obtain ⟨fhX1_0, fhX1_1⟩ := id hX
  have LhY1 := Var.lt hY
  obtain ⟨fhY1_0, fhY1_1⟩ := id hY
  have LhP1 := PIn.lt hP
  obtain ⟨fhP1_0, fhP1_1, fhP1_2, fhP1_3⟩ := id hP
  have hX := Var.old hX (.cells #[.int .i64 0, .int .i64 0, .int .i64 0, .int .i64 0, .int .i64 0, .int .i64 0, .int .i64 0, .int .i64 0, .int .i64 0, .int .i64 0, .int .i64 0, .int .i64 0] 25)
  have hY := Var.old hY (.cells #[.int .i64 0, .int .i64 0, .int .i64 0, .int .i64 0, .int .i64 0, .int .i64 0, .int .i64 0, .int .i64 0, .int .i64 0, .int .i64 0, .int .i64 0, .int .i64 0] 25)
  have hP := PIn.old hP (.cells #[.int .i64 0, .int .i64 0, .int .i64 0, .int .i64 0, .int .i64 0, .int .i64 0, .int .i64 0, .int .i64 0, .int .i64 0, .int .i64 0, .int .i64 0, .int .i64 0] 25)
  have hS := MIn.made w1 25 ⟨⟨0, 0⟩, ⟨0, 0⟩, ⟨0, 0⟩, ⟨0, 0⟩, ⟨0, 0⟩, ⟨0, 0⟩⟩
  have HB := Lib.hid (HB.out.alloc HB.out.size (.cells #[.int .i64 0, .int .i64 0, .int .i64 0, .int .i64 0, .int .i64 0, .int .i64 0, .int .i64 0, .int .i64 0, .int .i64 0, .int .i64 0, .int .i64 0, .int .i64 0] 25))
  go_wp2_with fail
  refine (map_any .zero p q F _ HQ.out).mono ?_
  rintro e w2 ⟨rfl, k⟩
  have HB := Lib.hid (HB.out.trans (k.mono HB.out.size))
  have hX := Var.later hX k
  have hY := Var.later hY k
  have hP := PIn.later hP k
  have hS := MIn.later hS k
  clear LhX1 fhX1_0 fhX1_1 LhY1 fhY1_0 fhY1_1 LhP1 fhP1_0 fhP1_1 fhP1_2 fhP1_3
  clear k
  have LhX2 := Var.lt hX
  obtain ⟨fhX2_0, fhX2_1⟩ := id hX
  have LhY2 := Var.lt hY
  obtain ⟨fhY2_0, fhY2_1⟩ := id hY
  have LhP2 := PIn.lt hP
  obtain ⟨fhP2_0, fhP2_1, fhP2_2, fhP2_3⟩ := id hP
  have LhS2 := MIn.lt hS
  obtain ⟨fhS2_0, fhS2_1, fhS2_2, fhS2_3, fhS2_4, fhS2_5, fhS2_6, fhS2_7, fhS2_8, fhS2_9, fhS2_10, fhS2_11⟩ := id hS
  have hX := Var.old hX (.cells #[.int .i64 q.x.m, .int .i64 q.x.s, .int .i64 q.y.m, .int .i64 q.y.s] 27)
  have hY := Var.old hY (.cells #[.int .i64 q.x.m, .int .i64 q.x.s, .int .i64 q.y.m, .int .i64 q.y.s] 27)
  have hP := PIn.old hP (.cells #[.int .i64 q.x.m, .int .i64 q.x.s, .int .i64 q.y.m, .int .i64 q.y.s] 27)
  have hS := MIn.old hS (.cells #[.int .i64 q.x.m, .int .i64 q.x.s, .int .i64 q.y.m, .int .i64 q.y.s] 27)
  have hQ := PIn.made w2 27 q
  have HB := Lib.hid (HB.out.alloc HB.out.size (.cells #[.int .i64 q.x.m, .int .i64 q.x.s, .int .i64 q.y.m, .int .i64 q.y.s] 27))
  go_wp2_with fail
  refine (add_any p.x x a G _ HA.out).mono ?_
  rintro e w3 ⟨rfl, k⟩
  have HB := Lib.hid (HB.out.trans (k.mono HB.out.size))
  have hX := Var.later hX k
  have hY := Var.later hY k
  have hP := PIn.later hP k
  have hS := MIn.later hS k
  have hQ := PIn.later hQ k
  clear LhX2 fhX2_0 fhX2_1 LhY2 fhY2_0 fhY2_1 LhP2 fhP2_0 fhP2_1 fhP2_2 fhP2_3 LhS2 fhS2_0 fhS2_1 fhS2_2 fhS2_3 fhS2_4 fhS2_5 fhS2_6 fhS2_7 fhS2_8 fhS2_9 fhS2_10 fhS2_11
  clear k
  have LhX3 := Var.lt hX
  obtain ⟨fhX3_0, fhX3_1⟩ := id hX
  have LhY3 := Var.lt hY
  obtain ⟨fhY3_0, fhY3_1⟩ := id hY
  have LhP3 := PIn.lt hP
  obtain ⟨fhP3_0, fhP3_1, fhP3_2, fhP3_3⟩ := id hP
  have LhS3 := MIn.lt hS
  obtain ⟨fhS3_0, fhS3_1, fhS3_2, fhS3_3, fhS3_4, fhS3_5, fhS3_6, fhS3_7, fhS3_8, fhS3_9, fhS3_10, fhS3_11⟩ := id hS
  have LhQ3 := PIn.lt hQ
  obtain ⟨fhQ3_0, fhQ3_1, fhQ3_2, fhQ3_3⟩ := id hQ
  have hX := Var.old hX (.cells #[.int .i64 a.m, .int .i64 a.s] 23)
  have hY := Var.old hY (.cells #[.int .i64 a.m, .int .i64 a.s] 23)
  have hP := PIn.old hP (.cells #[.int .i64 a.m, .int .i64 a.s] 23)
  have hS := MIn.old hS (.cells #[.int .i64 a.m, .int .i64 a.s] 23)
  have hQ := PIn.old hQ (.cells #[.int .i64 a.m, .int .i64 a.s] 23)
  have hA := Var.new w3 a 23
  have HB := Lib.hid (HB.out.alloc HB.out.size (.cells #[.int .i64 a.m, .int .i64 a.s] 23))
  go_wp2_with fail
  refine (add_any p.y y b K _ HBB.out).mono ?_
  rintro e w4 ⟨rfl, k⟩
  have HB := Lib.hid (HB.out.trans (k.mono HB.out.size))
  have hX := Var.later hX k
  have hY := Var.later hY k
  have hP := PIn.later hP k
  have hS := MIn.later hS k
  have hQ := PIn.later hQ k
  have hA := Var.later hA k
  clear LhX3 fhX3_0 fhX3_1 LhY3 fhY3_0 fhY3_1 LhP3 fhP3_0 fhP3_1 fhP3_2 fhP3_3 LhS3 fhS3_0 fhS3_1 fhS3_2 fhS3_3 fhS3_4 fhS3_5 fhS3_6 fhS3_7 fhS3_8 fhS3_9 fhS3_10 fhS3_11 LhQ3 fhQ3_0 fhQ3_1 fhQ3_2 fhQ3_3
  clear k
  have LhX4 := Var.lt hX
  obtain ⟨fhX4_0, fhX4_1⟩ := id hX
  have LhY4 := Var.lt hY
  obtain ⟨fhY4_0, fhY4_1⟩ := id hY
  have LhP4 := PIn.lt hP
  obtain ⟨fhP4_0, fhP4_1, fhP4_2, fhP4_3⟩ := id hP
  have LhS4 := MIn.lt hS
  obtain ⟨fhS4_0, fhS4_1, fhS4_2, fhS4_3, fhS4_4, fhS4_5, fhS4_6, fhS4_7, fhS4_8, fhS4_9, fhS4_10, fhS4_11⟩ := id hS
  have LhQ4 := PIn.lt hQ
  obtain ⟨fhQ4_0, fhQ4_1, fhQ4_2, fhQ4_3⟩ := id hQ
  have LhA4 := Var.lt hA
  obtain ⟨fhA4_0, fhA4_1⟩ := id hA
  have hX := Var.old hX (.cells #[.int .i64 b.m, .int .i64 b.s] 23)
  have hY := Var.old hY (.cells #[.int .i64 b.m, .int .i64 b.s] 23)
  have hP := PIn.old hP (.cells #[.int .i64 b.m, .int .i64 b.s] 23)
  have hS := MIn.old hS (.cells #[.int .i64 b.m, .int .i64 b.s] 23)
  have hQ := PIn.old hQ (.cells #[.int .i64 b.m, .int .i64 b.s] 23)
  have hA := Var.old hA (.cells #[.int .i64 b.m, .int .i64 b.s] 23)
  have hB := Var.new w4 b 23
  have HB := Lib.hid (HB.out.alloc HB.out.size (.cells #[.int .i64 b.m, .int .i64 b.s] 23))
  go_wp2_with fail
  refine (mawake_any _).mono ?_
  rintro e w5 ⟨rfl, k⟩
  have HB := Lib.hid (HB.out.trans (k.mono HB.out.size))
  have hX := Var.later hX k
  have hY := Var.later hY k
  have hP := PIn.later hP k
  have hS := MIn.later hS k
  have hQ := PIn.later hQ k
  have hA := Var.later hA k
  have hB := Var.later hB k
  clear LhX4 fhX4_0 fhX4_1 LhY4 fhY4_0 fhY4_1 LhP4 fhP4_0 fhP4_1 fhP4_2 fhP4_3 LhS4 fhS4_0 fhS4_1 fhS4_2 fhS4_3 fhS4_4 fhS4_5 fhS4_6 fhS4_7 fhS4_8 fhS4_9 fhS4_10 fhS4_11 LhQ4 fhQ4_0 fhQ4_1 fhQ4_2 fhQ4_3 LhA4 fhA4_0 fhA4_1
  clear k
  have LhX5 := Var.lt hX
  obtain ⟨fhX5_0, fhX5_1⟩ := id hX
  have LhY5 := Var.lt hY
  obtain ⟨fhY5_0, fhY5_1⟩ := id hY
  have LhP5 := PIn.lt hP
  obtain ⟨fhP5_0, fhP5_1, fhP5_2, fhP5_3⟩ := id hP
  have LhS5 := MIn.lt hS
  obtain ⟨fhS5_0, fhS5_1, fhS5_2, fhS5_3, fhS5_4, fhS5_5, fhS5_6, fhS5_7, fhS5_8, fhS5_9, fhS5_10, fhS5_11⟩ := id hS
  have LhQ5 := PIn.lt hQ
  obtain ⟨fhQ5_0, fhQ5_1, fhQ5_2, fhQ5_3⟩ := id hQ
  have LhA5 := Var.lt hA
  obtain ⟨fhA5_0, fhA5_1⟩ := id hA
  have LhB5 := Var.lt hB
  obtain ⟨fhB5_0, fhB5_1⟩ := id hB
  go_wp2
  go_ret
  exact ⟨rfl, HB.out⟩

set_option maxRecDepth 100000 in
set_option maxHeartbeats 16000000 in
theorem steps_b (x y : DV) (p : PV) (a b : DV) (G K : Int) (w : World) (hx : x.Ok) (hy : y.Ok) (hp1 : ¬ p.x.Ok) (ha : AddIs p.x x a G) (hb : AddIs p.y y b K) :
    Calls Try.prog 6 #[(.agg #[.int .i64 x.m, .int .i64 x.s] : Value), .agg #[.int .i64 y.m, .int .i64 y.s], p.val] w fun e w' => e = .returned (.bool true) ∧ Below w.heap.size w w' := by
  have HX := Lib.hid hx
  have HY := Lib.hid hy
  have HP1 := Lib.hid hp1
  have HA := Lib.hid ha
  have HBB := Lib.hid hb
  clear hx hy hp1 ha hb
  go_enter Try.func6, Try.ntmps6
  have hX := Var.new w x 23
  have hX := Var.old hX (.cells #[.int .i64 y.m, .int .i64 y.s] 23)
  have hY := Var.new (w.alloc (.cells #[.int .i64 x.m, .int .i64 x.s] 23)) y 23
  have hX := Var.old hX (.cells #[.int .i64 p.x.m, .int .i64 p.x.s, .int .i64 p.y.m, .int .i64 p.y.s] 27)
  have hY := Var.old hY (.cells #[.int .i64 p.x.m, .int .i64 p.x.s, .int .i64 p.y.m, .int .i64 p.y.s] 27)
  have hP := PIn.made ((w.alloc (.cells #[.int .i64 x.m, .int .i64 x.s] 23)).alloc (.cells #[.int .i64 y.m, .int .i64 y.s] 23)) 27 p
  simp only [World.size_alloc] at hX hY hP
  have HB : Hid (Below w.heap.size w _) := Below.alloc (Below.alloc (Below.alloc (Below.refl _ _) (by first | exact Nat.le_refl _ | omega | (simp; omega) | (simp; done)) (.cells #[.int .i64 x.m, .int .i64 x.s] 23)) (by first | exact Nat.le_refl _ | omega | (simp; omega) | (simp; done)) (.cells #[.int .i64 y.m, .int .i64 y.s] 23)) (by first | exact Nat.le_refl _ | omega | (simp; omega) | (simp; done)) (.cells #[.int .i64 p.x.m, .int .i64 p.x.s, .int .i64 p.y.m, .int .i64 p.y.s] 27)
  go_wp2_with fail
  refine (step_any x y ⟨.one, .zero, .zero, .one, x, y⟩ 0 _ (.inl ⟨HX.out, HY.out, rfl, rfl⟩)).mono ?_
  rintro e w1 ⟨rfl, k⟩
  have HB := Lib.hid (HB.out.trans (k.mono HB.out.size))
  have hX := Var.later hX k
  have hY := Var.later hY k
  have hP := PIn.later hP k
  clear k
  have LhX1 := Var.lt hX
  obtain ⟨fhX1_0, fhX1_1⟩ := id hX
  have LhY1 := Var.lt hY
  obtain ⟨fhY1_0, fhY1_1⟩ := id hY
  have LhP1 := PIn.lt hP
  obtain ⟨fhP1_0, fhP1_1, fhP1_2, fhP1_3⟩ := id hP
  have hX := Var.old hX (.cells #[.int .i64 1, .int .i64 0, .int .i64 0, .int .i64 0, .int .i64 0, .int .i64 0, .int .i64 1, .int .i64 0, .int .i64 x.m, .int .i64 x.s, .int .i64 y.m, .int .i64 y.s] 25)
  have hY := Var.old hY (.cells #[.int .i64 1, .int .i64 0, .int .i64 0, .int .i64 0, .int .i64 0, .int .i64 0, .int .i64 1, .int .i64 0, .int .i64 x.m, .int .i64 x.s, .int .i64 y.m, .int .i64 y.s] 25)
  have hP := PIn.old hP (.cells #[.int .i64 1, .int .i64 0, .int .i64 0, .int .i64 0, .int .i64 0, .int .i64 0, .int .i64 1, .int .i64 0, .int .i64 x.m, .int .i64 x.s, .int .i64 y.m, .int .i64 y.s] 25)
  have hS := MIn.made w1 25 ⟨⟨1, 0⟩, ⟨0, 0⟩, ⟨0, 0⟩, ⟨1, 0⟩, x, y⟩
  have HB := Lib.hid (HB.out.alloc HB.out.size (.cells #[.int .i64 1, .int .i64 0, .int .i64 0, .int .i64 0, .int .i64 0, .int .i64 0, .int .i64 1, .int .i64 0, .int .i64 x.m, .int .i64 x.s, .int .i64 y.m, .int .i64 y.s] 25))
  go_wp2_with fail
  refine (map_any ⟨.one, .zero, .zero, .one, x, y⟩ p .zero 1 _ (.inr ⟨fun h => HP1.out h.2.1, rfl, rfl⟩)).mono ?_
  rintro e w2 ⟨rfl, k⟩
  have HB := Lib.hid (HB.out.trans (k.mono HB.out.size))
  have hX := Var.later hX k
  have hY := Var.later hY k
  have hP := PIn.later hP k
  have hS := MIn.later hS k
  clear LhX1 fhX1_0 fhX1_1 LhY1 fhY1_0 fhY1_1 LhP1 fhP1_0 fhP1_1 fhP1_2 fhP1_3
  clear k
  have LhX2 := Var.lt hX
  obtain ⟨fhX2_0, fhX2_1⟩ := id hX
  have LhY2 := Var.lt hY
  obtain ⟨fhY2_0, fhY2_1⟩ := id hY
  have LhP2 := PIn.lt hP
  obtain ⟨fhP2_0, fhP2_1, fhP2_2, fhP2_3⟩ := id hP
  have LhS2 := MIn.lt hS
  obtain ⟨fhS2_0, fhS2_1, fhS2_2, fhS2_3, fhS2_4, fhS2_5, fhS2_6, fhS2_7, fhS2_8, fhS2_9, fhS2_10, fhS2_11⟩ := id hS
  have hX := Var.old hX (.cells #[.int .i64 0, .int .i64 0, .int .i64 0, .int .i64 0] 27)
  have hY := Var.old hY (.cells #[.int .i64 0, .int .i64 0, .int .i64 0, .int .i64 0] 27)
  have hP := PIn.old hP (.cells #[.int .i64 0, .int .i64 0, .int .i64 0, .int .i64 0] 27)
  have hS := MIn.old hS (.cells #[.int .i64 0, .int .i64 0, .int .i64 0, .int .i64 0] 27)
  have hQ := PIn.made w2 27 ⟨⟨0, 0⟩, ⟨0, 0⟩⟩
  have HB := Lib.hid (HB.out.alloc HB.out.size (.cells #[.int .i64 0, .int .i64 0, .int .i64 0, .int .i64 0] 27))
  go_wp2_with fail
  refine (add_any p.x x a G _ HA.out).mono ?_
  rintro e w3 ⟨rfl, k⟩
  have HB := Lib.hid (HB.out.trans (k.mono HB.out.size))
  have hX := Var.later hX k
  have hY := Var.later hY k
  have hP := PIn.later hP k
  have hS := MIn.later hS k
  have hQ := PIn.later hQ k
  clear LhX2 fhX2_0 fhX2_1 LhY2 fhY2_0 fhY2_1 LhP2 fhP2_0 fhP2_1 fhP2_2 fhP2_3 LhS2 fhS2_0 fhS2_1 fhS2_2 fhS2_3 fhS2_4 fhS2_5 fhS2_6 fhS2_7 fhS2_8 fhS2_9 fhS2_10 fhS2_11
  clear k
  have LhX3 := Var.lt hX
  obtain ⟨fhX3_0, fhX3_1⟩ := id hX
  have LhY3 := Var.lt hY
  obtain ⟨fhY3_0, fhY3_1⟩ := id hY
  have LhP3 := PIn.lt hP
  obtain ⟨fhP3_0, fhP3_1, fhP3_2, fhP3_3⟩ := id hP
  have LhS3 := MIn.lt hS
  obtain ⟨fhS3_0, fhS3_1, fhS3_2, fhS3_3, fhS3_4, fhS3_5, fhS3_6, fhS3_7, fhS3_8, fhS3_9, fhS3_10, fhS3_11⟩ := id hS
  have LhQ3 := PIn.lt hQ
  obtain ⟨fhQ3_0, fhQ3_1, fhQ3_2, fhQ3_3⟩ := id hQ
  have hX := Var.old hX (.cells #[.int .i64 a.m, .int .i64 a.s] 23)
  have hY := Var.old hY (.cells #[.int .i64 a.m, .int .i64 a.s] 23)
  have hP := PIn.old hP (.cells #[.int .i64 a.m, .int .i64 a.s] 23)
  have hS := MIn.old hS (.cells #[.int .i64 a.m, .int .i64 a.s] 23)
  have hQ := PIn.old hQ (.cells #[.int .i64 a.m, .int .i64 a.s] 23)
  have hA := Var.new w3 a 23
  have HB := Lib.hid (HB.out.alloc HB.out.size (.cells #[.int .i64 a.m, .int .i64 a.s] 23))
  go_wp2_with fail
  refine (add_any p.y y b K _ HBB.out).mono ?_
  rintro e w4 ⟨rfl, k⟩
  have HB := Lib.hid (HB.out.trans (k.mono HB.out.size))
  have hX := Var.later hX k
  have hY := Var.later hY k
  have hP := PIn.later hP k
  have hS := MIn.later hS k
  have hQ := PIn.later hQ k
  have hA := Var.later hA k
  clear LhX3 fhX3_0 fhX3_1 LhY3 fhY3_0 fhY3_1 LhP3 fhP3_0 fhP3_1 fhP3_2 fhP3_3 LhS3 fhS3_0 fhS3_1 fhS3_2 fhS3_3 fhS3_4 fhS3_5 fhS3_6 fhS3_7 fhS3_8 fhS3_9 fhS3_10 fhS3_11 LhQ3 fhQ3_0 fhQ3_1 fhQ3_2 fhQ3_3
  clear k
  have LhX4 := Var.lt hX
  obtain ⟨fhX4_0, fhX4_1⟩ := id hX
  have LhY4 := Var.lt hY
  obtain ⟨fhY4_0, fhY4_1⟩ := id hY
  have LhP4 := PIn.lt hP
  obtain ⟨fhP4_0, fhP4_1, fhP4_2, fhP4_3⟩ := id hP
  have LhS4 := MIn.lt hS
  obtain ⟨fhS4_0, fhS4_1, fhS4_2, fhS4_3, fhS4_4, fhS4_5, fhS4_6, fhS4_7, fhS4_8, fhS4_9, fhS4_10, fhS4_11⟩ := id hS
  have LhQ4 := PIn.lt hQ
  obtain ⟨fhQ4_0, fhQ4_1, fhQ4_2, fhQ4_3⟩ := id hQ
  have LhA4 := Var.lt hA
  obtain ⟨fhA4_0, fhA4_1⟩ := id hA
  have hX := Var.old hX (.cells #[.int .i64 b.m, .int .i64 b.s] 23)
  have hY := Var.old hY (.cells #[.int .i64 b.m, .int .i64 b.s] 23)
  have hP := PIn.old hP (.cells #[.int .i64 b.m, .int .i64 b.s] 23)
  have hS := MIn.old hS (.cells #[.int .i64 b.m, .int .i64 b.s] 23)
  have hQ := PIn.old hQ (.cells #[.int .i64 b.m, .int .i64 b.s] 23)
  have hA := Var.old hA (.cells #[.int .i64 b.m, .int .i64 b.s] 23)
  have hB := Var.new w4 b 23
  have HB := Lib.hid (HB.out.alloc HB.out.size (.cells #[.int .i64 b.m, .int .i64 b.s] 23))
  go_wp2_with fail
  refine (check_any p.x _ 1 (.inr ⟨HP1.out, rfl⟩)).mono ?_
  rintro e w5 ⟨rfl, k⟩
  have HB := Lib.hid (HB.out.trans (k.mono HB.out.size))
  have hX := Var.later hX k
  have hY := Var.later hY k
  have hP := PIn.later hP k
  have hS := MIn.later hS k
  have hQ := PIn.later hQ k
  have hA := Var.later hA k
  have hB := Var.later hB k
  clear LhX4 fhX4_0 fhX4_1 LhY4 fhY4_0 fhY4_1 LhP4 fhP4_0 fhP4_1 fhP4_2 fhP4_3 LhS4 fhS4_0 fhS4_1 fhS4_2 fhS4_3 fhS4_4 fhS4_5 fhS4_6 fhS4_7 fhS4_8 fhS4_9 fhS4_10 fhS4_11 LhQ4 fhQ4_0 fhQ4_1 fhQ4_2 fhQ4_3 LhA4 fhA4_0 fhA4_1
  clear k
  have LhX5 := Var.lt hX
  obtain ⟨fhX5_0, fhX5_1⟩ := id hX
  have LhY5 := Var.lt hY
  obtain ⟨fhY5_0, fhY5_1⟩ := id hY
  have LhP5 := PIn.lt hP
  obtain ⟨fhP5_0, fhP5_1, fhP5_2, fhP5_3⟩ := id hP
  have LhS5 := MIn.lt hS
  obtain ⟨fhS5_0, fhS5_1, fhS5_2, fhS5_3, fhS5_4, fhS5_5, fhS5_6, fhS5_7, fhS5_8, fhS5_9, fhS5_10, fhS5_11⟩ := id hS
  have LhQ5 := PIn.lt hQ
  obtain ⟨fhQ5_0, fhQ5_1, fhQ5_2, fhQ5_3⟩ := id hQ
  have LhA5 := Var.lt hA
  obtain ⟨fhA5_0, fhA5_1⟩ := id hA
  have LhB5 := Var.lt hB
  obtain ⟨fhB5_0, fhB5_1⟩ := id hB
  go_wp2_with fail
  refine (mawake_any _).mono ?_
  rintro e w6 ⟨rfl, k⟩
  have HB := Lib.hid (HB.out.trans (k.mono HB.out.size))
  have hX := Var.later hX k
  have hY := Var.later hY k
  have hP := PIn.later hP k
  have hS := MIn.later hS k
  have hQ := PIn.later hQ k
  have hA := Var.later hA k
  have hB := Var.later hB k
  clear LhX5 fhX5_0 fhX5_1 LhY5 fhY5_0 fhY5_1 LhP5 fhP5_0 fhP5_1 fhP5_2 fhP5_3 LhS5 fhS5_0 fhS5_1 fhS5_2 fhS5_3 fhS5_4 fhS5_5 fhS5_6 fhS5_7 fhS5_8 fhS5_9 fhS5_10 fhS5_11 LhQ5 fhQ5_0 fhQ5_1 fhQ5_2 fhQ5_3 LhA5 fhA5_0 fhA5_1 LhB5 fhB5_0 fhB5_1
  clear k
  have LhX6 := Var.lt hX
  obtain ⟨fhX6_0, fhX6_1⟩ := id hX
  have LhY6 := Var.lt hY
  obtain ⟨fhY6_0, fhY6_1⟩ := id hY
  have LhP6 := PIn.lt hP
  obtain ⟨fhP6_0, fhP6_1, fhP6_2, fhP6_3⟩ := id hP
  have LhS6 := MIn.lt hS
  obtain ⟨fhS6_0, fhS6_1, fhS6_2, fhS6_3, fhS6_4, fhS6_5, fhS6_6, fhS6_7, fhS6_8, fhS6_9, fhS6_10, fhS6_11⟩ := id hS
  have LhQ6 := PIn.lt hQ
  obtain ⟨fhQ6_0, fhQ6_1, fhQ6_2, fhQ6_3⟩ := id hQ
  have LhA6 := Var.lt hA
  obtain ⟨fhA6_0, fhA6_1⟩ := id hA
  have LhB6 := Var.lt hB
  obtain ⟨fhB6_0, fhB6_1⟩ := id hB
  go_wp2
  go_ret
  exact ⟨rfl, HB.out⟩

set_option maxRecDepth 100000 in
set_option maxHeartbeats 16000000 in
theorem steps_c (x y : DV) (p : PV) (a b : DV) (G K : Int) (w : World) (hx : x.Ok) (hy : y.Ok) (hp0 : p.x.Ok) (hp1 : ¬ p.y.Ok) (ha : AddIs p.x x a G) (hb : AddIs p.y y b K) :
    Calls Try.prog 6 #[(.agg #[.int .i64 x.m, .int .i64 x.s] : Value), .agg #[.int .i64 y.m, .int .i64 y.s], p.val] w fun e w' => e = .returned (.bool true) ∧ Below w.heap.size w w' := by
  have HX := Lib.hid hx
  have HY := Lib.hid hy
  have HP0 := Lib.hid hp0
  have HP1 := Lib.hid hp1
  have HA := Lib.hid ha
  have HBB := Lib.hid hb
  clear hx hy hp0 hp1 ha hb
  go_enter Try.func6, Try.ntmps6
  have hX := Var.new w x 23
  have hX := Var.old hX (.cells #[.int .i64 y.m, .int .i64 y.s] 23)
  have hY := Var.new (w.alloc (.cells #[.int .i64 x.m, .int .i64 x.s] 23)) y 23
  have hX := Var.old hX (.cells #[.int .i64 p.x.m, .int .i64 p.x.s, .int .i64 p.y.m, .int .i64 p.y.s] 27)
  have hY := Var.old hY (.cells #[.int .i64 p.x.m, .int .i64 p.x.s, .int .i64 p.y.m, .int .i64 p.y.s] 27)
  have hP := PIn.made ((w.alloc (.cells #[.int .i64 x.m, .int .i64 x.s] 23)).alloc (.cells #[.int .i64 y.m, .int .i64 y.s] 23)) 27 p
  simp only [World.size_alloc] at hX hY hP
  have HB : Hid (Below w.heap.size w _) := Below.alloc (Below.alloc (Below.alloc (Below.refl _ _) (by first | exact Nat.le_refl _ | omega | (simp; omega) | (simp; done)) (.cells #[.int .i64 x.m, .int .i64 x.s] 23)) (by first | exact Nat.le_refl _ | omega | (simp; omega) | (simp; done)) (.cells #[.int .i64 y.m, .int .i64 y.s] 23)) (by first | exact Nat.le_refl _ | omega | (simp; omega) | (simp; done)) (.cells #[.int .i64 p.x.m, .int .i64 p.x.s, .int .i64 p.y.m, .int .i64 p.y.s] 27)
  go_wp2_with fail
  refine (step_any x y ⟨.one, .zero, .zero, .one, x, y⟩ 0 _ (.inl ⟨HX.out, HY.out, rfl, rfl⟩)).mono ?_
  rintro e w1 ⟨rfl, k⟩
  have HB := Lib.hid (HB.out.trans (k.mono HB.out.size))
  have hX := Var.later hX k
  have hY := Var.later hY k
  have hP := PIn.later hP k
  clear k
  have LhX1 := Var.lt hX
  obtain ⟨fhX1_0, fhX1_1⟩ := id hX
  have LhY1 := Var.lt hY
  obtain ⟨fhY1_0, fhY1_1⟩ := id hY
  have LhP1 := PIn.lt hP
  obtain ⟨fhP1_0, fhP1_1, fhP1_2, fhP1_3⟩ := id hP
  have hX := Var.old hX (.cells #[.int .i64 1, .int .i64 0, .int .i64 0, .int .i64 0, .int .i64 0, .int .i64 0, .int .i64 1, .int .i64 0, .int .i64 x.m, .int .i64 x.s, .int .i64 y.m, .int .i64 y.s] 25)
  have hY := Var.old hY (.cells #[.int .i64 1, .int .i64 0, .int .i64 0, .int .i64 0, .int .i64 0, .int .i64 0, .int .i64 1, .int .i64 0, .int .i64 x.m, .int .i64 x.s, .int .i64 y.m, .int .i64 y.s] 25)
  have hP := PIn.old hP (.cells #[.int .i64 1, .int .i64 0, .int .i64 0, .int .i64 0, .int .i64 0, .int .i64 0, .int .i64 1, .int .i64 0, .int .i64 x.m, .int .i64 x.s, .int .i64 y.m, .int .i64 y.s] 25)
  have hS := MIn.made w1 25 ⟨⟨1, 0⟩, ⟨0, 0⟩, ⟨0, 0⟩, ⟨1, 0⟩, x, y⟩
  have HB := Lib.hid (HB.out.alloc HB.out.size (.cells #[.int .i64 1, .int .i64 0, .int .i64 0, .int .i64 0, .int .i64 0, .int .i64 0, .int .i64 1, .int .i64 0, .int .i64 x.m, .int .i64 x.s, .int .i64 y.m, .int .i64 y.s] 25))
  go_wp2_with fail
  refine (map_any ⟨.one, .zero, .zero, .one, x, y⟩ p .zero 1 _ (.inr ⟨fun h => HP1.out h.2.2, rfl, rfl⟩)).mono ?_
  rintro e w2 ⟨rfl, k⟩
  have HB := Lib.hid (HB.out.trans (k.mono HB.out.size))
  have hX := Var.later hX k
  have hY := Var.later hY k
  have hP := PIn.later hP k
  have hS := MIn.later hS k
  clear LhX1 fhX1_0 fhX1_1 LhY1 fhY1_0 fhY1_1 LhP1 fhP1_0 fhP1_1 fhP1_2 fhP1_3
  clear k
  have LhX2 := Var.lt hX
  obtain ⟨fhX2_0, fhX2_1⟩ := id hX
  have LhY2 := Var.lt hY
  obtain ⟨fhY2_0, fhY2_1⟩ := id hY
  have LhP2 := PIn.lt hP
  obtain ⟨fhP2_0, fhP2_1, fhP2_2, fhP2_3⟩ := id hP
  have LhS2 := MIn.lt hS
  obtain ⟨fhS2_0, fhS2_1, fhS2_2, fhS2_3, fhS2_4, fhS2_5, fhS2_6, fhS2_7, fhS2_8, fhS2_9, fhS2_10, fhS2_11⟩ := id hS
  have hX := Var.old hX (.cells #[.int .i64 0, .int .i64 0, .int .i64 0, .int .i64 0] 27)
  have hY := Var.old hY (.cells #[.int .i64 0, .int .i64 0, .int .i64 0, .int .i64 0] 27)
  have hP := PIn.old hP (.cells #[.int .i64 0, .int .i64 0, .int .i64 0, .int .i64 0] 27)
  have hS := MIn.old hS (.cells #[.int .i64 0, .int .i64 0, .int .i64 0, .int .i64 0] 27)
  have hQ := PIn.made w2 27 ⟨⟨0, 0⟩, ⟨0, 0⟩⟩
  have HB := Lib.hid (HB.out.alloc HB.out.size (.cells #[.int .i64 0, .int .i64 0, .int .i64 0, .int .i64 0] 27))
  go_wp2_with fail
  refine (add_any p.x x a G _ HA.out).mono ?_
  rintro e w3 ⟨rfl, k⟩
  have HB := Lib.hid (HB.out.trans (k.mono HB.out.size))
  have hX := Var.later hX k
  have hY := Var.later hY k
  have hP := PIn.later hP k
  have hS := MIn.later hS k
  have hQ := PIn.later hQ k
  clear LhX2 fhX2_0 fhX2_1 LhY2 fhY2_0 fhY2_1 LhP2 fhP2_0 fhP2_1 fhP2_2 fhP2_3 LhS2 fhS2_0 fhS2_1 fhS2_2 fhS2_3 fhS2_4 fhS2_5 fhS2_6 fhS2_7 fhS2_8 fhS2_9 fhS2_10 fhS2_11
  clear k
  have LhX3 := Var.lt hX
  obtain ⟨fhX3_0, fhX3_1⟩ := id hX
  have LhY3 := Var.lt hY
  obtain ⟨fhY3_0, fhY3_1⟩ := id hY
  have LhP3 := PIn.lt hP
  obtain ⟨fhP3_0, fhP3_1, fhP3_2, fhP3_3⟩ := id hP
  have LhS3 := MIn.lt hS
  obtain ⟨fhS3_0, fhS3_1, fhS3_2, fhS3_3, fhS3_4, fhS3_5, fhS3_6, fhS3_7, fhS3_8, fhS3_9, fhS3_10, fhS3_11⟩ := id hS
  have LhQ3 := PIn.lt hQ
  obtain ⟨fhQ3_0, fhQ3_1, fhQ3_2, fhQ3_3⟩ := id hQ
  have hX := Var.old hX (.cells #[.int .i64 a.m, .int .i64 a.s] 23)
  have hY := Var.old hY (.cells #[.int .i64 a.m, .int .i64 a.s] 23)
  have hP := PIn.old hP (.cells #[.int .i64 a.m, .int .i64 a.s] 23)
  have hS := MIn.old hS (.cells #[.int .i64 a.m, .int .i64 a.s] 23)
  have hQ := PIn.old hQ (.cells #[.int .i64 a.m, .int .i64 a.s] 23)
  have hA := Var.new w3 a 23
  have HB := Lib.hid (HB.out.alloc HB.out.size (.cells #[.int .i64 a.m, .int .i64 a.s] 23))
  go_wp2_with fail
  refine (add_any p.y y b K _ HBB.out).mono ?_
  rintro e w4 ⟨rfl, k⟩
  have HB := Lib.hid (HB.out.trans (k.mono HB.out.size))
  have hX := Var.later hX k
  have hY := Var.later hY k
  have hP := PIn.later hP k
  have hS := MIn.later hS k
  have hQ := PIn.later hQ k
  have hA := Var.later hA k
  clear LhX3 fhX3_0 fhX3_1 LhY3 fhY3_0 fhY3_1 LhP3 fhP3_0 fhP3_1 fhP3_2 fhP3_3 LhS3 fhS3_0 fhS3_1 fhS3_2 fhS3_3 fhS3_4 fhS3_5 fhS3_6 fhS3_7 fhS3_8 fhS3_9 fhS3_10 fhS3_11 LhQ3 fhQ3_0 fhQ3_1 fhQ3_2 fhQ3_3
  clear k
  have LhX4 := Var.lt hX
  obtain ⟨fhX4_0, fhX4_1⟩ := id hX
  have LhY4 := Var.lt hY
  obtain ⟨fhY4_0, fhY4_1⟩ := id hY
  have LhP4 := PIn.lt hP
  obtain ⟨fhP4_0, fhP4_1, fhP4_2, fhP4_3⟩ := id hP
  have LhS4 := MIn.lt hS
  obtain ⟨fhS4_0, fhS4_1, fhS4_2, fhS4_3, fhS4_4, fhS4_5, fhS4_6, fhS4_7, fhS4_8, fhS4_9, fhS4_10, fhS4_11⟩ := id hS
  have LhQ4 := PIn.lt hQ
  obtain ⟨fhQ4_0, fhQ4_1, fhQ4_2, fhQ4_3⟩ := id hQ
  have LhA4 := Var.lt hA
  obtain ⟨fhA4_0, fhA4_1⟩ := id hA
  have hX := Var.old hX (.cells #[.int .i64 b.m, .int .i64 b.s] 23)
  have hY := Var.old hY (.cells #[.int .i64 b.m, .int .i64 b.s] 23)
  have hP := PIn.old hP (.cells #[.int .i64 b.m, .int .i64 b.s] 23)
  have hS := MIn.old hS (.cells #[.int .i64 b.m, .int .i64 b.s] 23)
  have hQ := PIn.old hQ (.cells #[.int .i64 b.m, .int .i64 b.s] 23)
  have hA := Var.old hA (.cells #[.int .i64 b.m, .int .i64 b.s] 23)
  have hB := Var.new w4 b 23
  have HB := Lib.hid (HB.out.alloc HB.out.size (.cells #[.int .i64 b.m, .int .i64 b.s] 23))
  go_wp2_with fail
  refine (check_any p.x _ 0 (.inl ⟨HP0.out, rfl⟩)).mono ?_
  rintro e w5 ⟨rfl, k⟩
  have HB := Lib.hid (HB.out.trans (k.mono HB.out.size))
  have hX := Var.later hX k
  have hY := Var.later hY k
  have hP := PIn.later hP k
  have hS := MIn.later hS k
  have hQ := PIn.later hQ k
  have hA := Var.later hA k
  have hB := Var.later hB k
  clear LhX4 fhX4_0 fhX4_1 LhY4 fhY4_0 fhY4_1 LhP4 fhP4_0 fhP4_1 fhP4_2 fhP4_3 LhS4 fhS4_0 fhS4_1 fhS4_2 fhS4_3 fhS4_4 fhS4_5 fhS4_6 fhS4_7 fhS4_8 fhS4_9 fhS4_10 fhS4_11 LhQ4 fhQ4_0 fhQ4_1 fhQ4_2 fhQ4_3 LhA4 fhA4_0 fhA4_1
  clear k
  have LhX5 := Var.lt hX
  obtain ⟨fhX5_0, fhX5_1⟩ := id hX
  have LhY5 := Var.lt hY
  obtain ⟨fhY5_0, fhY5_1⟩ := id hY
  have LhP5 := PIn.lt hP
  obtain ⟨fhP5_0, fhP5_1, fhP5_2, fhP5_3⟩ := id hP
  have LhS5 := MIn.lt hS
  obtain ⟨fhS5_0, fhS5_1, fhS5_2, fhS5_3, fhS5_4, fhS5_5, fhS5_6, fhS5_7, fhS5_8, fhS5_9, fhS5_10, fhS5_11⟩ := id hS
  have LhQ5 := PIn.lt hQ
  obtain ⟨fhQ5_0, fhQ5_1, fhQ5_2, fhQ5_3⟩ := id hQ
  have LhA5 := Var.lt hA
  obtain ⟨fhA5_0, fhA5_1⟩ := id hA
  have LhB5 := Var.lt hB
  obtain ⟨fhB5_0, fhB5_1⟩ := id hB
  go_wp2_with fail
  refine (check_any p.y _ 1 (.inr ⟨HP1.out, rfl⟩)).mono ?_
  rintro e w6 ⟨rfl, k⟩
  have HB := Lib.hid (HB.out.trans (k.mono HB.out.size))
  have hX := Var.later hX k
  have hY := Var.later hY k
  have hP := PIn.later hP k
  have hS := MIn.later hS k
  have hQ := PIn.later hQ k
  have hA := Var.later hA k
  have hB := Var.later hB k
  clear LhX5 fhX5_0 fhX5_1 LhY5 fhY5_0 fhY5_1 LhP5 fhP5_0 fhP5_1 fhP5_2 fhP5_3 LhS5 fhS5_0 fhS5_1 fhS5_2 fhS5_3 fhS5_4 fhS5_5 fhS5_6 fhS5_7 fhS5_8 fhS5_9 fhS5_10 fhS5_11 LhQ5 fhQ5_0 fhQ5_1 fhQ5_2 fhQ5_3 LhA5 fhA5_0 fhA5_1 LhB5 fhB5_0 fhB5_1
  clear k
  have LhX6 := Var.lt hX
  obtain ⟨fhX6_0, fhX6_1⟩ := id hX
  have LhY6 := Var.lt hY
  obtain ⟨fhY6_0, fhY6_1⟩ := id hY
  have LhP6 := PIn.lt hP
  obtain ⟨fhP6_0, fhP6_1, fhP6_2, fhP6_3⟩ := id hP
  have LhS6 := MIn.lt hS
  obtain ⟨fhS6_0, fhS6_1, fhS6_2, fhS6_3, fhS6_4, fhS6_5, fhS6_6, fhS6_7, fhS6_8, fhS6_9, fhS6_10, fhS6_11⟩ := id hS
  have LhQ6 := PIn.lt hQ
  obtain ⟨fhQ6_0, fhQ6_1, fhQ6_2, fhQ6_3⟩ := id hQ
  have LhA6 := Var.lt hA
  obtain ⟨fhA6_0, fhA6_1⟩ := id hA
  have LhB6 := Var.lt hB
  obtain ⟨fhB6_0, fhB6_1⟩ := id hB
  go_wp2_with fail
  refine (mawake_any _).mono ?_
  rintro e w7 ⟨rfl, k⟩
  have HB := Lib.hid (HB.out.trans (k.mono HB.out.size))
  have hX := Var.later hX k
  have hY := Var.later hY k
  have hP := PIn.later hP k
  have hS := MIn.later hS k
  have hQ := PIn.later hQ k
  have hA := Var.later hA k
  have hB := Var.later hB k
  clear LhX6 fhX6_0 fhX6_1 LhY6 fhY6_0 fhY6_1 LhP6 fhP6_0 fhP6_1 fhP6_2 fhP6_3 LhS6 fhS6_0 fhS6_1 fhS6_2 fhS6_3 fhS6_4 fhS6_5 fhS6_6 fhS6_7 fhS6_8 fhS6_9 fhS6_10 fhS6_11 LhQ6 fhQ6_0 fhQ6_1 fhQ6_2 fhQ6_3 LhA6 fhA6_0 fhA6_1 LhB6 fhB6_0 fhB6_1
  clear k
  have LhX7 := Var.lt hX
  obtain ⟨fhX7_0, fhX7_1⟩ := id hX
  have LhY7 := Var.lt hY
  obtain ⟨fhY7_0, fhY7_1⟩ := id hY
  have LhP7 := PIn.lt hP
  obtain ⟨fhP7_0, fhP7_1, fhP7_2, fhP7_3⟩ := id hP
  have LhS7 := MIn.lt hS
  obtain ⟨fhS7_0, fhS7_1, fhS7_2, fhS7_3, fhS7_4, fhS7_5, fhS7_6, fhS7_7, fhS7_8, fhS7_9, fhS7_10, fhS7_11⟩ := id hS
  have LhQ7 := PIn.lt hQ
  obtain ⟨fhQ7_0, fhQ7_1, fhQ7_2, fhQ7_3⟩ := id hQ
  have LhA7 := Var.lt hA
  obtain ⟨fhA7_0, fhA7_1⟩ := id hA
  have LhB7 := Var.lt hB
  obtain ⟨fhB7_0, fhB7_1⟩ := id hB
  go_wp2
  go_ret
  exact ⟨rfl, HB.out⟩

set_option maxRecDepth 100000 in
set_option maxHeartbeats 16000000 in
theorem steps_d1 (x y : DV) (p : PV) (a b : DV) (K : Int) (w : World) (hx : x.Ok) (hy : y.Ok) (hp : p.Ok) (ha : Tells (p.x.v + x.v) 9 a 5) (hb : Tells (p.y.v + y.v) 9 b K) :
    Calls Try.prog 6 #[(.agg #[.int .i64 x.m, .int .i64 x.s] : Value), .agg #[.int .i64 y.m, .int .i64 y.s], p.val] w fun e w' => e = .returned (.bool true) ∧ Below w.heap.size w w' := by
  have HX := Lib.hid hx
  have HY := Lib.hid hy
  have HP := Lib.hid hp
  have HA := Lib.hid ha
  have HBB := Lib.hid hb
  clear hx hy hp ha hb
  go_enter Try.func6, Try.ntmps6
  have hX := Var.new w x 23
  have hX := Var.old hX (.cells #[.int .i64 y.m, .int .i64 y.s] 23)
  have hY := Var.new (w.alloc (.cells #[.int .i64 x.m, .int .i64 x.s] 23)) y 23
  have hX := Var.old hX (.cells #[.int .i64 p.x.m, .int .i64 p.x.s, .int .i64 p.y.m, .int .i64 p.y.s] 27)
  have hY := Var.old hY (.cells #[.int .i64 p.x.m, .int .i64 p.x.s, .int .i64 p.y.m, .int .i64 p.y.s] 27)
  have hP := PIn.made ((w.alloc (.cells #[.int .i64 x.m, .int .i64 x.s] 23)).alloc (.cells #[.int .i64 y.m, .int .i64 y.s] 23)) 27 p
  simp only [World.size_alloc] at hX hY hP
  have HB : Hid (Below w.heap.size w _) := Below.alloc (Below.alloc (Below.alloc (Below.refl _ _) (by first | exact Nat.le_refl _ | omega | (simp; omega) | (simp; done)) (.cells #[.int .i64 x.m, .int .i64 x.s] 23)) (by first | exact Nat.le_refl _ | omega | (simp; omega) | (simp; done)) (.cells #[.int .i64 y.m, .int .i64 y.s] 23)) (by first | exact Nat.le_refl _ | omega | (simp; omega) | (simp; done)) (.cells #[.int .i64 p.x.m, .int .i64 p.x.s, .int .i64 p.y.m, .int .i64 p.y.s] 27)
  go_wp2_with fail
  refine (step_any x y ⟨.one, .zero, .zero, .one, x, y⟩ 0 _ (.inl ⟨HX.out, HY.out, rfl, rfl⟩)).mono ?_
  rintro e w1 ⟨rfl, k⟩
  have HB := Lib.hid (HB.out.trans (k.mono HB.out.size))
  have hX := Var.later hX k
  have hY := Var.later hY k
  have hP := PIn.later hP k
  clear k
  have LhX1 := Var.lt hX
  obtain ⟨fhX1_0, fhX1_1⟩ := id hX
  have LhY1 := Var.lt hY
  obtain ⟨fhY1_0, fhY1_1⟩ := id hY
  have LhP1 := PIn.lt hP
  obtain ⟨fhP1_0, fhP1_1, fhP1_2, fhP1_3⟩ := id hP
  have hX := Var.old hX (.cells #[.int .i64 1, .int .i64 0, .int .i64 0, .int .i64 0, .int .i64 0, .int .i64 0, .int .i64 1, .int .i64 0, .int .i64 x.m, .int .i64 x.s, .int .i64 y.m, .int .i64 y.s] 25)
  have hY := Var.old hY (.cells #[.int .i64 1, .int .i64 0, .int .i64 0, .int .i64 0, .int .i64 0, .int .i64 0, .int .i64 1, .int .i64 0, .int .i64 x.m, .int .i64 x.s, .int .i64 y.m, .int .i64 y.s] 25)
  have hP := PIn.old hP (.cells #[.int .i64 1, .int .i64 0, .int .i64 0, .int .i64 0, .int .i64 0, .int .i64 0, .int .i64 1, .int .i64 0, .int .i64 x.m, .int .i64 x.s, .int .i64 y.m, .int .i64 y.s] 25)
  have hS := MIn.made w1 25 ⟨⟨1, 0⟩, ⟨0, 0⟩, ⟨0, 0⟩, ⟨1, 0⟩, x, y⟩
  have HB := Lib.hid (HB.out.alloc HB.out.size (.cells #[.int .i64 1, .int .i64 0, .int .i64 0, .int .i64 0, .int .i64 0, .int .i64 0, .int .i64 1, .int .i64 0, .int .i64 x.m, .int .i64 x.s, .int .i64 y.m, .int .i64 y.s] 25))
  go_wp2_with fail
  refine (map_any ⟨.one, .zero, .zero, .one, x, y⟩ p .zero 5 _ (steps_over HX.out HY.out HP.out HA.out HBB.out (.inl rfl))).mono ?_
  rintro e w2 ⟨rfl, k⟩
  have HB := Lib.hid (HB.out.trans (k.mono HB.out.size))
  have hX := Var.later hX k
  have hY := Var.later hY k
  have hP := PIn.later hP k
  have hS := MIn.later hS k
  clear LhX1 fhX1_0 fhX1_1 LhY1 fhY1_0 fhY1_1 LhP1 fhP1_0 fhP1_1 fhP1_2 fhP1_3
  clear k
  have LhX2 := Var.lt hX
  obtain ⟨fhX2_0, fhX2_1⟩ := id hX
  have LhY2 := Var.lt hY
  obtain ⟨fhY2_0, fhY2_1⟩ := id hY
  have LhP2 := PIn.lt hP
  obtain ⟨fhP2_0, fhP2_1, fhP2_2, fhP2_3⟩ := id hP
  have LhS2 := MIn.lt hS
  obtain ⟨fhS2_0, fhS2_1, fhS2_2, fhS2_3, fhS2_4, fhS2_5, fhS2_6, fhS2_7, fhS2_8, fhS2_9, fhS2_10, fhS2_11⟩ := id hS
  have hX := Var.old hX (.cells #[.int .i64 0, .int .i64 0, .int .i64 0, .int .i64 0] 27)
  have hY := Var.old hY (.cells #[.int .i64 0, .int .i64 0, .int .i64 0, .int .i64 0] 27)
  have hP := PIn.old hP (.cells #[.int .i64 0, .int .i64 0, .int .i64 0, .int .i64 0] 27)
  have hS := MIn.old hS (.cells #[.int .i64 0, .int .i64 0, .int .i64 0, .int .i64 0] 27)
  have hQ := PIn.made w2 27 ⟨⟨0, 0⟩, ⟨0, 0⟩⟩
  have HB := Lib.hid (HB.out.alloc HB.out.size (.cells #[.int .i64 0, .int .i64 0, .int .i64 0, .int .i64 0] 27))
  go_wp2_with fail
  refine (add_any p.x x a 5 _ (.inl ⟨HP.out.1, HX.out, HA.out⟩)).mono ?_
  rintro e w3 ⟨rfl, k⟩
  have HB := Lib.hid (HB.out.trans (k.mono HB.out.size))
  have hX := Var.later hX k
  have hY := Var.later hY k
  have hP := PIn.later hP k
  have hS := MIn.later hS k
  have hQ := PIn.later hQ k
  clear LhX2 fhX2_0 fhX2_1 LhY2 fhY2_0 fhY2_1 LhP2 fhP2_0 fhP2_1 fhP2_2 fhP2_3 LhS2 fhS2_0 fhS2_1 fhS2_2 fhS2_3 fhS2_4 fhS2_5 fhS2_6 fhS2_7 fhS2_8 fhS2_9 fhS2_10 fhS2_11
  clear k
  have LhX3 := Var.lt hX
  obtain ⟨fhX3_0, fhX3_1⟩ := id hX
  have LhY3 := Var.lt hY
  obtain ⟨fhY3_0, fhY3_1⟩ := id hY
  have LhP3 := PIn.lt hP
  obtain ⟨fhP3_0, fhP3_1, fhP3_2, fhP3_3⟩ := id hP
  have LhS3 := MIn.lt hS
  obtain ⟨fhS3_0, fhS3_1, fhS3_2, fhS3_3, fhS3_4, fhS3_5, fhS3_6, fhS3_7, fhS3_8, fhS3_9, fhS3_10, fhS3_11⟩ := id hS
  have LhQ3 := PIn.lt hQ
  obtain ⟨fhQ3_0, fhQ3_1, fhQ3_2, fhQ3_3⟩ := id hQ
  have hX := Var.old hX (.cells #[.int .i64 a.m, .int .i64 a.s] 23)
  have hY := Var.old hY (.cells #[.int .i64 a.m, .int .i64 a.s] 23)
  have hP := PIn.old hP (.cells #[.int .i64 a.m, .int .i64 a.s] 23)
  have hS := MIn.old hS (.cells #[.int .i64 a.m, .int .i64 a.s] 23)
  have hQ := PIn.old hQ (.cells #[.int .i64 a.m, .int .i64 a.s] 23)
  have hA := Var.new w3 a 23
  have HB := Lib.hid (HB.out.alloc HB.out.size (.cells #[.int .i64 a.m, .int .i64 a.s] 23))
  go_wp2_with fail
  refine (add_any p.y y b K _ (.inl ⟨HP.out.2, HY.out, HBB.out⟩)).mono ?_
  rintro e w4 ⟨rfl, k⟩
  have HB := Lib.hid (HB.out.trans (k.mono HB.out.size))
  have hX := Var.later hX k
  have hY := Var.later hY k
  have hP := PIn.later hP k
  have hS := MIn.later hS k
  have hQ := PIn.later hQ k
  have hA := Var.later hA k
  clear LhX3 fhX3_0 fhX3_1 LhY3 fhY3_0 fhY3_1 LhP3 fhP3_0 fhP3_1 fhP3_2 fhP3_3 LhS3 fhS3_0 fhS3_1 fhS3_2 fhS3_3 fhS3_4 fhS3_5 fhS3_6 fhS3_7 fhS3_8 fhS3_9 fhS3_10 fhS3_11 LhQ3 fhQ3_0 fhQ3_1 fhQ3_2 fhQ3_3
  clear k
  have LhX4 := Var.lt hX
  obtain ⟨fhX4_0, fhX4_1⟩ := id hX
  have LhY4 := Var.lt hY
  obtain ⟨fhY4_0, fhY4_1⟩ := id hY
  have LhP4 := PIn.lt hP
  obtain ⟨fhP4_0, fhP4_1, fhP4_2, fhP4_3⟩ := id hP
  have LhS4 := MIn.lt hS
  obtain ⟨fhS4_0, fhS4_1, fhS4_2, fhS4_3, fhS4_4, fhS4_5, fhS4_6, fhS4_7, fhS4_8, fhS4_9, fhS4_10, fhS4_11⟩ := id hS
  have LhQ4 := PIn.lt hQ
  obtain ⟨fhQ4_0, fhQ4_1, fhQ4_2, fhQ4_3⟩ := id hQ
  have LhA4 := Var.lt hA
  obtain ⟨fhA4_0, fhA4_1⟩ := id hA
  have hX := Var.old hX (.cells #[.int .i64 b.m, .int .i64 b.s] 23)
  have hY := Var.old hY (.cells #[.int .i64 b.m, .int .i64 b.s] 23)
  have hP := PIn.old hP (.cells #[.int .i64 b.m, .int .i64 b.s] 23)
  have hS := MIn.old hS (.cells #[.int .i64 b.m, .int .i64 b.s] 23)
  have hQ := PIn.old hQ (.cells #[.int .i64 b.m, .int .i64 b.s] 23)
  have hA := Var.old hA (.cells #[.int .i64 b.m, .int .i64 b.s] 23)
  have hB := Var.new w4 b 23
  have HB := Lib.hid (HB.out.alloc HB.out.size (.cells #[.int .i64 b.m, .int .i64 b.s] 23))
  go_wp2_with fail
  refine (check_any p.x _ 0 (.inl ⟨HP.out.1, rfl⟩)).mono ?_
  rintro e w5 ⟨rfl, k⟩
  have HB := Lib.hid (HB.out.trans (k.mono HB.out.size))
  have hX := Var.later hX k
  have hY := Var.later hY k
  have hP := PIn.later hP k
  have hS := MIn.later hS k
  have hQ := PIn.later hQ k
  have hA := Var.later hA k
  have hB := Var.later hB k
  clear LhX4 fhX4_0 fhX4_1 LhY4 fhY4_0 fhY4_1 LhP4 fhP4_0 fhP4_1 fhP4_2 fhP4_3 LhS4 fhS4_0 fhS4_1 fhS4_2 fhS4_3 fhS4_4 fhS4_5 fhS4_6 fhS4_7 fhS4_8 fhS4_9 fhS4_10 fhS4_11 LhQ4 fhQ4_0 fhQ4_1 fhQ4_2 fhQ4_3 LhA4 fhA4_0 fhA4_1
  clear k
  have LhX5 := Var.lt hX
  obtain ⟨fhX5_0, fhX5_1⟩ := id hX
  have LhY5 := Var.lt hY
  obtain ⟨fhY5_0, fhY5_1⟩ := id hY
  have LhP5 := PIn.lt hP
  obtain ⟨fhP5_0, fhP5_1, fhP5_2, fhP5_3⟩ := id hP
  have LhS5 := MIn.lt hS
  obtain ⟨fhS5_0, fhS5_1, fhS5_2, fhS5_3, fhS5_4, fhS5_5, fhS5_6, fhS5_7, fhS5_8, fhS5_9, fhS5_10, fhS5_11⟩ := id hS
  have LhQ5 := PIn.lt hQ
  obtain ⟨fhQ5_0, fhQ5_1, fhQ5_2, fhQ5_3⟩ := id hQ
  have LhA5 := Var.lt hA
  obtain ⟨fhA5_0, fhA5_1⟩ := id hA
  have LhB5 := Var.lt hB
  obtain ⟨fhB5_0, fhB5_1⟩ := id hB
  go_wp2_with fail
  refine (check_any p.y _ 0 (.inl ⟨HP.out.2, rfl⟩)).mono ?_
  rintro e w6 ⟨rfl, k⟩
  have HB := Lib.hid (HB.out.trans (k.mono HB.out.size))
  have hX := Var.later hX k
  have hY := Var.later hY k
  have hP := PIn.later hP k
  have hS := MIn.later hS k
  have hQ := PIn.later hQ k
  have hA := Var.later hA k
  have hB := Var.later hB k
  clear LhX5 fhX5_0 fhX5_1 LhY5 fhY5_0 fhY5_1 LhP5 fhP5_0 fhP5_1 fhP5_2 fhP5_3 LhS5 fhS5_0 fhS5_1 fhS5_2 fhS5_3 fhS5_4 fhS5_5 fhS5_6 fhS5_7 fhS5_8 fhS5_9 fhS5_10 fhS5_11 LhQ5 fhQ5_0 fhQ5_1 fhQ5_2 fhQ5_3 LhA5 fhA5_0 fhA5_1 LhB5 fhB5_0 fhB5_1
  clear k
  have LhX6 := Var.lt hX
  obtain ⟨fhX6_0, fhX6_1⟩ := id hX
  have LhY6 := Var.lt hY
  obtain ⟨fhY6_0, fhY6_1⟩ := id hY
  have LhP6 := PIn.lt hP
  obtain ⟨fhP6_0, fhP6_1, fhP6_2, fhP6_3⟩ := id hP
  have LhS6 := MIn.lt hS
  obtain ⟨fhS6_0, fhS6_1, fhS6_2, fhS6_3, fhS6_4, fhS6_5, fhS6_6, fhS6_7, fhS6_8, fhS6_9, fhS6_10, fhS6_11⟩ := id hS
  have LhQ6 := PIn.lt hQ
  obtain ⟨fhQ6_0, fhQ6_1, fhQ6_2, fhQ6_3⟩ := id hQ
  have LhA6 := Var.lt hA
  obtain ⟨fhA6_0, fhA6_1⟩ := id hA
  have LhB6 := Var.lt hB
  obtain ⟨fhB6_0, fhB6_1⟩ := id hB
  go_wp2_with fail
  refine (mawake_any _).mono ?_
  rintro e w7 ⟨rfl, k⟩
  have HB := Lib.hid (HB.out.trans (k.mono HB.out.size))
  have hX := Var.later hX k
  have hY := Var.later hY k
  have hP := PIn.later hP k
  have hS := MIn.later hS k
  have hQ := PIn.later hQ k
  have hA := Var.later hA k
  have hB := Var.later hB k
  clear LhX6 fhX6_0 fhX6_1 LhY6 fhY6_0 fhY6_1 LhP6 fhP6_0 fhP6_1 fhP6_2 fhP6_3 LhS6 fhS6_0 fhS6_1 fhS6_2 fhS6_3 fhS6_4 fhS6_5 fhS6_6 fhS6_7 fhS6_8 fhS6_9 fhS6_10 fhS6_11 LhQ6 fhQ6_0 fhQ6_1 fhQ6_2 fhQ6_3 LhA6 fhA6_0 fhA6_1 LhB6 fhB6_0 fhB6_1
  clear k
  have LhX7 := Var.lt hX
  obtain ⟨fhX7_0, fhX7_1⟩ := id hX
  have LhY7 := Var.lt hY
  obtain ⟨fhY7_0, fhY7_1⟩ := id hY
  have LhP7 := PIn.lt hP
  obtain ⟨fhP7_0, fhP7_1, fhP7_2, fhP7_3⟩ := id hP
  have LhS7 := MIn.lt hS
  obtain ⟨fhS7_0, fhS7_1, fhS7_2, fhS7_3, fhS7_4, fhS7_5, fhS7_6, fhS7_7, fhS7_8, fhS7_9, fhS7_10, fhS7_11⟩ := id hS
  have LhQ7 := PIn.lt hQ
  obtain ⟨fhQ7_0, fhQ7_1, fhQ7_2, fhQ7_3⟩ := id hQ
  have LhA7 := Var.lt hA
  obtain ⟨fhA7_0, fhA7_1⟩ := id hA
  have LhB7 := Var.lt hB
  obtain ⟨fhB7_0, fhB7_1⟩ := id hB
  go_wp2
  go_ret
  exact ⟨rfl, HB.out⟩

set_option maxRecDepth 100000 in
set_option maxHeartbeats 16000000 in
theorem steps_d2 (x y : DV) (p : PV) (a b : DV) (w : World) (hx : x.Ok) (hy : y.Ok) (hp : p.Ok) (ha : Tells (p.x.v + x.v) 9 a 0) (hb : Tells (p.y.v + y.v) 9 b 5) :
    Calls Try.prog 6 #[(.agg #[.int .i64 x.m, .int .i64 x.s] : Value), .agg #[.int .i64 y.m, .int .i64 y.s], p.val] w fun e w' => e = .returned (.bool true) ∧ Below w.heap.size w w' := by
  have HX := Lib.hid hx
  have HY := Lib.hid hy
  have HP := Lib.hid hp
  have HA := Lib.hid ha
  have HBB := Lib.hid hb
  clear hx hy hp ha hb
  go_enter Try.func6, Try.ntmps6
  have hX := Var.new w x 23
  have hX := Var.old hX (.cells #[.int .i64 y.m, .int .i64 y.s] 23)
  have hY := Var.new (w.alloc (.cells #[.int .i64 x.m, .int .i64 x.s] 23)) y 23
  have hX := Var.old hX (.cells #[.int .i64 p.x.m, .int .i64 p.x.s, .int .i64 p.y.m, .int .i64 p.y.s] 27)
  have hY := Var.old hY (.cells #[.int .i64 p.x.m, .int .i64 p.x.s, .int .i64 p.y.m, .int .i64 p.y.s] 27)
  have hP := PIn.made ((w.alloc (.cells #[.int .i64 x.m, .int .i64 x.s] 23)).alloc (.cells #[.int .i64 y.m, .int .i64 y.s] 23)) 27 p
  simp only [World.size_alloc] at hX hY hP
  have HB : Hid (Below w.heap.size w _) := Below.alloc (Below.alloc (Below.alloc (Below.refl _ _) (by first | exact Nat.le_refl _ | omega | (simp; omega) | (simp; done)) (.cells #[.int .i64 x.m, .int .i64 x.s] 23)) (by first | exact Nat.le_refl _ | omega | (simp; omega) | (simp; done)) (.cells #[.int .i64 y.m, .int .i64 y.s] 23)) (by first | exact Nat.le_refl _ | omega | (simp; omega) | (simp; done)) (.cells #[.int .i64 p.x.m, .int .i64 p.x.s, .int .i64 p.y.m, .int .i64 p.y.s] 27)
  go_wp2_with fail
  refine (step_any x y ⟨.one, .zero, .zero, .one, x, y⟩ 0 _ (.inl ⟨HX.out, HY.out, rfl, rfl⟩)).mono ?_
  rintro e w1 ⟨rfl, k⟩
  have HB := Lib.hid (HB.out.trans (k.mono HB.out.size))
  have hX := Var.later hX k
  have hY := Var.later hY k
  have hP := PIn.later hP k
  clear k
  have LhX1 := Var.lt hX
  obtain ⟨fhX1_0, fhX1_1⟩ := id hX
  have LhY1 := Var.lt hY
  obtain ⟨fhY1_0, fhY1_1⟩ := id hY
  have LhP1 := PIn.lt hP
  obtain ⟨fhP1_0, fhP1_1, fhP1_2, fhP1_3⟩ := id hP
  have hX := Var.old hX (.cells #[.int .i64 1, .int .i64 0, .int .i64 0, .int .i64 0, .int .i64 0, .int .i64 0, .int .i64 1, .int .i64 0, .int .i64 x.m, .int .i64 x.s, .int .i64 y.m, .int .i64 y.s] 25)
  have hY := Var.old hY (.cells #[.int .i64 1, .int .i64 0, .int .i64 0, .int .i64 0, .int .i64 0, .int .i64 0, .int .i64 1, .int .i64 0, .int .i64 x.m, .int .i64 x.s, .int .i64 y.m, .int .i64 y.s] 25)
  have hP := PIn.old hP (.cells #[.int .i64 1, .int .i64 0, .int .i64 0, .int .i64 0, .int .i64 0, .int .i64 0, .int .i64 1, .int .i64 0, .int .i64 x.m, .int .i64 x.s, .int .i64 y.m, .int .i64 y.s] 25)
  have hS := MIn.made w1 25 ⟨⟨1, 0⟩, ⟨0, 0⟩, ⟨0, 0⟩, ⟨1, 0⟩, x, y⟩
  have HB := Lib.hid (HB.out.alloc HB.out.size (.cells #[.int .i64 1, .int .i64 0, .int .i64 0, .int .i64 0, .int .i64 0, .int .i64 0, .int .i64 1, .int .i64 0, .int .i64 x.m, .int .i64 x.s, .int .i64 y.m, .int .i64 y.s] 25))
  go_wp2_with fail
  refine (map_any ⟨.one, .zero, .zero, .one, x, y⟩ p .zero 5 _ (steps_over HX.out HY.out HP.out HA.out HBB.out (.inr ⟨rfl, rfl⟩))).mono ?_
  rintro e w2 ⟨rfl, k⟩
  have HB := Lib.hid (HB.out.trans (k.mono HB.out.size))
  have hX := Var.later hX k
  have hY := Var.later hY k
  have hP := PIn.later hP k
  have hS := MIn.later hS k
  clear LhX1 fhX1_0 fhX1_1 LhY1 fhY1_0 fhY1_1 LhP1 fhP1_0 fhP1_1 fhP1_2 fhP1_3
  clear k
  have LhX2 := Var.lt hX
  obtain ⟨fhX2_0, fhX2_1⟩ := id hX
  have LhY2 := Var.lt hY
  obtain ⟨fhY2_0, fhY2_1⟩ := id hY
  have LhP2 := PIn.lt hP
  obtain ⟨fhP2_0, fhP2_1, fhP2_2, fhP2_3⟩ := id hP
  have LhS2 := MIn.lt hS
  obtain ⟨fhS2_0, fhS2_1, fhS2_2, fhS2_3, fhS2_4, fhS2_5, fhS2_6, fhS2_7, fhS2_8, fhS2_9, fhS2_10, fhS2_11⟩ := id hS
  have hX := Var.old hX (.cells #[.int .i64 0, .int .i64 0, .int .i64 0, .int .i64 0] 27)
  have hY := Var.old hY (.cells #[.int .i64 0, .int .i64 0, .int .i64 0, .int .i64 0] 27)
  have hP := PIn.old hP (.cells #[.int .i64 0, .int .i64 0, .int .i64 0, .int .i64 0] 27)
  have hS := MIn.old hS (.cells #[.int .i64 0, .int .i64 0, .int .i64 0, .int .i64 0] 27)
  have hQ := PIn.made w2 27 ⟨⟨0, 0⟩, ⟨0, 0⟩⟩
  have HB := Lib.hid (HB.out.alloc HB.out.size (.cells #[.int .i64 0, .int .i64 0, .int .i64 0, .int .i64 0] 27))
  go_wp2_with fail
  refine (add_any p.x x a 0 _ (.inl ⟨HP.out.1, HX.out, HA.out⟩)).mono ?_
  rintro e w3 ⟨rfl, k⟩
  have HB := Lib.hid (HB.out.trans (k.mono HB.out.size))
  have hX := Var.later hX k
  have hY := Var.later hY k
  have hP := PIn.later hP k
  have hS := MIn.later hS k
  have hQ := PIn.later hQ k
  clear LhX2 fhX2_0 fhX2_1 LhY2 fhY2_0 fhY2_1 LhP2 fhP2_0 fhP2_1 fhP2_2 fhP2_3 LhS2 fhS2_0 fhS2_1 fhS2_2 fhS2_3 fhS2_4 fhS2_5 fhS2_6 fhS2_7 fhS2_8 fhS2_9 fhS2_10 fhS2_11
  clear k
  have LhX3 := Var.lt hX
  obtain ⟨fhX3_0, fhX3_1⟩ := id hX
  have LhY3 := Var.lt hY
  obtain ⟨fhY3_0, fhY3_1⟩ := id hY
  have LhP3 := PIn.lt hP
  obtain ⟨fhP3_0, fhP3_1, fhP3_2, fhP3_3⟩ := id hP
  have LhS3 := MIn.lt hS
  obtain ⟨fhS3_0, fhS3_1, fhS3_2, fhS3_3, fhS3_4, fhS3_5, fhS3_6, fhS3_7, fhS3_8, fhS3_9, fhS3_10, fhS3_11⟩ := id hS
  have LhQ3 := PIn.lt hQ
  obtain ⟨fhQ3_0, fhQ3_1, fhQ3_2, fhQ3_3⟩ := id hQ
  have hX := Var.old hX (.cells #[.int .i64 a.m, .int .i64 a.s] 23)
  have hY := Var.old hY (.cells #[.int .i64 a.m, .int .i64 a.s] 23)
  have hP := PIn.old hP (.cells #[.int .i64 a.m, .int .i64 a.s] 23)
  have hS := MIn.old hS (.cells #[.int .i64 a.m, .int .i64 a.s] 23)
  have hQ := PIn.old hQ (.cells #[.int .i64 a.m, .int .i64 a.s] 23)
  have hA := Var.new w3 a 23
  have HB := Lib.hid (HB.out.alloc HB.out.size (.cells #[.int .i64 a.m, .int .i64 a.s] 23))
  go_wp2_with fail
  refine (add_any p.y y b 5 _ (.inl ⟨HP.out.2, HY.out, HBB.out⟩)).mono ?_
  rintro e w4 ⟨rfl, k⟩
  have HB := Lib.hid (HB.out.trans (k.mono HB.out.size))
  have hX := Var.later hX k
  have hY := Var.later hY k
  have hP := PIn.later hP k
  have hS := MIn.later hS k
  have hQ := PIn.later hQ k
  have hA := Var.later hA k
  clear LhX3 fhX3_0 fhX3_1 LhY3 fhY3_0 fhY3_1 LhP3 fhP3_0 fhP3_1 fhP3_2 fhP3_3 LhS3 fhS3_0 fhS3_1 fhS3_2 fhS3_3 fhS3_4 fhS3_5 fhS3_6 fhS3_7 fhS3_8 fhS3_9 fhS3_10 fhS3_11 LhQ3 fhQ3_0 fhQ3_1 fhQ3_2 fhQ3_3
  clear k
  have LhX4 := Var.lt hX
  obtain ⟨fhX4_0, fhX4_1⟩ := id hX
  have LhY4 := Var.lt hY
  obtain ⟨fhY4_0, fhY4_1⟩ := id hY
  have LhP4 := PIn.lt hP
  obtain ⟨fhP4_0, fhP4_1, fhP4_2, fhP4_3⟩ := id hP
  have LhS4 := MIn.lt hS
  obtain ⟨fhS4_0, fhS4_1, fhS4_2, fhS4_3, fhS4_4, fhS4_5, fhS4_6, fhS4_7, fhS4_8, fhS4_9, fhS4_10, fhS4_11⟩ := id hS
  have LhQ4 := PIn.lt hQ
  obtain ⟨fhQ4_0, fhQ4_1, fhQ4_2, fhQ4_3⟩ := id hQ
  have LhA4 := Var.lt hA
  obtain ⟨fhA4_0, fhA4_1⟩ := id hA
  have hX := Var.old hX (.cells #[.int .i64 b.m, .int .i64 b.s] 23)
  have hY := Var.old hY (.cells #[.int .i64 b.m, .int .i64 b.s] 23)
  have hP := PIn.old hP (.cells #[.int .i64 b.m, .int .i64 b.s] 23)
  have hS := MIn.old hS (.cells #[.int .i64 b.m, .int .i64 b.s] 23)
  have hQ := PIn.old hQ (.cells #[.int .i64 b.m, .int .i64 b.s] 23)
  have hA := Var.old hA (.cells #[.int .i64 b.m, .int .i64 b.s] 23)
  have hB := Var.new w4 b 23
  have HB := Lib.hid (HB.out.alloc HB.out.size (.cells #[.int .i64 b.m, .int .i64 b.s] 23))
  go_wp2_with fail
  refine (check_any p.x _ 0 (.inl ⟨HP.out.1, rfl⟩)).mono ?_
  rintro e w5 ⟨rfl, k⟩
  have HB := Lib.hid (HB.out.trans (k.mono HB.out.size))
  have hX := Var.later hX k
  have hY := Var.later hY k
  have hP := PIn.later hP k
  have hS := MIn.later hS k
  have hQ := PIn.later hQ k
  have hA := Var.later hA k
  have hB := Var.later hB k
  clear LhX4 fhX4_0 fhX4_1 LhY4 fhY4_0 fhY4_1 LhP4 fhP4_0 fhP4_1 fhP4_2 fhP4_3 LhS4 fhS4_0 fhS4_1 fhS4_2 fhS4_3 fhS4_4 fhS4_5 fhS4_6 fhS4_7 fhS4_8 fhS4_9 fhS4_10 fhS4_11 LhQ4 fhQ4_0 fhQ4_1 fhQ4_2 fhQ4_3 LhA4 fhA4_0 fhA4_1
  clear k
  have LhX5 := Var.lt hX
  obtain ⟨fhX5_0, fhX5_1⟩ := id hX
  have LhY5 := Var.lt hY
  obtain ⟨fhY5_0, fhY5_1⟩ := id hY
  have LhP5 := PIn.lt hP
  obtain ⟨fhP5_0, fhP5_1, fhP5_2, fhP5_3⟩ := id hP
  have LhS5 := MIn.lt hS
  obtain ⟨fhS5_0, fhS5_1, fhS5_2, fhS5_3, fhS5_4, fhS5_5, fhS5_6, fhS5_7, fhS5_8, fhS5_9, fhS5_10, fhS5_11⟩ := id hS
  have LhQ5 := PIn.lt hQ
  obtain ⟨fhQ5_0, fhQ5_1, fhQ5_2, fhQ5_3⟩ := id hQ
  have LhA5 := Var.lt hA
  obtain ⟨fhA5_0, fhA5_1⟩ := id hA
  have LhB5 := Var.lt hB
  obtain ⟨fhB5_0, fhB5_1⟩ := id hB
  go_wp2_with fail
  refine (check_any p.y _ 0 (.inl ⟨HP.out.2, rfl⟩)).mono ?_
  rintro e w6 ⟨rfl, k⟩
  have HB := Lib.hid (HB.out.trans (k.mono HB.out.size))
  have hX := Var.later hX k
  have hY := Var.later hY k
  have hP := PIn.later hP k
  have hS := MIn.later hS k
  have hQ := PIn.later hQ k
  have hA := Var.later hA k
  have hB := Var.later hB k
  clear LhX5 fhX5_0 fhX5_1 LhY5 fhY5_0 fhY5_1 LhP5 fhP5_0 fhP5_1 fhP5_2 fhP5_3 LhS5 fhS5_0 fhS5_1 fhS5_2 fhS5_3 fhS5_4 fhS5_5 fhS5_6 fhS5_7 fhS5_8 fhS5_9 fhS5_10 fhS5_11 LhQ5 fhQ5_0 fhQ5_1 fhQ5_2 fhQ5_3 LhA5 fhA5_0 fhA5_1 LhB5 fhB5_0 fhB5_1
  clear k
  have LhX6 := Var.lt hX
  obtain ⟨fhX6_0, fhX6_1⟩ := id hX
  have LhY6 := Var.lt hY
  obtain ⟨fhY6_0, fhY6_1⟩ := id hY
  have LhP6 := PIn.lt hP
  obtain ⟨fhP6_0, fhP6_1, fhP6_2, fhP6_3⟩ := id hP
  have LhS6 := MIn.lt hS
  obtain ⟨fhS6_0, fhS6_1, fhS6_2, fhS6_3, fhS6_4, fhS6_5, fhS6_6, fhS6_7, fhS6_8, fhS6_9, fhS6_10, fhS6_11⟩ := id hS
  have LhQ6 := PIn.lt hQ
  obtain ⟨fhQ6_0, fhQ6_1, fhQ6_2, fhQ6_3⟩ := id hQ
  have LhA6 := Var.lt hA
  obtain ⟨fhA6_0, fhA6_1⟩ := id hA
  have LhB6 := Var.lt hB
  obtain ⟨fhB6_0, fhB6_1⟩ := id hB
  go_wp2_with fail
  refine (mawake_any _).mono ?_
  rintro e w7 ⟨rfl, k⟩
  have HB := Lib.hid (HB.out.trans (k.mono HB.out.size))
  have hX := Var.later hX k
  have hY := Var.later hY k
  have hP := PIn.later hP k
  have hS := MIn.later hS k
  have hQ := PIn.later hQ k
  have hA := Var.later hA k
  have hB := Var.later hB k
  clear LhX6 fhX6_0 fhX6_1 LhY6 fhY6_0 fhY6_1 LhP6 fhP6_0 fhP6_1 fhP6_2 fhP6_3 LhS6 fhS6_0 fhS6_1 fhS6_2 fhS6_3 fhS6_4 fhS6_5 fhS6_6 fhS6_7 fhS6_8 fhS6_9 fhS6_10 fhS6_11 LhQ6 fhQ6_0 fhQ6_1 fhQ6_2 fhQ6_3 LhA6 fhA6_0 fhA6_1 LhB6 fhB6_0 fhB6_1
  clear k
  have LhX7 := Var.lt hX
  obtain ⟨fhX7_0, fhX7_1⟩ := id hX
  have LhY7 := Var.lt hY
  obtain ⟨fhY7_0, fhY7_1⟩ := id hY
  have LhP7 := PIn.lt hP
  obtain ⟨fhP7_0, fhP7_1, fhP7_2, fhP7_3⟩ := id hP
  have LhS7 := MIn.lt hS
  obtain ⟨fhS7_0, fhS7_1, fhS7_2, fhS7_3, fhS7_4, fhS7_5, fhS7_6, fhS7_7, fhS7_8, fhS7_9, fhS7_10, fhS7_11⟩ := id hS
  have LhQ7 := PIn.lt hQ
  obtain ⟨fhQ7_0, fhQ7_1, fhQ7_2, fhQ7_3⟩ := id hQ
  have LhA7 := Var.lt hA
  obtain ⟨fhA7_0, fhA7_1⟩ := id hA
  have LhB7 := Var.lt hB
  obtain ⟨fhB7_0, fhB7_1⟩ := id hB
  go_wp2
  go_ret
  exact ⟨rfl, HB.out⟩

set_option maxRecDepth 100000 in
set_option maxHeartbeats 16000000 in
theorem steps_d3 (x y : DV) (p : PV) (a b : DV) (w : World) (hx : x.Ok) (hy : y.Ok) (hp : p.Ok) (ha : Tells (p.x.v + x.v) 9 a 0) (hb : Tells (p.y.v + y.v) 9 b 0) :
    Calls Try.prog 6 #[(.agg #[.int .i64 x.m, .int .i64 x.s] : Value), .agg #[.int .i64 y.m, .int .i64 y.s], p.val] w fun e w' => e = .returned (.bool true) ∧ Below w.heap.size w w' := by
  have HX := Lib.hid hx
  have HY := Lib.hid hy
  have HP := Lib.hid hp
  have HA := Lib.hid ha
  have HBB := Lib.hid hb
  clear hx hy hp ha hb
  go_enter Try.func6, Try.ntmps6
  have hX := Var.new w x 23
  have hX := Var.old hX (.cells #[.int .i64 y.m, .int .i64 y.s] 23)
  have hY := Var.new (w.alloc (.cells #[.int .i64 x.m, .int .i64 x.s] 23)) y 23
  have hX := Var.old hX (.cells #[.int .i64 p.x.m, .int .i64 p.x.s, .int .i64 p.y.m, .int .i64 p.y.s] 27)
  have hY := Var.old hY (.cells #[.int .i64 p.x.m, .int .i64 p.x.s, .int .i64 p.y.m, .int .i64 p.y.s] 27)
  have hP := PIn.made ((w.alloc (.cells #[.int .i64 x.m, .int .i64 x.s] 23)).alloc (.cells #[.int .i64 y.m, .int .i64 y.s] 23)) 27 p
  simp only [World.size_alloc] at hX hY hP
  have HB : Hid (Below w.heap.size w _) := Below.alloc (Below.alloc (Below.alloc (Below.refl _ _) (by first | exact Nat.le_refl _ | omega | (simp; omega) | (simp; done)) (.cells #[.int .i64 x.m, .int .i64 x.s] 23)) (by first | exact Nat.le_refl _ | omega | (simp; omega) | (simp; done)) (.cells #[.int .i64 y.m, .int .i64 y.s] 23)) (by first | exact Nat.le_refl _ | omega | (simp; omega) | (simp; done)) (.cells #[.int .i64 p.x.m, .int .i64 p.x.s, .int .i64 p.y.m, .int .i64 p.y.s] 27)
  go_wp2_with fail
  refine (step_any x y ⟨.one, .zero, .zero, .one, x, y⟩ 0 _ (.inl ⟨HX.out, HY.out, rfl, rfl⟩)).mono ?_
  rintro e w1 ⟨rfl, k⟩
  have HB := Lib.hid (HB.out.trans (k.mono HB.out.size))
  have hX := Var.later hX k
  have hY := Var.later hY k
  have hP := PIn.later hP k
  clear k
  have LhX1 := Var.lt hX
  obtain ⟨fhX1_0, fhX1_1⟩ := id hX
  have LhY1 := Var.lt hY
  obtain ⟨fhY1_0, fhY1_1⟩ := id hY
  have LhP1 := PIn.lt hP
  obtain ⟨fhP1_0, fhP1_1, fhP1_2, fhP1_3⟩ := id hP
  have hX := Var.old hX (.cells #[.int .i64 1, .int .i64 0, .int .i64 0, .int .i64 0, .int .i64 0, .int .i64 0, .int .i64 1, .int .i64 0, .int .i64 x.m, .int .i64 x.s, .int .i64 y.m, .int .i64 y.s] 25)
  have hY := Var.old hY (.cells #[.int .i64 1, .int .i64 0, .int .i64 0, .int .i64 0, .int .i64 0, .int .i64 0, .int .i64 1, .int .i64 0, .int .i64 x.m, .int .i64 x.s, .int .i64 y.m, .int .i64 y.s] 25)
  have hP := PIn.old hP (.cells #[.int .i64 1, .int .i64 0, .int .i64 0, .int .i64 0, .int .i64 0, .int .i64 0, .int .i64 1, .int .i64 0, .int .i64 x.m, .int .i64 x.s, .int .i64 y.m, .int .i64 y.s] 25)
  have hS := MIn.made w1 25 ⟨⟨1, 0⟩, ⟨0, 0⟩, ⟨0, 0⟩, ⟨1, 0⟩, x, y⟩
  have HB := Lib.hid (HB.out.alloc HB.out.size (.cells #[.int .i64 1, .int .i64 0, .int .i64 0, .int .i64 0, .int .i64 0, .int .i64 0, .int .i64 1, .int .i64 0, .int .i64 x.m, .int .i64 x.s, .int .i64 y.m, .int .i64 y.s] 25))
  go_wp2_with fail
  refine (map_any ⟨.one, .zero, .zero, .one, x, y⟩ p ⟨a, b⟩ 0 _ (steps_math HX.out HY.out HP.out HA.out HBB.out rfl rfl)).mono ?_
  rintro e w2 ⟨rfl, k⟩
  have HB := Lib.hid (HB.out.trans (k.mono HB.out.size))
  have hX := Var.later hX k
  have hY := Var.later hY k
  have hP := PIn.later hP k
  have hS := MIn.later hS k
  clear LhX1 fhX1_0 fhX1_1 LhY1 fhY1_0 fhY1_1 LhP1 fhP1_0 fhP1_1 fhP1_2 fhP1_3
  clear k
  have LhX2 := Var.lt hX
  obtain ⟨fhX2_0, fhX2_1⟩ := id hX
  have LhY2 := Var.lt hY
  obtain ⟨fhY2_0, fhY2_1⟩ := id hY
  have LhP2 := PIn.lt hP
  obtain ⟨fhP2_0, fhP2_1, fhP2_2, fhP2_3⟩ := id hP
  have LhS2 := MIn.lt hS
  obtain ⟨fhS2_0, fhS2_1, fhS2_2, fhS2_3, fhS2_4, fhS2_5, fhS2_6, fhS2_7, fhS2_8, fhS2_9, fhS2_10, fhS2_11⟩ := id hS
  have hX := Var.old hX (.cells #[.int .i64 a.m, .int .i64 a.s, .int .i64 b.m, .int .i64 b.s] 27)
  have hY := Var.old hY (.cells #[.int .i64 a.m, .int .i64 a.s, .int .i64 b.m, .int .i64 b.s] 27)
  have hP := PIn.old hP (.cells #[.int .i64 a.m, .int .i64 a.s, .int .i64 b.m, .int .i64 b.s] 27)
  have hS := MIn.old hS (.cells #[.int .i64 a.m, .int .i64 a.s, .int .i64 b.m, .int .i64 b.s] 27)
  have hQ := PIn.made w2 27 ⟨a, b⟩
  have HB := Lib.hid (HB.out.alloc HB.out.size (.cells #[.int .i64 a.m, .int .i64 a.s, .int .i64 b.m, .int .i64 b.s] 27))
  go_wp2_with fail
  refine (add_any p.x x a 0 _ (.inl ⟨HP.out.1, HX.out, HA.out⟩)).mono ?_
  rintro e w3 ⟨rfl, k⟩
  have HB := Lib.hid (HB.out.trans (k.mono HB.out.size))
  have hX := Var.later hX k
  have hY := Var.later hY k
  have hP := PIn.later hP k
  have hS := MIn.later hS k
  have hQ := PIn.later hQ k
  clear LhX2 fhX2_0 fhX2_1 LhY2 fhY2_0 fhY2_1 LhP2 fhP2_0 fhP2_1 fhP2_2 fhP2_3 LhS2 fhS2_0 fhS2_1 fhS2_2 fhS2_3 fhS2_4 fhS2_5 fhS2_6 fhS2_7 fhS2_8 fhS2_9 fhS2_10 fhS2_11
  clear k
  have LhX3 := Var.lt hX
  obtain ⟨fhX3_0, fhX3_1⟩ := id hX
  have LhY3 := Var.lt hY
  obtain ⟨fhY3_0, fhY3_1⟩ := id hY
  have LhP3 := PIn.lt hP
  obtain ⟨fhP3_0, fhP3_1, fhP3_2, fhP3_3⟩ := id hP
  have LhS3 := MIn.lt hS
  obtain ⟨fhS3_0, fhS3_1, fhS3_2, fhS3_3, fhS3_4, fhS3_5, fhS3_6, fhS3_7, fhS3_8, fhS3_9, fhS3_10, fhS3_11⟩ := id hS
  have LhQ3 := PIn.lt hQ
  obtain ⟨fhQ3_0, fhQ3_1, fhQ3_2, fhQ3_3⟩ := id hQ
  have hX := Var.old hX (.cells #[.int .i64 a.m, .int .i64 a.s] 23)
  have hY := Var.old hY (.cells #[.int .i64 a.m, .int .i64 a.s] 23)
  have hP := PIn.old hP (.cells #[.int .i64 a.m, .int .i64 a.s] 23)
  have hS := MIn.old hS (.cells #[.int .i64 a.m, .int .i64 a.s] 23)
  have hQ := PIn.old hQ (.cells #[.int .i64 a.m, .int .i64 a.s] 23)
  have hA := Var.new w3 a 23
  have HB := Lib.hid (HB.out.alloc HB.out.size (.cells #[.int .i64 a.m, .int .i64 a.s] 23))
  go_wp2_with fail
  refine (add_any p.y y b 0 _ (.inl ⟨HP.out.2, HY.out, HBB.out⟩)).mono ?_
  rintro e w4 ⟨rfl, k⟩
  have HB := Lib.hid (HB.out.trans (k.mono HB.out.size))
  have hX := Var.later hX k
  have hY := Var.later hY k
  have hP := PIn.later hP k
  have hS := MIn.later hS k
  have hQ := PIn.later hQ k
  have hA := Var.later hA k
  clear LhX3 fhX3_0 fhX3_1 LhY3 fhY3_0 fhY3_1 LhP3 fhP3_0 fhP3_1 fhP3_2 fhP3_3 LhS3 fhS3_0 fhS3_1 fhS3_2 fhS3_3 fhS3_4 fhS3_5 fhS3_6 fhS3_7 fhS3_8 fhS3_9 fhS3_10 fhS3_11 LhQ3 fhQ3_0 fhQ3_1 fhQ3_2 fhQ3_3
  clear k
  have LhX4 := Var.lt hX
  obtain ⟨fhX4_0, fhX4_1⟩ := id hX
  have LhY4 := Var.lt hY
  obtain ⟨fhY4_0, fhY4_1⟩ := id hY
  have LhP4 := PIn.lt hP
  obtain ⟨fhP4_0, fhP4_1, fhP4_2, fhP4_3⟩ := id hP
  have LhS4 := MIn.lt hS
  obtain ⟨fhS4_0, fhS4_1, fhS4_2, fhS4_3, fhS4_4, fhS4_5, fhS4_6, fhS4_7, fhS4_8, fhS4_9, fhS4_10, fhS4_11⟩ := id hS
  have LhQ4 := PIn.lt hQ
  obtain ⟨fhQ4_0, fhQ4_1, fhQ4_2, fhQ4_3⟩ := id hQ
  have LhA4 := Var.lt hA
  obtain ⟨fhA4_0, fhA4_1⟩ := id hA
  have hX := Var.old hX (.cells #[.int .i64 b.m, .int .i64 b.s] 23)
  have hY := Var.old hY (.cells #[.int .i64 b.m, .int .i64 b.s] 23)
  have hP := PIn.old hP (.cells #[.int .i64 b.m, .int .i64 b.s] 23)
  have hS := MIn.old hS (.cells #[.int .i64 b.m, .int .i64 b.s] 23)
  have hQ := PIn.old hQ (.cells #[.int .i64 b.m, .int .i64 b.s] 23)
  have hA := Var.old hA (.cells #[.int .i64 b.m, .int .i64 b.s] 23)
  have hB := Var.new w4 b 23
  have HB := Lib.hid (HB.out.alloc HB.out.size (.cells #[.int .i64 b.m, .int .i64 b.s] 23))
  go_wp2_with fail
  refine (check_any p.x _ 0 (.inl ⟨HP.out.1, rfl⟩)).mono ?_
  rintro e w5 ⟨rfl, k⟩
  have HB := Lib.hid (HB.out.trans (k.mono HB.out.size))
  have hX := Var.later hX k
  have hY := Var.later hY k
  have hP := PIn.later hP k
  have hS := MIn.later hS k
  have hQ := PIn.later hQ k
  have hA := Var.later hA k
  have hB := Var.later hB k
  clear LhX4 fhX4_0 fhX4_1 LhY4 fhY4_0 fhY4_1 LhP4 fhP4_0 fhP4_1 fhP4_2 fhP4_3 LhS4 fhS4_0 fhS4_1 fhS4_2 fhS4_3 fhS4_4 fhS4_5 fhS4_6 fhS4_7 fhS4_8 fhS4_9 fhS4_10 fhS4_11 LhQ4 fhQ4_0 fhQ4_1 fhQ4_2 fhQ4_3 LhA4 fhA4_0 fhA4_1
  clear k
  have LhX5 := Var.lt hX
  obtain ⟨fhX5_0, fhX5_1⟩ := id hX
  have LhY5 := Var.lt hY
  obtain ⟨fhY5_0, fhY5_1⟩ := id hY
  have LhP5 := PIn.lt hP
  obtain ⟨fhP5_0, fhP5_1, fhP5_2, fhP5_3⟩ := id hP
  have LhS5 := MIn.lt hS
  obtain ⟨fhS5_0, fhS5_1, fhS5_2, fhS5_3, fhS5_4, fhS5_5, fhS5_6, fhS5_7, fhS5_8, fhS5_9, fhS5_10, fhS5_11⟩ := id hS
  have LhQ5 := PIn.lt hQ
  obtain ⟨fhQ5_0, fhQ5_1, fhQ5_2, fhQ5_3⟩ := id hQ
  have LhA5 := Var.lt hA
  obtain ⟨fhA5_0, fhA5_1⟩ := id hA
  have LhB5 := Var.lt hB
  obtain ⟨fhB5_0, fhB5_1⟩ := id hB
  go_wp2_with fail
  refine (check_any p.y _ 0 (.inl ⟨HP.out.2, rfl⟩)).mono ?_
  rintro e w6 ⟨rfl, k⟩
  have HB := Lib.hid (HB.out.trans (k.mono HB.out.size))
  have hX := Var.later hX k
  have hY := Var.later hY k
  have hP := PIn.later hP k
  have hS := MIn.later hS k
  have hQ := PIn.later hQ k
  have hA := Var.later hA k
  have hB := Var.later hB k
  clear LhX5 fhX5_0 fhX5_1 LhY5 fhY5_0 fhY5_1 LhP5 fhP5_0 fhP5_1 fhP5_2 fhP5_3 LhS5 fhS5_0 fhS5_1 fhS5_2 fhS5_3 fhS5_4 fhS5_5 fhS5_6 fhS5_7 fhS5_8 fhS5_9 fhS5_10 fhS5_11 LhQ5 fhQ5_0 fhQ5_1 fhQ5_2 fhQ5_3 LhA5 fhA5_0 fhA5_1 LhB5 fhB5_0 fhB5_1
  clear k
  have LhX6 := Var.lt hX
  obtain ⟨fhX6_0, fhX6_1⟩ := id hX
  have LhY6 := Var.lt hY
  obtain ⟨fhY6_0, fhY6_1⟩ := id hY
  have LhP6 := PIn.lt hP
  obtain ⟨fhP6_0, fhP6_1, fhP6_2, fhP6_3⟩ := id hP
  have LhS6 := MIn.lt hS
  obtain ⟨fhS6_0, fhS6_1, fhS6_2, fhS6_3, fhS6_4, fhS6_5, fhS6_6, fhS6_7, fhS6_8, fhS6_9, fhS6_10, fhS6_11⟩ := id hS
  have LhQ6 := PIn.lt hQ
  obtain ⟨fhQ6_0, fhQ6_1, fhQ6_2, fhQ6_3⟩ := id hQ
  have LhA6 := Var.lt hA
  obtain ⟨fhA6_0, fhA6_1⟩ := id hA
  have LhB6 := Var.lt hB
  obtain ⟨fhB6_0, fhB6_1⟩ := id hB
  go_wp2_with fail
  refine (mawake_any _).mono ?_
  rintro e w7 ⟨rfl, k⟩
  have HB := Lib.hid (HB.out.trans (k.mono HB.out.size))
  have hX := Var.later hX k
  have hY := Var.later hY k
  have hP := PIn.later hP k
  have hS := MIn.later hS k
  have hQ := PIn.later hQ k
  have hA := Var.later hA k
  have hB := Var.later hB k
  clear LhX6 fhX6_0 fhX6_1 LhY6 fhY6_0 fhY6_1 LhP6 fhP6_0 fhP6_1 fhP6_2 fhP6_3 LhS6 fhS6_0 fhS6_1 fhS6_2 fhS6_3 fhS6_4 fhS6_5 fhS6_6 fhS6_7 fhS6_8 fhS6_9 fhS6_10 fhS6_11 LhQ6 fhQ6_0 fhQ6_1 fhQ6_2 fhQ6_3 LhA6 fhA6_0 fhA6_1 LhB6 fhB6_0 fhB6_1
  clear k
  have LhX7 := Var.lt hX
  obtain ⟨fhX7_0, fhX7_1⟩ := id hX
  have LhY7 := Var.lt hY
  obtain ⟨fhY7_0, fhY7_1⟩ := id hY
  have LhP7 := PIn.lt hP
  obtain ⟨fhP7_0, fhP7_1, fhP7_2, fhP7_3⟩ := id hP
  have LhS7 := MIn.lt hS
  obtain ⟨fhS7_0, fhS7_1, fhS7_2, fhS7_3, fhS7_4, fhS7_5, fhS7_6, fhS7_7, fhS7_8, fhS7_9, fhS7_10, fhS7_11⟩ := id hS
  have LhQ7 := PIn.lt hQ
  obtain ⟨fhQ7_0, fhQ7_1, fhQ7_2, fhQ7_3⟩ := id hQ
  have LhA7 := Var.lt hA
  obtain ⟨fhA7_0, fhA7_1⟩ := id hA
  have LhB7 := Var.lt hB
  obtain ⟨fhB7_0, fhB7_1⟩ := id hB
  go_wp2
  go_ret
  exact ⟨rfl, HB.out⟩

theorem steps_any (x y : DV) (p : PV) (w : World) :
    Calls Try.prog 6 #[(.agg #[.int .i64 x.m, .int .i64 x.s] : Value), .agg #[.int .i64 y.m, .int .i64 y.s], p.val] w fun e w' => e = .returned (.bool true) ∧ Below w.heap.size w w' := by
  obtain ⟨a, G, ha⟩ := AddIs.total p.x x
  obtain ⟨b, K, hb⟩ := AddIs.total p.y y
  by_cases hs : x.Ok ∧ y.Ok
  · obtain ⟨hx, hy⟩ := hs
    by_cases h0 : p.x.Ok
    · by_cases h1 : p.y.Ok
      · have ha' := (ha.resolve_right (fun h => h.1 ⟨h0, hx⟩)).2.2
        have hb' := (hb.resolve_right (fun h => h.1 ⟨h1, hy⟩)).2.2
        rcases ha'.ok.2 with rfl | rfl
        · rcases hb'.ok.2 with rfl | rfl
          · exact steps_d3 x y p a b w hx hy ⟨h0, h1⟩ ha' hb'
          · exact steps_d2 x y p a b w hx hy ⟨h0, h1⟩ ha' hb'
        · exact steps_d1 x y p a b K w hx hy ⟨h0, h1⟩ ha' hb'
      · exact steps_c x y p a b G K w hx hy h0 h1 ha hb
    · exact steps_b x y p a b G K w hx hy h0 ha hb
  · obtain ⟨q, F, hq⟩ := MapIs.total .zero p
    exact steps_a x y p q a b F G K w hs hq ha hb
end Go.Proofs.Ytcckkmoaneomoaa
