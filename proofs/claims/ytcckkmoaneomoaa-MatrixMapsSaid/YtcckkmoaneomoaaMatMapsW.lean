/- The walk of MatrixMaps. -/
import Derived.Test.YtcckkmoaneomoaaMatAwake
import Derived.Deep.DeepCutAuto
namespace Go.Proofs.Ytcckkmoaneomoaa
open Go.RowKit Dec

theorem bself {w : World} {B : Nat} {m : MV} (_h : MIn w B m) : Below w.heap.size w w := Below.refl _ _
/-- The ways of the first test. -/
def Mapped (e f g h : Int) (x z : PV) : Prop := (e = 1 ∨ e = 5) ∨ (e = 0 ∧ (f = 1 ∨ f = 5)) ∨ (e = 0 ∧ f = 0 ∧ (g = 1 ∨ g = 5)) ∨ (e = 0 ∧ f = 0 ∧ g = 0 ∧ (h = 1 ∨ h = 5)) ∨ (e = 0 ∧ f = 0 ∧ g = 0 ∧ h = 0 ∧ x = z)
theorem Mapped.of {m n t : MV} {p x y z : PV} {e f g h : Int} (h1 : ThenIs m n t e) (h2 : MapIs t p x f) (h3 : MapIs m p y g) (h4 : MapIs n y z h) : Mapped e f g h x z := by
  rcases h1.ok.2 with rfl | k1
  · rcases h2.ok.2 with rfl | k2
    · rcases h3.ok.2 with rfl | k3
      · rcases h4.ok.2 with rfl | k4
        · exact .inr (.inr (.inr (.inr ⟨rfl, rfl, rfl, rfl, maps_math h1 h2 h3 h4⟩)))
        · exact .inr (.inr (.inr (.inl ⟨rfl, rfl, rfl, k4⟩)))
      · exact .inr (.inr (.inl ⟨rfl, rfl, k3⟩))
    · exact .inr (.inl ⟨rfl, k2⟩)
  · exact .inl k1
def PWay (p q : PV) (i : Int) : Prop := ¬ p.x.Ok ∨ (p.x.Ok ∧ ¬ p.y.Ok) ∨ (p.x.Ok ∧ p.y.Ok ∧ p = q ∧ i = 0)
def MWay (m u v : MV) (j k : Int) : Prop := ¬ m.Ok ∨ (m.Ok ∧ m = u ∧ m = v ∧ j = 0 ∧ k = 0)

set_option maxRecDepth 100000 in
set_option maxHeartbeats 16000000 in
theorem maps_all (m n t u v' : MV) (p x y z q : PV) (e f g h i j kE : Int) (w : World) (h1 : ThenIs m n t e) (h2 : MapIs t p x f) (h3 : MapIs m p y g) (h4 : MapIs n y z h) (h5 : MapIs .one p q i) (h6 : ThenIs m .one u j) (h7 : ThenIs .one m v' kE) (hx : Mapped e f g h x z) (hc : PWay p q i) (hk : MWay m u v' j kE) :
    Calls Try.prog 4 #[m.val, n.val, p.val] w fun e w' => e = .returned (.bool true) ∧ Below w.heap.size w w' := by
  have H1 := Lib.hid h1
  have H2 := Lib.hid h2
  have H3 := Lib.hid h3
  have H4 := Lib.hid h4
  have H5 := Lib.hid h5
  have H6 := Lib.hid h6
  have H7 := Lib.hid h7
  have HX := Lib.hid hx
  have HC := Lib.hid hc
  have HK := Lib.hid hk
  clear h1 h2 h3 h4 h5 h6 h7 hx hc hk
  go_enter Try.func4, Try.ntmps4
  have hM := MIn.made w 25 m
  have hM := MIn.old hM (.cells #[.int .i64 n.a.m, .int .i64 n.a.s, .int .i64 n.b.m, .int .i64 n.b.s, .int .i64 n.c.m, .int .i64 n.c.s, .int .i64 n.d.m, .int .i64 n.d.s, .int .i64 n.e.m, .int .i64 n.e.s, .int .i64 n.f.m, .int .i64 n.f.s] 25)
  have hN := MIn.made (w.alloc (.cells #[.int .i64 m.a.m, .int .i64 m.a.s, .int .i64 m.b.m, .int .i64 m.b.s, .int .i64 m.c.m, .int .i64 m.c.s, .int .i64 m.d.m, .int .i64 m.d.s, .int .i64 m.e.m, .int .i64 m.e.s, .int .i64 m.f.m, .int .i64 m.f.s] 25)) 25 n
  have hM := MIn.old hM (.cells #[.int .i64 p.x.m, .int .i64 p.x.s, .int .i64 p.y.m, .int .i64 p.y.s] 27)
  have hN := MIn.old hN (.cells #[.int .i64 p.x.m, .int .i64 p.x.s, .int .i64 p.y.m, .int .i64 p.y.s] 27)
  have hP := PIn.made ((w.alloc (.cells #[.int .i64 m.a.m, .int .i64 m.a.s, .int .i64 m.b.m, .int .i64 m.b.s, .int .i64 m.c.m, .int .i64 m.c.s, .int .i64 m.d.m, .int .i64 m.d.s, .int .i64 m.e.m, .int .i64 m.e.s, .int .i64 m.f.m, .int .i64 m.f.s] 25)).alloc (.cells #[.int .i64 n.a.m, .int .i64 n.a.s, .int .i64 n.b.m, .int .i64 n.b.s, .int .i64 n.c.m, .int .i64 n.c.s, .int .i64 n.d.m, .int .i64 n.d.s, .int .i64 n.e.m, .int .i64 n.e.s, .int .i64 n.f.m, .int .i64 n.f.s] 25)) 27 p
  simp only [World.size_alloc] at hM hN hP
  have HB : Hid (Below w.heap.size w _) := Below.alloc (Below.alloc (Below.alloc (Below.refl _ _) (by first | exact Nat.le_refl _ | omega | (simp; omega) | (simp; done)) (.cells #[.int .i64 m.a.m, .int .i64 m.a.s, .int .i64 m.b.m, .int .i64 m.b.s, .int .i64 m.c.m, .int .i64 m.c.s, .int .i64 m.d.m, .int .i64 m.d.s, .int .i64 m.e.m, .int .i64 m.e.s, .int .i64 m.f.m, .int .i64 m.f.s] 25)) (by first | exact Nat.le_refl _ | omega | (simp; omega) | (simp; done)) (.cells #[.int .i64 n.a.m, .int .i64 n.a.s, .int .i64 n.b.m, .int .i64 n.b.s, .int .i64 n.c.m, .int .i64 n.c.s, .int .i64 n.d.m, .int .i64 n.d.s, .int .i64 n.e.m, .int .i64 n.e.s, .int .i64 n.f.m, .int .i64 n.f.s] 25)) (by first | exact Nat.le_refl _ | omega | (simp; omega) | (simp; done)) (.cells #[.int .i64 p.x.m, .int .i64 p.x.s, .int .i64 p.y.m, .int .i64 p.y.s] 27)
  go_wp2_with fail
  refine (then_any m n t e _ H1.out).mono ?_
  rintro e w1 ⟨rfl, k⟩
  have HB := Lib.hid (HB.out.trans (k.mono HB.out.size))
  have hM := MIn.later hM k
  have hN := MIn.later hN k
  have hP := PIn.later hP k
  clear k
  have LhM1 := MIn.lt hM
  obtain ⟨fhM1_0, fhM1_1, fhM1_2, fhM1_3, fhM1_4, fhM1_5, fhM1_6, fhM1_7, fhM1_8, fhM1_9, fhM1_10, fhM1_11⟩ := id hM
  have LhN1 := MIn.lt hN
  obtain ⟨fhN1_0, fhN1_1, fhN1_2, fhN1_3, fhN1_4, fhN1_5, fhN1_6, fhN1_7, fhN1_8, fhN1_9, fhN1_10, fhN1_11⟩ := id hN
  have LhP1 := PIn.lt hP
  obtain ⟨fhP1_0, fhP1_1, fhP1_2, fhP1_3⟩ := id hP
  have hM := MIn.old hM (.cells #[.int .i64 t.a.m, .int .i64 t.a.s, .int .i64 t.b.m, .int .i64 t.b.s, .int .i64 t.c.m, .int .i64 t.c.s, .int .i64 t.d.m, .int .i64 t.d.s, .int .i64 t.e.m, .int .i64 t.e.s, .int .i64 t.f.m, .int .i64 t.f.s] 25)
  have hN := MIn.old hN (.cells #[.int .i64 t.a.m, .int .i64 t.a.s, .int .i64 t.b.m, .int .i64 t.b.s, .int .i64 t.c.m, .int .i64 t.c.s, .int .i64 t.d.m, .int .i64 t.d.s, .int .i64 t.e.m, .int .i64 t.e.s, .int .i64 t.f.m, .int .i64 t.f.s] 25)
  have hP := PIn.old hP (.cells #[.int .i64 t.a.m, .int .i64 t.a.s, .int .i64 t.b.m, .int .i64 t.b.s, .int .i64 t.c.m, .int .i64 t.c.s, .int .i64 t.d.m, .int .i64 t.d.s, .int .i64 t.e.m, .int .i64 t.e.s, .int .i64 t.f.m, .int .i64 t.f.s] 25)
  have hT := MIn.made w1 25 t
  have HB := Lib.hid (HB.out.alloc HB.out.size (.cells #[.int .i64 t.a.m, .int .i64 t.a.s, .int .i64 t.b.m, .int .i64 t.b.s, .int .i64 t.c.m, .int .i64 t.c.s, .int .i64 t.d.m, .int .i64 t.d.s, .int .i64 t.e.m, .int .i64 t.e.s, .int .i64 t.f.m, .int .i64 t.f.s] 25))
  go_wp2_with fail
  refine (map_any t p x f _ H2.out).mono ?_
  rintro e w2 ⟨rfl, k⟩
  have HB := Lib.hid (HB.out.trans (k.mono HB.out.size))
  have hM := MIn.later hM k
  have hN := MIn.later hN k
  have hP := PIn.later hP k
  have hT := MIn.later hT k
  clear LhM1 fhM1_0 fhM1_1 fhM1_2 fhM1_3 fhM1_4 fhM1_5 fhM1_6 fhM1_7 fhM1_8 fhM1_9 fhM1_10 fhM1_11 LhN1 fhN1_0 fhN1_1 fhN1_2 fhN1_3 fhN1_4 fhN1_5 fhN1_6 fhN1_7 fhN1_8 fhN1_9 fhN1_10 fhN1_11 LhP1 fhP1_0 fhP1_1 fhP1_2 fhP1_3
  clear k
  have LhM2 := MIn.lt hM
  obtain ⟨fhM2_0, fhM2_1, fhM2_2, fhM2_3, fhM2_4, fhM2_5, fhM2_6, fhM2_7, fhM2_8, fhM2_9, fhM2_10, fhM2_11⟩ := id hM
  have LhN2 := MIn.lt hN
  obtain ⟨fhN2_0, fhN2_1, fhN2_2, fhN2_3, fhN2_4, fhN2_5, fhN2_6, fhN2_7, fhN2_8, fhN2_9, fhN2_10, fhN2_11⟩ := id hN
  have LhP2 := PIn.lt hP
  obtain ⟨fhP2_0, fhP2_1, fhP2_2, fhP2_3⟩ := id hP
  have LhT2 := MIn.lt hT
  obtain ⟨fhT2_0, fhT2_1, fhT2_2, fhT2_3, fhT2_4, fhT2_5, fhT2_6, fhT2_7, fhT2_8, fhT2_9, fhT2_10, fhT2_11⟩ := id hT
  have hM := MIn.old hM (.cells #[.int .i64 x.x.m, .int .i64 x.x.s, .int .i64 x.y.m, .int .i64 x.y.s] 27)
  have hN := MIn.old hN (.cells #[.int .i64 x.x.m, .int .i64 x.x.s, .int .i64 x.y.m, .int .i64 x.y.s] 27)
  have hP := PIn.old hP (.cells #[.int .i64 x.x.m, .int .i64 x.x.s, .int .i64 x.y.m, .int .i64 x.y.s] 27)
  have hT := MIn.old hT (.cells #[.int .i64 x.x.m, .int .i64 x.x.s, .int .i64 x.y.m, .int .i64 x.y.s] 27)
  have hX := PIn.made w2 27 x
  have HB := Lib.hid (HB.out.alloc HB.out.size (.cells #[.int .i64 x.x.m, .int .i64 x.x.s, .int .i64 x.y.m, .int .i64 x.y.s] 27))
  go_wp2_with fail
  refine (map_any m p y g _ H3.out).mono ?_
  rintro e w3 ⟨rfl, k⟩
  have HB := Lib.hid (HB.out.trans (k.mono HB.out.size))
  have hM := MIn.later hM k
  have hN := MIn.later hN k
  have hP := PIn.later hP k
  have hT := MIn.later hT k
  have hX := PIn.later hX k
  clear LhM2 fhM2_0 fhM2_1 fhM2_2 fhM2_3 fhM2_4 fhM2_5 fhM2_6 fhM2_7 fhM2_8 fhM2_9 fhM2_10 fhM2_11 LhN2 fhN2_0 fhN2_1 fhN2_2 fhN2_3 fhN2_4 fhN2_5 fhN2_6 fhN2_7 fhN2_8 fhN2_9 fhN2_10 fhN2_11 LhP2 fhP2_0 fhP2_1 fhP2_2 fhP2_3 LhT2 fhT2_0 fhT2_1 fhT2_2 fhT2_3 fhT2_4 fhT2_5 fhT2_6 fhT2_7 fhT2_8 fhT2_9 fhT2_10 fhT2_11
  clear k
  have LhM3 := MIn.lt hM
  obtain ⟨fhM3_0, fhM3_1, fhM3_2, fhM3_3, fhM3_4, fhM3_5, fhM3_6, fhM3_7, fhM3_8, fhM3_9, fhM3_10, fhM3_11⟩ := id hM
  have LhN3 := MIn.lt hN
  obtain ⟨fhN3_0, fhN3_1, fhN3_2, fhN3_3, fhN3_4, fhN3_5, fhN3_6, fhN3_7, fhN3_8, fhN3_9, fhN3_10, fhN3_11⟩ := id hN
  have LhP3 := PIn.lt hP
  obtain ⟨fhP3_0, fhP3_1, fhP3_2, fhP3_3⟩ := id hP
  have LhT3 := MIn.lt hT
  obtain ⟨fhT3_0, fhT3_1, fhT3_2, fhT3_3, fhT3_4, fhT3_5, fhT3_6, fhT3_7, fhT3_8, fhT3_9, fhT3_10, fhT3_11⟩ := id hT
  have LhX3 := PIn.lt hX
  obtain ⟨fhX3_0, fhX3_1, fhX3_2, fhX3_3⟩ := id hX
  have hM := MIn.old hM (.cells #[.int .i64 y.x.m, .int .i64 y.x.s, .int .i64 y.y.m, .int .i64 y.y.s] 27)
  have hN := MIn.old hN (.cells #[.int .i64 y.x.m, .int .i64 y.x.s, .int .i64 y.y.m, .int .i64 y.y.s] 27)
  have hP := PIn.old hP (.cells #[.int .i64 y.x.m, .int .i64 y.x.s, .int .i64 y.y.m, .int .i64 y.y.s] 27)
  have hT := MIn.old hT (.cells #[.int .i64 y.x.m, .int .i64 y.x.s, .int .i64 y.y.m, .int .i64 y.y.s] 27)
  have hX := PIn.old hX (.cells #[.int .i64 y.x.m, .int .i64 y.x.s, .int .i64 y.y.m, .int .i64 y.y.s] 27)
  have hY := PIn.made w3 27 y
  have HB := Lib.hid (HB.out.alloc HB.out.size (.cells #[.int .i64 y.x.m, .int .i64 y.x.s, .int .i64 y.y.m, .int .i64 y.y.s] 27))
  go_wp2_with fail
  refine (map_any n y z h _ H4.out).mono ?_
  rintro e w4 ⟨rfl, k⟩
  have HB := Lib.hid (HB.out.trans (k.mono HB.out.size))
  have hM := MIn.later hM k
  have hN := MIn.later hN k
  have hP := PIn.later hP k
  have hT := MIn.later hT k
  have hX := PIn.later hX k
  have hY := PIn.later hY k
  clear LhM3 fhM3_0 fhM3_1 fhM3_2 fhM3_3 fhM3_4 fhM3_5 fhM3_6 fhM3_7 fhM3_8 fhM3_9 fhM3_10 fhM3_11 LhN3 fhN3_0 fhN3_1 fhN3_2 fhN3_3 fhN3_4 fhN3_5 fhN3_6 fhN3_7 fhN3_8 fhN3_9 fhN3_10 fhN3_11 LhP3 fhP3_0 fhP3_1 fhP3_2 fhP3_3 LhT3 fhT3_0 fhT3_1 fhT3_2 fhT3_3 fhT3_4 fhT3_5 fhT3_6 fhT3_7 fhT3_8 fhT3_9 fhT3_10 fhT3_11 LhX3 fhX3_0 fhX3_1 fhX3_2 fhX3_3
  clear k
  have LhM4 := MIn.lt hM
  obtain ⟨fhM4_0, fhM4_1, fhM4_2, fhM4_3, fhM4_4, fhM4_5, fhM4_6, fhM4_7, fhM4_8, fhM4_9, fhM4_10, fhM4_11⟩ := id hM
  have LhN4 := MIn.lt hN
  obtain ⟨fhN4_0, fhN4_1, fhN4_2, fhN4_3, fhN4_4, fhN4_5, fhN4_6, fhN4_7, fhN4_8, fhN4_9, fhN4_10, fhN4_11⟩ := id hN
  have LhP4 := PIn.lt hP
  obtain ⟨fhP4_0, fhP4_1, fhP4_2, fhP4_3⟩ := id hP
  have LhT4 := MIn.lt hT
  obtain ⟨fhT4_0, fhT4_1, fhT4_2, fhT4_3, fhT4_4, fhT4_5, fhT4_6, fhT4_7, fhT4_8, fhT4_9, fhT4_10, fhT4_11⟩ := id hT
  have LhX4 := PIn.lt hX
  obtain ⟨fhX4_0, fhX4_1, fhX4_2, fhX4_3⟩ := id hX
  have LhY4 := PIn.lt hY
  obtain ⟨fhY4_0, fhY4_1, fhY4_2, fhY4_3⟩ := id hY
  have hM := MIn.old hM (.cells #[.int .i64 z.x.m, .int .i64 z.x.s, .int .i64 z.y.m, .int .i64 z.y.s] 27)
  have hN := MIn.old hN (.cells #[.int .i64 z.x.m, .int .i64 z.x.s, .int .i64 z.y.m, .int .i64 z.y.s] 27)
  have hP := PIn.old hP (.cells #[.int .i64 z.x.m, .int .i64 z.x.s, .int .i64 z.y.m, .int .i64 z.y.s] 27)
  have hT := MIn.old hT (.cells #[.int .i64 z.x.m, .int .i64 z.x.s, .int .i64 z.y.m, .int .i64 z.y.s] 27)
  have hX := PIn.old hX (.cells #[.int .i64 z.x.m, .int .i64 z.x.s, .int .i64 z.y.m, .int .i64 z.y.s] 27)
  have hY := PIn.old hY (.cells #[.int .i64 z.x.m, .int .i64 z.x.s, .int .i64 z.y.m, .int .i64 z.y.s] 27)
  have hZ := PIn.made w4 27 z
  have HB := Lib.hid (HB.out.alloc HB.out.size (.cells #[.int .i64 z.x.m, .int .i64 z.x.s, .int .i64 z.y.m, .int .i64 z.y.s] 27))
  clear hN hT hY H1 H2 H3 H4
  go_upto_region 5 with fail
  go_cut [63] (fun s wx => s = .bool false ∧ MIn wx (w.heap.size) m ∧ PIn wx (w.heap.size + 1 + 1) p ∧ Hid (Below w.heap.size w wx))
  case first =>
    rcases HX.out with (rfl | rfl) | ⟨rfl, (rfl | rfl)⟩ | ⟨rfl, rfl, (rfl | rfl)⟩ | ⟨rfl, rfl, rfl, (rfl | rfl)⟩ | ⟨rfl, rfl, rfl, rfl, rfl⟩
    all_goals
      clear HX
      go_wp2_with fail
      go_meet
      exact ⟨rfl, hM, hP, HB⟩
  case rest =>
    clear hM hP HB HX
    obtain ⟨rfl, hM, hP, HB⟩ := hcut
    go_upto_region 7 with fail
    go_cut [15, 16] (fun sp se wx => ∃ B : Nat, sp = .pointer (some ⟨B, 0, none⟩) ∧ se = .int .i64 i ∧ PIn wx B q ∧ MIn wx (w.heap.size) m ∧ PIn wx (w.heap.size + 1 + 1) p ∧ Hid (Below w.heap.size w wx))
    case first =>
      have HV := bself hM
      go_region_held3 (fun v => v.cell? ⟨w.heap.size + 1 + 1, 0, none⟩ = some (.int .i64 p.x.m) ∧ v.cell? ⟨w.heap.size + 1 + 1, 1, none⟩ = some (.int .i64 p.x.s) ∧ v.cell? ⟨w.heap.size + 1 + 1, 2, none⟩ = some (.int .i64 p.y.m) ∧ v.cell? ⟨w.heap.size + 1 + 1, 3, none⟩ = some (.int .i64 p.y.s)) (first | with_reducible assumption | with_reducible exact PIn.later hP HV | with_reducible exact PIn.later hP (Below.drew HV) | with_reducible exact PIn.later hP (HV.alloc HV.size _) | with_reducible exact PIn.later hP (B4 gB HV) | go_keep)
        (first
          | (go_at_call 21; (with_reducible refine (one_any _).mono ?_); rintro e v ⟨rfl, k⟩; (first | (with_reducible have k := undrew k) | skip); (first
          | (with_reducible have HN := Below.trans HV (k.mono HV.size); have HV := HN; clear HN; (first | (with_reducible have hR := Whole.here hR k; have lR := Whole.lt hR; have rd := Whole.reads hR; have ft := Whole.thawed hR) | skip))
          | (with_reducible have HN := Below.trans (HV.alloc HV.size _) (k.mono (HV.alloc HV.size _).size); have gB := HV.size; have HV := HN; clear HN; have hR := (Whole.made _ 27 #[.int .i64 0, .int .i64 0, .int .i64 0, .int .i64 0]).here k; have lR := Whole.lt hR; have rd := Whole.reads hR; have ft := Whole.thawed hR)))
          | (go_at_call 12; (with_reducible refine (map_any .one p q i _ H5.out).mono ?_); rintro e v ⟨rfl, k⟩; (first | (with_reducible have k := undrew k) | skip); (first
          | (with_reducible have HN := Below.trans HV (k.mono HV.size); have HV := HN; clear HN; (first | (with_reducible have hR := Whole.here hR k; have lR := Whole.lt hR; have rd := Whole.reads hR; have ft := Whole.thawed hR) | skip))
          | (with_reducible have HN := Below.trans (HV.alloc HV.size _) (k.mono (HV.alloc HV.size _).size); have gB := HV.size; have HV := HN; clear HN; have hR := (Whole.made _ 27 #[.int .i64 0, .int .i64 0, .int .i64 0, .int .i64 0]).here k; have lR := Whole.lt hR; have rd := Whole.reads hR; have ft := Whole.thawed hR))))
      all_goals
        go_wp2_with fail
        go_meet
        refine ⟨_, rfl, rfl, ?_, ?_, ?_, ?_⟩
        · first
            | with_reducible exact PIn.sets (p := q) hR
            | with_reducible exact PIn.made _ _ q
        · first
            | with_reducible exact MIn.later hM (B4 gB HV)
            | with_reducible exact MIn.later hM (Below.alloc HV HV.size _)
        · first
            | with_reducible exact PIn.later hP (B4 gB HV)
            | with_reducible exact PIn.later hP (Below.alloc HV HV.size _)
        · first
            | with_reducible exact Lib.hid (Below.trans HB.out (Below.mono (B4 gB HV) HB.out.size))
            | with_reducible exact Lib.hid (Below.trans HB.out (Below.mono (Below.alloc HV HV.size _) HB.out.size))
    case rest =>
    clear hM hP HB
    obtain ⟨B1, rfl, rfl, hQ, hM, hP, HB⟩ := hcut
    go_upto_region 8 with fail
    go_cut [17, 18] (fun sp se wx => ∃ B : Nat, sp = .pointer (some ⟨B, 0, none⟩) ∧ se = .int .i64 j ∧ MIn wx B u ∧ MIn wx (w.heap.size) m ∧ PIn wx (w.heap.size + 1 + 1) p ∧ PIn wx (B1) q ∧ Hid (Below w.heap.size w wx))
    case first =>
      have HV := bself hM
      go_region_held3 (fun v => v.cell? ⟨w.heap.size, 0, none⟩ = some (.int .i64 m.a.m) ∧ v.cell? ⟨w.heap.size, 1, none⟩ = some (.int .i64 m.a.s) ∧ v.cell? ⟨w.heap.size, 2, none⟩ = some (.int .i64 m.b.m) ∧ v.cell? ⟨w.heap.size, 3, none⟩ = some (.int .i64 m.b.s) ∧ v.cell? ⟨w.heap.size, 4, none⟩ = some (.int .i64 m.c.m) ∧ v.cell? ⟨w.heap.size, 5, none⟩ = some (.int .i64 m.c.s) ∧ v.cell? ⟨w.heap.size, 6, none⟩ = some (.int .i64 m.d.m) ∧ v.cell? ⟨w.heap.size, 7, none⟩ = some (.int .i64 m.d.s) ∧ v.cell? ⟨w.heap.size, 8, none⟩ = some (.int .i64 m.e.m) ∧ v.cell? ⟨w.heap.size, 9, none⟩ = some (.int .i64 m.e.s) ∧ v.cell? ⟨w.heap.size, 10, none⟩ = some (.int .i64 m.f.m) ∧ v.cell? ⟨w.heap.size, 11, none⟩ = some (.int .i64 m.f.s)) (first | with_reducible assumption | with_reducible exact MIn.later hM HV | with_reducible exact MIn.later hM (Below.drew HV) | with_reducible exact MIn.later hM (HV.alloc HV.size _) | with_reducible exact MIn.later hM (BB gB HV) | go_keep)
        (first
          | (go_at_call 21; (with_reducible refine (one_any _).mono ?_); rintro e v ⟨rfl, k⟩; (first | (with_reducible have k := undrew k) | skip); (first
          | (with_reducible have HN := Below.trans HV (k.mono HV.size); have HV := HN; clear HN; (first | (with_reducible have hR := Whole.here hR k; have lR := Whole.lt hR; have rd := Whole.reads hR; have ft := Whole.thawed hR) | skip))
          | (with_reducible have HN := Below.trans (HV.alloc HV.size _) (k.mono (HV.alloc HV.size _).size); have gB := HV.size; have HV := HN; clear HN; have hR := (Whole.made _ 25 #[.int .i64 0, .int .i64 0, .int .i64 0, .int .i64 0, .int .i64 0, .int .i64 0, .int .i64 0, .int .i64 0, .int .i64 0, .int .i64 0, .int .i64 0, .int .i64 0]).here k; have lR := Whole.lt hR; have rd := Whole.reads hR; have ft := Whole.thawed hR)))
          | (go_at_call 14; (with_reducible refine (then_any m .one u j _ H6.out).mono ?_); rintro e v ⟨rfl, k⟩; (first | (with_reducible have k := undrew k) | skip); (first
          | (with_reducible have HN := Below.trans HV (k.mono HV.size); have HV := HN; clear HN; (first | (with_reducible have hR := Whole.here hR k; have lR := Whole.lt hR; have rd := Whole.reads hR; have ft := Whole.thawed hR) | skip))
          | (with_reducible have HN := Below.trans (HV.alloc HV.size _) (k.mono (HV.alloc HV.size _).size); have gB := HV.size; have HV := HN; clear HN; have hR := (Whole.made _ 25 #[.int .i64 0, .int .i64 0, .int .i64 0, .int .i64 0, .int .i64 0, .int .i64 0, .int .i64 0, .int .i64 0, .int .i64 0, .int .i64 0, .int .i64 0, .int .i64 0]).here k; have lR := Whole.lt hR; have rd := Whole.reads hR; have ft := Whole.thawed hR))))
      all_goals
        go_wp2_with fail
        go_meet
        refine ⟨_, rfl, rfl, ?_, ?_, ?_, ?_, ?_⟩
        · first
            | with_reducible exact MIn.sets (m := u) hR
            | with_reducible exact MIn.made _ _ u
        · first
            | with_reducible exact MIn.later hM (BB gB HV)
            | with_reducible exact MIn.later hM (Below.alloc HV HV.size _)
        · first
            | with_reducible exact PIn.later hP (BB gB HV)
            | with_reducible exact PIn.later hP (Below.alloc HV HV.size _)
        · first
            | with_reducible exact PIn.later hQ (BB gB HV)
            | with_reducible exact PIn.later hQ (Below.alloc HV HV.size _)
        · first
            | with_reducible exact Lib.hid (Below.trans HB.out (Below.mono (BB gB HV) HB.out.size))
            | with_reducible exact Lib.hid (Below.trans HB.out (Below.mono (Below.alloc HV HV.size _) HB.out.size))
    case rest =>
    clear hM hP hQ HB
    obtain ⟨B2, rfl, rfl, hU, hM, hP, hQ, HB⟩ := hcut
    go_upto_region 9 with fail
    go_cut [19, 20] (fun sp se wx => ∃ B : Nat, sp = .pointer (some ⟨B, 0, none⟩) ∧ se = .int .i64 kE ∧ MIn wx B v' ∧ MIn wx (w.heap.size) m ∧ PIn wx (w.heap.size + 1 + 1) p ∧ PIn wx (B1) q ∧ MIn wx (B2) u ∧ Hid (Below w.heap.size w wx))
    case first =>
      have HV := bself hM
      go_region_held3 (fun v => v.cell? ⟨w.heap.size, 0, none⟩ = some (.int .i64 m.a.m) ∧ v.cell? ⟨w.heap.size, 1, none⟩ = some (.int .i64 m.a.s) ∧ v.cell? ⟨w.heap.size, 2, none⟩ = some (.int .i64 m.b.m) ∧ v.cell? ⟨w.heap.size, 3, none⟩ = some (.int .i64 m.b.s) ∧ v.cell? ⟨w.heap.size, 4, none⟩ = some (.int .i64 m.c.m) ∧ v.cell? ⟨w.heap.size, 5, none⟩ = some (.int .i64 m.c.s) ∧ v.cell? ⟨w.heap.size, 6, none⟩ = some (.int .i64 m.d.m) ∧ v.cell? ⟨w.heap.size, 7, none⟩ = some (.int .i64 m.d.s) ∧ v.cell? ⟨w.heap.size, 8, none⟩ = some (.int .i64 m.e.m) ∧ v.cell? ⟨w.heap.size, 9, none⟩ = some (.int .i64 m.e.s) ∧ v.cell? ⟨w.heap.size, 10, none⟩ = some (.int .i64 m.f.m) ∧ v.cell? ⟨w.heap.size, 11, none⟩ = some (.int .i64 m.f.s)) (first | with_reducible assumption | with_reducible exact MIn.later hM HV | with_reducible exact MIn.later hM (Below.drew HV) | with_reducible exact MIn.later hM (HV.alloc HV.size _) | with_reducible exact MIn.later hM (BB gB HV) | go_keep)
        (first
          | (go_at_call 21; (with_reducible refine (one_any _).mono ?_); rintro e v ⟨rfl, k⟩; (first | (with_reducible have k := undrew k) | skip); (first
          | (with_reducible have HN := Below.trans HV (k.mono HV.size); have HV := HN; clear HN; (first | (with_reducible have hR := Whole.here hR k; have lR := Whole.lt hR; have rd := Whole.reads hR; have ft := Whole.thawed hR) | skip))
          | (with_reducible have HN := Below.trans (HV.alloc HV.size _) (k.mono (HV.alloc HV.size _).size); have gB := HV.size; have HV := HN; clear HN; have hR := (Whole.made _ 25 #[.int .i64 0, .int .i64 0, .int .i64 0, .int .i64 0, .int .i64 0, .int .i64 0, .int .i64 0, .int .i64 0, .int .i64 0, .int .i64 0, .int .i64 0, .int .i64 0]).here k; have lR := Whole.lt hR; have rd := Whole.reads hR; have ft := Whole.thawed hR)))
          | (go_at_call 14; (with_reducible refine (then_any .one m v' kE _ H7.out).mono ?_); rintro e v ⟨rfl, k⟩; (first | (with_reducible have k := undrew k) | skip); (first
          | (with_reducible have HN := Below.trans HV (k.mono HV.size); have HV := HN; clear HN; (first | (with_reducible have hR := Whole.here hR k; have lR := Whole.lt hR; have rd := Whole.reads hR; have ft := Whole.thawed hR) | skip))
          | (with_reducible have HN := Below.trans (HV.alloc HV.size _) (k.mono (HV.alloc HV.size _).size); have gB := HV.size; have HV := HN; clear HN; have hR := (Whole.made _ 25 #[.int .i64 0, .int .i64 0, .int .i64 0, .int .i64 0, .int .i64 0, .int .i64 0, .int .i64 0, .int .i64 0, .int .i64 0, .int .i64 0, .int .i64 0, .int .i64 0]).here k; have lR := Whole.lt hR; have rd := Whole.reads hR; have ft := Whole.thawed hR))))
      all_goals
        go_wp2_with fail
        go_meet
        refine ⟨_, rfl, rfl, ?_, ?_, ?_, ?_, ?_, ?_⟩
        · first
            | with_reducible exact MIn.sets (m := v') hR
            | with_reducible exact MIn.made _ _ v'
        · first
            | with_reducible exact MIn.later hM (BB gB HV)
            | with_reducible exact MIn.later hM (Below.alloc HV HV.size _)
        · first
            | with_reducible exact PIn.later hP (BB gB HV)
            | with_reducible exact PIn.later hP (Below.alloc HV HV.size _)
        · first
            | with_reducible exact PIn.later hQ (BB gB HV)
            | with_reducible exact PIn.later hQ (Below.alloc HV HV.size _)
        · first
            | with_reducible exact MIn.later hU (BB gB HV)
            | with_reducible exact MIn.later hU (Below.alloc HV HV.size _)
        · first
            | with_reducible exact Lib.hid (Below.trans HB.out (Below.mono (BB gB HV) HB.out.size))
            | with_reducible exact Lib.hid (Below.trans HB.out (Below.mono (Below.alloc HV HV.size _) HB.out.size))
    case rest =>
    clear hM hP hQ hU HB
    obtain ⟨B3, rfl, rfl, hV, hM, hP, hQ, hU, HB⟩ := hcut
    go_upto_region 10 with fail
    go_cut [100] (fun s wx => s = .bool false ∧ MIn wx (w.heap.size) m ∧ PIn wx (w.heap.size + 1 + 1) p ∧ PIn wx B1 q ∧ MIn wx B2 u ∧ MIn wx B3 v' ∧ Hid (Below w.heap.size w wx))
    case first =>
      have LhM := MIn.lt hM
      obtain ⟨fhM0, fhM1, fhM2, fhM3, fhM4, fhM5, fhM6, fhM7, fhM8, fhM9, fhM10, fhM11⟩ := id hM
      have LhP := PIn.lt hP
      obtain ⟨fhP0, fhP1, fhP2, fhP3⟩ := id hP
      have LhQ := PIn.lt hQ
      obtain ⟨fhQ0, fhQ1, fhQ2, fhQ3⟩ := id hQ
      have LhU := MIn.lt hU
      obtain ⟨fhU0, fhU1, fhU2, fhU3, fhU4, fhU5, fhU6, fhU7, fhU8, fhU9, fhU10, fhU11⟩ := id hU
      have LhV := MIn.lt hV
      obtain ⟨fhV0, fhV1, fhV2, fhV3, fhV4, fhV5, fhV6, fhV7, fhV8, fhV9, fhV10, fhV11⟩ := id hV
      rcases HC.out with k1 | ⟨k1, k2⟩ | ⟨k1, k2, rfl, rfl⟩
      · have K1 := Lib.hid k1
        clear k1
        go_wp2_with fail
        refine (check_any p.x _ 1 (.inr ⟨K1.out, rfl⟩)).mono ?_
        rintro e wn ⟨rfl, kk⟩
        have HB := Lib.hid (HB.out.trans (kk.mono HB.out.size))
        have hM := MIn.later hM kk
        have hP := PIn.later hP kk
        have hQ := PIn.later hQ kk
        have hU := MIn.later hU kk
        have hV := MIn.later hV kk
        clear LhM LhP LhQ LhU LhV fhM0 fhM1 fhM2 fhM3 fhM4 fhM5 fhM6 fhM7 fhM8 fhM9 fhM10 fhM11 fhP0 fhP1 fhP2 fhP3 fhQ0 fhQ1 fhQ2 fhQ3 fhU0 fhU1 fhU2 fhU3 fhU4 fhU5 fhU6 fhU7 fhU8 fhU9 fhU10 fhU11 fhV0 fhV1 fhV2 fhV3 fhV4 fhV5 fhV6 fhV7 fhV8 fhV9 fhV10 fhV11
        clear kk
        have LhM := MIn.lt hM
        obtain ⟨fhM0, fhM1, fhM2, fhM3, fhM4, fhM5, fhM6, fhM7, fhM8, fhM9, fhM10, fhM11⟩ := id hM
        have LhP := PIn.lt hP
        obtain ⟨fhP0, fhP1, fhP2, fhP3⟩ := id hP
        have LhQ := PIn.lt hQ
        obtain ⟨fhQ0, fhQ1, fhQ2, fhQ3⟩ := id hQ
        have LhU := MIn.lt hU
        obtain ⟨fhU0, fhU1, fhU2, fhU3, fhU4, fhU5, fhU6, fhU7, fhU8, fhU9, fhU10, fhU11⟩ := id hU
        have LhV := MIn.lt hV
        obtain ⟨fhV0, fhV1, fhV2, fhV3, fhV4, fhV5, fhV6, fhV7, fhV8, fhV9, fhV10, fhV11⟩ := id hV
        go_wp2_with fail
        go_meet
        exact ⟨rfl, hM, hP, hQ, hU, hV, HB⟩
      · have K1 := Lib.hid k1
        clear k1
        have K2 := Lib.hid k2
        clear k2
        go_wp2_with fail
        refine (check_any p.x _ 0 (.inl ⟨K1.out, rfl⟩)).mono ?_
        rintro e wn ⟨rfl, kk⟩
        have HB := Lib.hid (HB.out.trans (kk.mono HB.out.size))
        have hM := MIn.later hM kk
        have hP := PIn.later hP kk
        have hQ := PIn.later hQ kk
        have hU := MIn.later hU kk
        have hV := MIn.later hV kk
        clear LhM LhP LhQ LhU LhV fhM0 fhM1 fhM2 fhM3 fhM4 fhM5 fhM6 fhM7 fhM8 fhM9 fhM10 fhM11 fhP0 fhP1 fhP2 fhP3 fhQ0 fhQ1 fhQ2 fhQ3 fhU0 fhU1 fhU2 fhU3 fhU4 fhU5 fhU6 fhU7 fhU8 fhU9 fhU10 fhU11 fhV0 fhV1 fhV2 fhV3 fhV4 fhV5 fhV6 fhV7 fhV8 fhV9 fhV10 fhV11
        clear kk
        have LhM := MIn.lt hM
        obtain ⟨fhM0, fhM1, fhM2, fhM3, fhM4, fhM5, fhM6, fhM7, fhM8, fhM9, fhM10, fhM11⟩ := id hM
        have LhP := PIn.lt hP
        obtain ⟨fhP0, fhP1, fhP2, fhP3⟩ := id hP
        have LhQ := PIn.lt hQ
        obtain ⟨fhQ0, fhQ1, fhQ2, fhQ3⟩ := id hQ
        have LhU := MIn.lt hU
        obtain ⟨fhU0, fhU1, fhU2, fhU3, fhU4, fhU5, fhU6, fhU7, fhU8, fhU9, fhU10, fhU11⟩ := id hU
        have LhV := MIn.lt hV
        obtain ⟨fhV0, fhV1, fhV2, fhV3, fhV4, fhV5, fhV6, fhV7, fhV8, fhV9, fhV10, fhV11⟩ := id hV
        go_wp2_with fail
        refine (check_any p.y _ 1 (.inr ⟨K2.out, rfl⟩)).mono ?_
        rintro e wn ⟨rfl, kk⟩
        have HB := Lib.hid (HB.out.trans (kk.mono HB.out.size))
        have hM := MIn.later hM kk
        have hP := PIn.later hP kk
        have hQ := PIn.later hQ kk
        have hU := MIn.later hU kk
        have hV := MIn.later hV kk
        clear LhM LhP LhQ LhU LhV fhM0 fhM1 fhM2 fhM3 fhM4 fhM5 fhM6 fhM7 fhM8 fhM9 fhM10 fhM11 fhP0 fhP1 fhP2 fhP3 fhQ0 fhQ1 fhQ2 fhQ3 fhU0 fhU1 fhU2 fhU3 fhU4 fhU5 fhU6 fhU7 fhU8 fhU9 fhU10 fhU11 fhV0 fhV1 fhV2 fhV3 fhV4 fhV5 fhV6 fhV7 fhV8 fhV9 fhV10 fhV11
        clear kk
        have LhM := MIn.lt hM
        obtain ⟨fhM0, fhM1, fhM2, fhM3, fhM4, fhM5, fhM6, fhM7, fhM8, fhM9, fhM10, fhM11⟩ := id hM
        have LhP := PIn.lt hP
        obtain ⟨fhP0, fhP1, fhP2, fhP3⟩ := id hP
        have LhQ := PIn.lt hQ
        obtain ⟨fhQ0, fhQ1, fhQ2, fhQ3⟩ := id hQ
        have LhU := MIn.lt hU
        obtain ⟨fhU0, fhU1, fhU2, fhU3, fhU4, fhU5, fhU6, fhU7, fhU8, fhU9, fhU10, fhU11⟩ := id hU
        have LhV := MIn.lt hV
        obtain ⟨fhV0, fhV1, fhV2, fhV3, fhV4, fhV5, fhV6, fhV7, fhV8, fhV9, fhV10, fhV11⟩ := id hV
        go_wp2_with fail
        go_meet
        exact ⟨rfl, hM, hP, hQ, hU, hV, HB⟩
      · have K1 := Lib.hid k1
        clear k1
        have K2 := Lib.hid k2
        clear k2
        go_wp2_with fail
        refine (check_any p.x _ 0 (.inl ⟨K1.out, rfl⟩)).mono ?_
        rintro e wn ⟨rfl, kk⟩
        have HB := Lib.hid (HB.out.trans (kk.mono HB.out.size))
        have hM := MIn.later hM kk
        have hP := PIn.later hP kk
        have hQ := PIn.later hQ kk
        have hU := MIn.later hU kk
        have hV := MIn.later hV kk
        clear LhM LhP LhQ LhU LhV fhM0 fhM1 fhM2 fhM3 fhM4 fhM5 fhM6 fhM7 fhM8 fhM9 fhM10 fhM11 fhP0 fhP1 fhP2 fhP3 fhQ0 fhQ1 fhQ2 fhQ3 fhU0 fhU1 fhU2 fhU3 fhU4 fhU5 fhU6 fhU7 fhU8 fhU9 fhU10 fhU11 fhV0 fhV1 fhV2 fhV3 fhV4 fhV5 fhV6 fhV7 fhV8 fhV9 fhV10 fhV11
        clear kk
        have LhM := MIn.lt hM
        obtain ⟨fhM0, fhM1, fhM2, fhM3, fhM4, fhM5, fhM6, fhM7, fhM8, fhM9, fhM10, fhM11⟩ := id hM
        have LhP := PIn.lt hP
        obtain ⟨fhP0, fhP1, fhP2, fhP3⟩ := id hP
        have LhQ := PIn.lt hQ
        obtain ⟨fhQ0, fhQ1, fhQ2, fhQ3⟩ := id hQ
        have LhU := MIn.lt hU
        obtain ⟨fhU0, fhU1, fhU2, fhU3, fhU4, fhU5, fhU6, fhU7, fhU8, fhU9, fhU10, fhU11⟩ := id hU
        have LhV := MIn.lt hV
        obtain ⟨fhV0, fhV1, fhV2, fhV3, fhV4, fhV5, fhV6, fhV7, fhV8, fhV9, fhV10, fhV11⟩ := id hV
        go_wp2_with fail
        refine (check_any p.y _ 0 (.inl ⟨K2.out, rfl⟩)).mono ?_
        rintro e wn ⟨rfl, kk⟩
        have HB := Lib.hid (HB.out.trans (kk.mono HB.out.size))
        have hM := MIn.later hM kk
        have hP := PIn.later hP kk
        have hQ := PIn.later hQ kk
        have hU := MIn.later hU kk
        have hV := MIn.later hV kk
        clear LhM LhP LhQ LhU LhV fhM0 fhM1 fhM2 fhM3 fhM4 fhM5 fhM6 fhM7 fhM8 fhM9 fhM10 fhM11 fhP0 fhP1 fhP2 fhP3 fhQ0 fhQ1 fhQ2 fhQ3 fhU0 fhU1 fhU2 fhU3 fhU4 fhU5 fhU6 fhU7 fhU8 fhU9 fhU10 fhU11 fhV0 fhV1 fhV2 fhV3 fhV4 fhV5 fhV6 fhV7 fhV8 fhV9 fhV10 fhV11
        clear kk
        have LhM := MIn.lt hM
        obtain ⟨fhM0, fhM1, fhM2, fhM3, fhM4, fhM5, fhM6, fhM7, fhM8, fhM9, fhM10, fhM11⟩ := id hM
        have LhP := PIn.lt hP
        obtain ⟨fhP0, fhP1, fhP2, fhP3⟩ := id hP
        have LhQ := PIn.lt hQ
        obtain ⟨fhQ0, fhQ1, fhQ2, fhQ3⟩ := id hQ
        have LhU := MIn.lt hU
        obtain ⟨fhU0, fhU1, fhU2, fhU3, fhU4, fhU5, fhU6, fhU7, fhU8, fhU9, fhU10, fhU11⟩ := id hU
        have LhV := MIn.lt hV
        obtain ⟨fhV0, fhV1, fhV2, fhV3, fhV4, fhV5, fhV6, fhV7, fhV8, fhV9, fhV10, fhV11⟩ := id hV
        go_wp2_with fail
        go_meet
        exact ⟨rfl, hM, hP, hQ, hU, hV, HB⟩
    case rest =>
    clear hM hP hQ hU hV HB HC
    obtain ⟨rfl, hM, hP, hQ, hU, hV, HB⟩ := hcut
    have LhM := MIn.lt hM
    obtain ⟨fhM0, fhM1, fhM2, fhM3, fhM4, fhM5, fhM6, fhM7, fhM8, fhM9, fhM10, fhM11⟩ := id hM
    have LhP := PIn.lt hP
    obtain ⟨fhP0, fhP1, fhP2, fhP3⟩ := id hP
    have LhQ := PIn.lt hQ
    obtain ⟨fhQ0, fhQ1, fhQ2, fhQ3⟩ := id hQ
    have LhU := MIn.lt hU
    obtain ⟨fhU0, fhU1, fhU2, fhU3, fhU4, fhU5, fhU6, fhU7, fhU8, fhU9, fhU10, fhU11⟩ := id hU
    have LhV := MIn.lt hV
    obtain ⟨fhV0, fhV1, fhV2, fhV3, fhV4, fhV5, fhV6, fhV7, fhV8, fhV9, fhV10, fhV11⟩ := id hV
    go_wp2_with fail
    refine (mawake_any _).mono ?_
    rintro e wn ⟨rfl, kk⟩
    have HB := Lib.hid (HB.out.trans (kk.mono HB.out.size))
    have hM := MIn.later hM kk
    have hP := PIn.later hP kk
    have hQ := PIn.later hQ kk
    have hU := MIn.later hU kk
    have hV := MIn.later hV kk
    clear LhM LhP LhQ LhU LhV fhM0 fhM1 fhM2 fhM3 fhM4 fhM5 fhM6 fhM7 fhM8 fhM9 fhM10 fhM11 fhP0 fhP1 fhP2 fhP3 fhQ0 fhQ1 fhQ2 fhQ3 fhU0 fhU1 fhU2 fhU3 fhU4 fhU5 fhU6 fhU7 fhU8 fhU9 fhU10 fhU11 fhV0 fhV1 fhV2 fhV3 fhV4 fhV5 fhV6 fhV7 fhV8 fhV9 fhV10 fhV11
    clear kk
    have LhM := MIn.lt hM
    obtain ⟨fhM0, fhM1, fhM2, fhM3, fhM4, fhM5, fhM6, fhM7, fhM8, fhM9, fhM10, fhM11⟩ := id hM
    have LhP := PIn.lt hP
    obtain ⟨fhP0, fhP1, fhP2, fhP3⟩ := id hP
    have LhQ := PIn.lt hQ
    obtain ⟨fhQ0, fhQ1, fhQ2, fhQ3⟩ := id hQ
    have LhU := MIn.lt hU
    obtain ⟨fhU0, fhU1, fhU2, fhU3, fhU4, fhU5, fhU6, fhU7, fhU8, fhU9, fhU10, fhU11⟩ := id hU
    have LhV := MIn.lt hV
    obtain ⟨fhV0, fhV1, fhV2, fhV3, fhV4, fhV5, fhV6, fhV7, fhV8, fhV9, fhV10, fhV11⟩ := id hV
    rcases HK.out with k1 | ⟨k1, rfl, rfl, rfl, rfl⟩
    · have K1 := Lib.hid k1
      clear k1
      go_wp2_with fail
      refine (mcheck_any m _ 1 (.inr ⟨K1.out, rfl⟩)).mono ?_
      rintro e wn ⟨rfl, kk⟩
      have HB := Lib.hid (HB.out.trans (kk.mono HB.out.size))
      have hM := MIn.later hM kk
      have hP := PIn.later hP kk
      have hQ := PIn.later hQ kk
      have hU := MIn.later hU kk
      have hV := MIn.later hV kk
      clear LhM LhP LhQ LhU LhV fhM0 fhM1 fhM2 fhM3 fhM4 fhM5 fhM6 fhM7 fhM8 fhM9 fhM10 fhM11 fhP0 fhP1 fhP2 fhP3 fhQ0 fhQ1 fhQ2 fhQ3 fhU0 fhU1 fhU2 fhU3 fhU4 fhU5 fhU6 fhU7 fhU8 fhU9 fhU10 fhU11 fhV0 fhV1 fhV2 fhV3 fhV4 fhV5 fhV6 fhV7 fhV8 fhV9 fhV10 fhV11
      clear kk
      have LhM := MIn.lt hM
      obtain ⟨fhM0, fhM1, fhM2, fhM3, fhM4, fhM5, fhM6, fhM7, fhM8, fhM9, fhM10, fhM11⟩ := id hM
      have LhP := PIn.lt hP
      obtain ⟨fhP0, fhP1, fhP2, fhP3⟩ := id hP
      have LhQ := PIn.lt hQ
      obtain ⟨fhQ0, fhQ1, fhQ2, fhQ3⟩ := id hQ
      have LhU := MIn.lt hU
      obtain ⟨fhU0, fhU1, fhU2, fhU3, fhU4, fhU5, fhU6, fhU7, fhU8, fhU9, fhU10, fhU11⟩ := id hU
      have LhV := MIn.lt hV
      obtain ⟨fhV0, fhV1, fhV2, fhV3, fhV4, fhV5, fhV6, fhV7, fhV8, fhV9, fhV10, fhV11⟩ := id hV
      have HZ := Lib.hid HB.out
      go_wp2
      go_ret
      exact ⟨rfl, HZ.out⟩
    · have K1 := Lib.hid k1
      clear k1
      go_wp2_with fail
      refine (mcheck_any m _ 0 (.inl ⟨K1.out, rfl⟩)).mono ?_
      rintro e wn ⟨rfl, kk⟩
      have HB := Lib.hid (HB.out.trans (kk.mono HB.out.size))
      have hM := MIn.later hM kk
      have hP := PIn.later hP kk
      have hQ := PIn.later hQ kk
      have hU := MIn.later hU kk
      have hV := MIn.later hV kk
      clear LhM LhP LhQ LhU LhV fhM0 fhM1 fhM2 fhM3 fhM4 fhM5 fhM6 fhM7 fhM8 fhM9 fhM10 fhM11 fhP0 fhP1 fhP2 fhP3 fhQ0 fhQ1 fhQ2 fhQ3 fhU0 fhU1 fhU2 fhU3 fhU4 fhU5 fhU6 fhU7 fhU8 fhU9 fhU10 fhU11 fhV0 fhV1 fhV2 fhV3 fhV4 fhV5 fhV6 fhV7 fhV8 fhV9 fhV10 fhV11
      clear kk
      have LhM := MIn.lt hM
      obtain ⟨fhM0, fhM1, fhM2, fhM3, fhM4, fhM5, fhM6, fhM7, fhM8, fhM9, fhM10, fhM11⟩ := id hM
      have LhP := PIn.lt hP
      obtain ⟨fhP0, fhP1, fhP2, fhP3⟩ := id hP
      have LhQ := PIn.lt hQ
      obtain ⟨fhQ0, fhQ1, fhQ2, fhQ3⟩ := id hQ
      have LhU := MIn.lt hU
      obtain ⟨fhU0, fhU1, fhU2, fhU3, fhU4, fhU5, fhU6, fhU7, fhU8, fhU9, fhU10, fhU11⟩ := id hU
      have LhV := MIn.lt hV
      obtain ⟨fhV0, fhV1, fhV2, fhV3, fhV4, fhV5, fhV6, fhV7, fhV8, fhV9, fhV10, fhV11⟩ := id hV
      have HZ := Lib.hid HB.out
      go_wp2
      go_ret
      exact ⟨rfl, HZ.out⟩

theorem maps_any (m n : MV) (p : PV) (w : World) :
    Calls Try.prog 4 #[m.val, n.val, p.val] w fun e w' => e = .returned (.bool true) ∧ Below w.heap.size w w' := by
  obtain ⟨t, e, h1⟩ := ThenIs.total m n
  obtain ⟨x, f, h2⟩ := MapIs.total t p
  obtain ⟨y, g, h3⟩ := MapIs.total m p
  obtain ⟨z, h, h4⟩ := MapIs.total n y
  obtain ⟨q, i, h5, hc⟩ : ∃ q i, MapIs .one p q i ∧ PWay p q i := by
    by_cases hp : p.Ok
    · exact ⟨p, 0, one_maps hp, .inr (.inr ⟨hp.1, hp.2, rfl, rfl⟩)⟩
    · obtain ⟨q, i, hq⟩ := MapIs.total .one p
      refine ⟨q, i, hq, ?_⟩
      by_cases h0 : p.x.Ok
      · exact .inr (.inl ⟨h0, fun h1 => hp ⟨h0, h1⟩⟩)
      · exact .inl h0
  obtain ⟨u, v', j, k, h6, h7, hk⟩ : ∃ u v' j k, ThenIs m .one u j ∧ ThenIs .one m v' k ∧ MWay m u v' j k := by
    by_cases hm : m.Ok
    · exact ⟨m, m, 0, 0, then_one hm, one_then hm, .inr ⟨hm, rfl, rfl, rfl, rfl⟩⟩
    · obtain ⟨u, j, hu⟩ := ThenIs.total m .one
      obtain ⟨v', k, hv⟩ := ThenIs.total .one m
      exact ⟨u, v', j, k, hu, hv, .inl hm⟩
  exact maps_all m n t u v' p x y z q e f g h i j k w h1 h2 h3 h4 h5 h6 h7 (Mapped.of h1 h2 h3 h4) hc hk
end Go.Proofs.Ytcckkmoaneomoaa
