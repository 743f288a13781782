/- The walk of MatrixHolds. -/
import Derived.Test.YtcckkmoaneomoaaMatAwake
namespace Go.Proofs.Ytcckkmoaneomoaa
open Go.RowKit Dec

/-- The ways of the last test. -/
def Held (e f g h : Int) (b d : MV) : Prop := (e = 1 ∨ e = 5) ∨ (e = 0 ∧ (f = 1 ∨ f = 5)) ∨ (e = 0 ∧ f = 0 ∧ (g = 1 ∨ g = 5)) ∨ (e = 0 ∧ f = 0 ∧ g = 0 ∧ (h = 1 ∨ h = 5)) ∨ (e = 0 ∧ f = 0 ∧ g = 0 ∧ h = 0 ∧ d = b)
theorem Held.of {l m n a b c d : MV} {e f g h : Int} (h1 : ThenIs l m a e) (h2 : ThenIs a n b f) (h3 : ThenIs m n c g) (h4 : ThenIs l c d h) : Held e f g h b d := by
  rcases h1.ok.2 with rfl | k1
  · rcases h2.ok.2 with rfl | k2
    · rcases h3.ok.2 with rfl | k3
      · rcases h4.ok.2 with rfl | k4
        · exact .inr (.inr (.inr (.inr ⟨rfl, rfl, rfl, rfl, (holds_math h1 h2 h3 h4).symm⟩)))
        · exact .inr (.inr (.inr (.inl ⟨rfl, rfl, rfl, k4⟩)))
      · exact .inr (.inr (.inl ⟨rfl, rfl, k3⟩))
    · exact .inr (.inl ⟨rfl, k2⟩)
  · exact .inl k1

set_option maxRecDepth 100000 in
set_option maxHeartbeats 16000000 in
theorem holds_all (l m n a b c d : MV) (e f g h : Int) (w : World) (h1 : ThenIs l m a e) (h2 : ThenIs a n b f) (h3 : ThenIs m n c g) (h4 : ThenIs l c d h) :
    Calls Try.prog 5 #[l.val, m.val, n.val] w fun e w' => e = .returned (.bool true) ∧ Below w.heap.size w w' := by
  have H1 := Lib.hid h1
  have H2 := Lib.hid h2
  have H3 := Lib.hid h3
  have H4 := Lib.hid h4
  clear h1 h2 h3 h4
  go_enter Try.func5, Try.ntmps5
  have hL := MIn.made w 25 l
  have hL := MIn.old hL (.cells #[.int .i64 m.a.m, .int .i64 m.a.s, .int .i64 m.b.m, .int .i64 m.b.s, .int .i64 m.c.m, .int .i64 m.c.s, .int .i64 m.d.m, .int .i64 m.d.s, .int .i64 m.e.m, .int .i64 m.e.s, .int .i64 m.f.m, .int .i64 m.f.s] 25)
  have hM := MIn.made (w.alloc (.cells #[.int .i64 l.a.m, .int .i64 l.a.s, .int .i64 l.b.m, .int .i64 l.b.s, .int .i64 l.c.m, .int .i64 l.c.s, .int .i64 l.d.m, .int .i64 l.d.s, .int .i64 l.e.m, .int .i64 l.e.s, .int .i64 l.f.m, .int .i64 l.f.s] 25)) 25 m
  have hL := MIn.old hL (.cells #[.int .i64 n.a.m, .int .i64 n.a.s, .int .i64 n.b.m, .int .i64 n.b.s, .int .i64 n.c.m, .int .i64 n.c.s, .int .i64 n.d.m, .int .i64 n.d.s, .int .i64 n.e.m, .int .i64 n.e.s, .int .i64 n.f.m, .int .i64 n.f.s] 25)
  have hM := MIn.old hM (.cells #[.int .i64 n.a.m, .int .i64 n.a.s, .int .i64 n.b.m, .int .i64 n.b.s, .int .i64 n.c.m, .int .i64 n.c.s, .int .i64 n.d.m, .int .i64 n.d.s, .int .i64 n.e.m, .int .i64 n.e.s, .int .i64 n.f.m, .int .i64 n.f.s] 25)
  have hN := MIn.made ((w.alloc (.cells #[.int .i64 l.a.m, .int .i64 l.a.s, .int .i64 l.b.m, .int .i64 l.b.s, .int .i64 l.c.m, .int .i64 l.c.s, .int .i64 l.d.m, .int .i64 l.d.s, .int .i64 l.e.m, .int .i64 l.e.s, .int .i64 l.f.m, .int .i64 l.f.s] 25)).alloc (.cells #[.int .i64 m.a.m, .int .i64 m.a.s, .int .i64 m.b.m, .int .i64 m.b.s, .int .i64 m.c.m, .int .i64 m.c.s, .int .i64 m.d.m, .int .i64 m.d.s, .int .i64 m.e.m, .int .i64 m.e.s, .int .i64 m.f.m, .int .i64 m.f.s] 25)) 25 n
  simp only [World.size_alloc] at hL hM hN
  have HB : Hid (Below w.heap.size w _) := Below.alloc (Below.alloc (Below.alloc (Below.refl _ _) (by first | exact Nat.le_refl _ | omega | (simp; omega) | (simp; done)) (.cells #[.int .i64 l.a.m, .int .i64 l.a.s, .int .i64 l.b.m, .int .i64 l.b.s, .int .i64 l.c.m, .int .i64 l.c.s, .int .i64 l.d.m, .int .i64 l.d.s, .int .i64 l.e.m, .int .i64 l.e.s, .int .i64 l.f.m, .int .i64 l.f.s] 25)) (by first | exact Nat.le_refl _ | omega | (simp; omega) | (simp; done)) (.cells #[.int .i64 m.a.m, .int .i64 m.a.s, .int .i64 m.b.m, .int .i64 m.b.s, .int .i64 m.c.m, .int .i64 m.c.s, .int .i64 m.d.m, .int .i64 m.d.s, .int .i64 m.e.m, .int .i64 m.e.s, .int .i64 m.f.m, .int .i64 m.f.s] 25)) (by first | exact Nat.le_refl _ | omega | (simp; omega) | (simp; done)) (.cells #[.int .i64 n.a.m, .int .i64 n.a.s, .int .i64 n.b.m, .int .i64 n.b.s, .int .i64 n.c.m, .int .i64 n.c.s, .int .i64 n.d.m, .int .i64 n.d.s, .int .i64 n.e.m, .int .i64 n.e.s, .int .i64 n.f.m, .int .i64 n.f.s] 25)
  go_wp2_with fail
  refine (then_any l m a e _ H1.out).mono ?_
  rintro e w1 ⟨rfl, k⟩
  have HB := Lib.hid (HB.out.trans (k.mono HB.out.size))
  have hL := MIn.later hL k
  have hM := MIn.later hM k
  have hN := MIn.later hN k
  clear k
  have LhL1 := MIn.lt hL
  obtain ⟨fhL1_0, fhL1_1, fhL1_2, fhL1_3, fhL1_4, fhL1_5, fhL1_6, fhL1_7, fhL1_8, fhL1_9, fhL1_10, fhL1_11⟩ := id hL
  have LhM1 := MIn.lt hM
  obtain ⟨fhM1_0, fhM1_1, fhM1_2, fhM1_3, fhM1_4, fhM1_5, fhM1_6, fhM1_7, fhM1_8, fhM1_9, fhM1_10, fhM1_11⟩ := id hM
  have LhN1 := MIn.lt hN
  obtain ⟨fhN1_0, fhN1_1, fhN1_2, fhN1_3, fhN1_4, fhN1_5, fhN1_6, fhN1_7, fhN1_8, fhN1_9, fhN1_10, fhN1_11⟩ := id hN
  have hL := MIn.old hL (.cells #[.int .i64 a.a.m, .int .i64 a.a.s, .int .i64 a.b.m, .int .i64 a.b.s, .int .i64 a.c.m, .int .i64 a.c.s, .int .i64 a.d.m, .int .i64 a.d.s, .int .i64 a.e.m, .int .i64 a.e.s, .int .i64 a.f.m, .int .i64 a.f.s] 25)
  have hM := MIn.old hM (.cells #[.int .i64 a.a.m, .int .i64 a.a.s, .int .i64 a.b.m, .int .i64 a.b.s, .int .i64 a.c.m, .int .i64 a.c.s, .int .i64 a.d.m, .int .i64 a.d.s, .int .i64 a.e.m, .int .i64 a.e.s, .int .i64 a.f.m, .int .i64 a.f.s] 25)
  have hN := MIn.old hN (.cells #[.int .i64 a.a.m, .int .i64 a.a.s, .int .i64 a.b.m, .int .i64 a.b.s, .int .i64 a.c.m, .int .i64 a.c.s, .int .i64 a.d.m, .int .i64 a.d.s, .int .i64 a.e.m, .int .i64 a.e.s, .int .i64 a.f.m, .int .i64 a.f.s] 25)
  have hA := MIn.made w1 25 a
  have HB := Lib.hid (HB.out.alloc HB.out.size (.cells #[.int .i64 a.a.m, .int .i64 a.a.s, .int .i64 a.b.m, .int .i64 a.b.s, .int .i64 a.c.m, .int .i64 a.c.s, .int .i64 a.d.m, .int .i64 a.d.s, .int .i64 a.e.m, .int .i64 a.e.s, .int .i64 a.f.m, .int .i64 a.f.s] 25))
  go_wp2_with fail
  refine (then_any a n b f _ H2.out).mono ?_
  rintro e w2 ⟨rfl, k⟩
  have HB := Lib.hid (HB.out.trans (k.mono HB.out.size))
  have hL := MIn.later hL k
  have hM := MIn.later hM k
  have hN := MIn.later hN k
  have hA := MIn.later hA k
  clear LhL1 fhL1_0 fhL1_1 fhL1_2 fhL1_3 fhL1_4 fhL1_5 fhL1_6 fhL1_7 fhL1_8 fhL1_9 fhL1_10 fhL1_11 LhM1 fhM1_0 fhM1_1 fhM1_2 fhM1_3 fhM1_4 fhM1_5 fhM1_6 fhM1_7 fhM1_8 fhM1_9 fhM1_10 fhM1_11 LhN1 fhN1_0 fhN1_1 fhN1_2 fhN1_3 fhN1_4 fhN1_5 fhN1_6 fhN1_7 fhN1_8 fhN1_9 fhN1_10 fhN1_11
  clear k
  have LhL2 := MIn.lt hL
  obtain ⟨fhL2_0, fhL2_1, fhL2_2, fhL2_3, fhL2_4, fhL2_5, fhL2_6, fhL2_7, fhL2_8, fhL2_9, fhL2_10, fhL2_11⟩ := id hL
  have LhM2 := MIn.lt hM
  obtain ⟨fhM2_0, fhM2_1, fhM2_2, fhM2_3, fhM2_4, fhM2_5, fhM2_6, fhM2_7, fhM2_8, fhM2_9, fhM2_10, fhM2_11⟩ := id hM
  have LhN2 := MIn.lt hN
  obtain ⟨fhN2_0, fhN2_1, fhN2_2, fhN2_3, fhN2_4, fhN2_5, fhN2_6, fhN2_7, fhN2_8, fhN2_9, fhN2_10, fhN2_11⟩ := id hN
  have LhA2 := MIn.lt hA
  obtain ⟨fhA2_0, fhA2_1, fhA2_2, fhA2_3, fhA2_4, fhA2_5, fhA2_6, fhA2_7, fhA2_8, fhA2_9, fhA2_10, fhA2_11⟩ := id hA
  have hL := MIn.old hL (.cells #[.int .i64 b.a.m, .int .i64 b.a.s, .int .i64 b.b.m, .int .i64 b.b.s, .int .i64 b.c.m, .int .i64 b.c.s, .int .i64 b.d.m, .int .i64 b.d.s, .int .i64 b.e.m, .int .i64 b.e.s, .int .i64 b.f.m, .int .i64 b.f.s] 25)
  have hM := MIn.old hM (.cells #[.int .i64 b.a.m, .int .i64 b.a.s, .int .i64 b.b.m, .int .i64 b.b.s, .int .i64 b.c.m, .int .i64 b.c.s, .int .i64 b.d.m, .int .i64 b.d.s, .int .i64 b.e.m, .int .i64 b.e.s, .int .i64 b.f.m, .int .i64 b.f.s] 25)
  have hN := MIn.old hN (.cells #[.int .i64 b.a.m, .int .i64 b.a.s, .int .i64 b.b.m, .int .i64 b.b.s, .int .i64 b.c.m, .int .i64 b.c.s, .int .i64 b.d.m, .int .i64 b.d.s, .int .i64 b.e.m, .int .i64 b.e.s, .int .i64 b.f.m, .int .i64 b.f.s] 25)
  have hA := MIn.old hA (.cells #[.int .i64 b.a.m, .int .i64 b.a.s, .int .i64 b.b.m, .int .i64 b.b.s, .int .i64 b.c.m, .int .i64 b.c.s, .int .i64 b.d.m, .int .i64 b.d.s, .int .i64 b.e.m, .int .i64 b.e.s, .int .i64 b.f.m, .int .i64 b.f.s] 25)
  have hB := MIn.made w2 25 b
  have HB := Lib.hid (HB.out.alloc HB.out.size (.cells #[.int .i64 b.a.m, .int .i64 b.a.s, .int .i64 b.b.m, .int .i64 b.b.s, .int .i64 b.c.m, .int .i64 b.c.s, .int .i64 b.d.m, .int .i64 b.d.s, .int .i64 b.e.m, .int .i64 b.e.s, .int .i64 b.f.m, .int .i64 b.f.s] 25))
  go_wp2_with fail
  refine (then_any m n c g _ H3.out).mono ?_
  rintro e w3 ⟨rfl, k⟩
  have HB := Lib.hid (HB.out.trans (k.mono HB.out.size))
  have hL := MIn.later hL k
  have hM := MIn.later hM k
  have hN := MIn.later hN k
  have hA := MIn.later hA k
  have hB := MIn.later hB k
  clear LhL2 fhL2_0 fhL2_1 fhL2_2 fhL2_3 fhL2_4 fhL2_5 fhL2_6 fhL2_7 fhL2_8 fhL2_9 fhL2_10 fhL2_11 LhM2 fhM2_0 fhM2_1 fhM2_2 fhM2_3 fhM2_4 fhM2_5 fhM2_6 fhM2_7 fhM2_8 fhM2_9 fhM2_10 fhM2_11 LhN2 fhN2_0 fhN2_1 fhN2_2 fhN2_3 fhN2_4 fhN2_5 fhN2_6 fhN2_7 fhN2_8 fhN2_9 fhN2_10 fhN2_11 LhA2 fhA2_0 fhA2_1 fhA2_2 fhA2_3 fhA2_4 fhA2_5 fhA2_6 fhA2_7 fhA2_8 fhA2_9 fhA2_10 fhA2_11
  clear k
  have LhL3 := MIn.lt hL
  obtain ⟨fhL3_0, fhL3_1, fhL3_2, fhL3_3, fhL3_4, fhL3_5, fhL3_6, fhL3_7, fhL3_8, fhL3_9, fhL3_10, fhL3_11⟩ := id hL
  have LhM3 := MIn.lt hM
  obtain ⟨fhM3_0, fhM3_1, fhM3_2, fhM3_3, fhM3_4, fhM3_5, fhM3_6, fhM3_7, fhM3_8, fhM3_9, fhM3_10, fhM3_11⟩ := id hM
  have LhN3 := MIn.lt hN
  obtain ⟨fhN3_0, fhN3_1, fhN3_2, fhN3_3, fhN3_4, fhN3_5, fhN3_6, fhN3_7, fhN3_8, fhN3_9, fhN3_10, fhN3_11⟩ := id hN
  have LhA3 := MIn.lt hA
  obtain ⟨fhA3_0, fhA3_1, fhA3_2, fhA3_3, fhA3_4, fhA3_5, fhA3_6, fhA3_7, fhA3_8, fhA3_9, fhA3_10, fhA3_11⟩ := id hA
  have LhB3 := MIn.lt hB
  obtain ⟨fhB3_0, fhB3_1, fhB3_2, fhB3_3, fhB3_4, fhB3_5, fhB3_6, fhB3_7, fhB3_8, fhB3_9, fhB3_10, fhB3_11⟩ := id hB
  have hL := MIn.old hL (.cells #[.int .i64 c.a.m, .int .i64 c.a.s, .int .i64 c.b.m, .int .i64 c.b.s, .int .i64 c.c.m, .int .i64 c.c.s, .int .i64 c.d.m, .int .i64 c.d.s, .int .i64 c.e.m, .int .i64 c.e.s, .int .i64 c.f.m, .int .i64 c.f.s] 25)
  have hM := MIn.old hM (.cells #[.int .i64 c.a.m, .int .i64 c.a.s, .int .i64 c.b.m, .int .i64 c.b.s, .int .i64 c.c.m, .int .i64 c.c.s, .int .i64 c.d.m, .int .i64 c.d.s, .int .i64 c.e.m, .int .i64 c.e.s, .int .i64 c.f.m, .int .i64 c.f.s] 25)
  have hN := MIn.old hN (.cells #[.int .i64 c.a.m, .int .i64 c.a.s, .int .i64 c.b.m, .int .i64 c.b.s, .int .i64 c.c.m, .int .i64 c.c.s, .int .i64 c.d.m, .int .i64 c.d.s, .int .i64 c.e.m, .int .i64 c.e.s, .int .i64 c.f.m, .int .i64 c.f.s] 25)
  have hA := MIn.old hA (.cells #[.int .i64 c.a.m, .int .i64 c.a.s, .int .i64 c.b.m, .int .i64 c.b.s, .int .i64 c.c.m, .int .i64 c.c.s, .int .i64 c.d.m, .int .i64 c.d.s, .int .i64 c.e.m, .int .i64 c.e.s, .int .i64 c.f.m, .int .i64 c.f.s] 25)
  have hB := MIn.old hB (.cells #[.int .i64 c.a.m, .int .i64 c.a.s, .int .i64 c.b.m, .int .i64 c.b.s, .int .i64 c.c.m, .int .i64 c.c.s, .int .i64 c.d.m, .int .i64 c.d.s, .int .i64 c.e.m, .int .i64 c.e.s, .int .i64 c.f.m, .int .i64 c.f.s] 25)
  have hC := MIn.made w3 25 c
  have HB := Lib.hid (HB.out.alloc HB.out.size (.cells #[.int .i64 c.a.m, .int .i64 c.a.s, .int .i64 c.b.m, .int .i64 c.b.s, .int .i64 c.c.m, .int .i64 c.c.s, .int .i64 c.d.m, .int .i64 c.d.s, .int .i64 c.e.m, .int .i64 c.e.s, .int .i64 c.f.m, .int .i64 c.f.s] 25))
  go_wp2_with fail
  refine (then_any l c d h _ H4.out).mono ?_
  rintro e w4 ⟨rfl, k⟩
  have HB := Lib.hid (HB.out.trans (k.mono HB.out.size))
  have hL := MIn.later hL k
  have hM := MIn.later hM k
  have hN := MIn.later hN k
  have hA := MIn.later hA k
  have hB := MIn.later hB k
  have hC := MIn.later hC k
  clear LhL3 fhL3_0 fhL3_1 fhL3_2 fhL3_3 fhL3_4 fhL3_5 fhL3_6 fhL3_7 fhL3_8 fhL3_9 fhL3_10 fhL3_11 LhM3 fhM3_0 fhM3_1 fhM3_2 fhM3_3 fhM3_4 fhM3_5 fhM3_6 fhM3_7 fhM3_8 fhM3_9 fhM3_10 fhM3_11 LhN3 fhN3_0 fhN3_1 fhN3_2 fhN3_3 fhN3_4 fhN3_5 fhN3_6 fhN3_7 fhN3_8 fhN3_9 fhN3_10 fhN3_11 LhA3 fhA3_0 fhA3_1 fhA3_2 fhA3_3 fhA3_4 fhA3_5 fhA3_6 fhA3_7 fhA3_8 fhA3_9 fhA3_10 fhA3_11 LhB3 fhB3_0 fhB3_1 fhB3_2 fhB3_3 fhB3_4 fhB3_5 fhB3_6 fhB3_7 fhB3_8 fhB3_9 fhB3_10 fhB3_11
  clear k
  have LhL4 := MIn.lt hL
  obtain ⟨fhL4_0, fhL4_1, fhL4_2, fhL4_3, fhL4_4, fhL4_5, fhL4_6, fhL4_7, fhL4_8, fhL4_9, fhL4_10, fhL4_11⟩ := id hL
  have LhM4 := MIn.lt hM
  obtain ⟨fhM4_0, fhM4_1, fhM4_2, fhM4_3, fhM4_4, fhM4_5, fhM4_6, fhM4_7, fhM4_8, fhM4_9, fhM4_10, fhM4_11⟩ := id hM
  have LhN4 := MIn.lt hN
  obtain ⟨fhN4_0, fhN4_1, fhN4_2, fhN4_3, fhN4_4, fhN4_5, fhN4_6, fhN4_7, fhN4_8, fhN4_9, fhN4_10, fhN4_11⟩ := id hN
  have LhA4 := MIn.lt hA
  obtain ⟨fhA4_0, fhA4_1, fhA4_2, fhA4_3, fhA4_4, fhA4_5, fhA4_6, fhA4_7, fhA4_8, fhA4_9, fhA4_10, fhA4_11⟩ := id hA
  have LhB4 := MIn.lt hB
  obtain ⟨fhB4_0, fhB4_1, fhB4_2, fhB4_3, fhB4_4, fhB4_5, fhB4_6, fhB4_7, fhB4_8, fhB4_9, fhB4_10, fhB4_11⟩ := id hB
  have LhC4 := MIn.lt hC
  obtain ⟨fhC4_0, fhC4_1, fhC4_2, fhC4_3, fhC4_4, fhC4_5, fhC4_6, fhC4_7, fhC4_8, fhC4_9, fhC4_10, fhC4_11⟩ := id hC
  have hL := MIn.old hL (.cells #[.int .i64 d.a.m, .int .i64 d.a.s, .int .i64 d.b.m, .int .i64 d.b.s, .int .i64 d.c.m, .int .i64 d.c.s, .int .i64 d.d.m, .int .i64 d.d.s, .int .i64 d.e.m, .int .i64 d.e.s, .int .i64 d.f.m, .int .i64 d.f.s] 25)
  have hM := MIn.old hM (.cells #[.int .i64 d.a.m, .int .i64 d.a.s, .int .i64 d.b.m, .int .i64 d.b.s, .int .i64 d.c.m, .int .i64 d.c.s, .int .i64 d.d.m, .int .i64 d.d.s, .int .i64 d.e.m, .int .i64 d.e.s, .int .i64 d.f.m, .int .i64 d.f.s] 25)
  have hN := MIn.old hN (.cells #[.int .i64 d.a.m, .int .i64 d.a.s, .int .i64 d.b.m, .int .i64 d.b.s, .int .i64 d.c.m, .int .i64 d.c.s, .int .i64 d.d.m, .int .i64 d.d.s, .int .i64 d.e.m, .int .i64 d.e.s, .int .i64 d.f.m, .int .i64 d.f.s] 25)
  have hA := MIn.old hA (.cells #[.int .i64 d.a.m, .int .i64 d.a.s, .int .i64 d.b.m, .int .i64 d.b.s, .int .i64 d.c.m, .int .i64 d.c.s, .int .i64 d.d.m, .int .i64 d.d.s, .int .i64 d.e.m, .int .i64 d.e.s, .int .i64 d.f.m, .int .i64 d.f.s] 25)
  have hB := MIn.old hB (.cells #[.int .i64 d.a.m, .int .i64 d.a.s, .int .i64 d.b.m, .int .i64 d.b.s, .int .i64 d.c.m, .int .i64 d.c.s, .int .i64 d.d.m, .int .i64 d.d.s, .int .i64 d.e.m, .int .i64 d.e.s, .int .i64 d.f.m, .int .i64 d.f.s] 25)
  have hC := MIn.old hC (.cells #[.int .i64 d.a.m, .int .i64 d.a.s, .int .i64 d.b.m, .int .i64 d.b.s, .int .i64 d.c.m, .int .i64 d.c.s, .int .i64 d.d.m, .int .i64 d.d.s, .int .i64 d.e.m, .int .i64 d.e.s, .int .i64 d.f.m, .int .i64 d.f.s] 25)
  have hD := MIn.made w4 25 d
  have HB := Lib.hid (HB.out.alloc HB.out.size (.cells #[.int .i64 d.a.m, .int .i64 d.a.s, .int .i64 d.b.m, .int .i64 d.b.s, .int .i64 d.c.m, .int .i64 d.c.s, .int .i64 d.d.m, .int .i64 d.d.s, .int .i64 d.e.m, .int .i64 d.e.s, .int .i64 d.f.m, .int .i64 d.f.s] 25))
  go_wp2_with fail
  refine (mawake_any _).mono ?_
  rintro e w5 ⟨rfl, k⟩
  have HB := Lib.hid (HB.out.trans (k.mono HB.out.size))
  have hL := MIn.later hL k
  have hM := MIn.later hM k
  have hN := MIn.later hN k
  have hA := MIn.later hA k
  have hB := MIn.later hB k
  have hC := MIn.later hC k
  have hD := MIn.later hD k
  clear LhL4 fhL4_0 fhL4_1 fhL4_2 fhL4_3 fhL4_4 fhL4_5 fhL4_6 fhL4_7 fhL4_8 fhL4_9 fhL4_10 fhL4_11 LhM4 fhM4_0 fhM4_1 fhM4_2 fhM4_3 fhM4_4 fhM4_5 fhM4_6 fhM4_7 fhM4_8 fhM4_9 fhM4_10 fhM4_11 LhN4 fhN4_0 fhN4_1 fhN4_2 fhN4_3 fhN4_4 fhN4_5 fhN4_6 fhN4_7 fhN4_8 fhN4_9 fhN4_10 fhN4_11 LhA4 fhA4_0 fhA4_1 fhA4_2 fhA4_3 fhA4_4 fhA4_5 fhA4_6 fhA4_7 fhA4_8 fhA4_9 fhA4_10 fhA4_11 LhB4 fhB4_0 fhB4_1 fhB4_2 fhB4_3 fhB4_4 fhB4_5 fhB4_6 fhB4_7 fhB4_8 fhB4_9 fhB4_10 fhB4_11 LhC4 fhC4_0 fhC4_1 fhC4_2 fhC4_3 fhC4_4 fhC4_5 fhC4_6 fhC4_7 fhC4_8 fhC4_9 fhC4_10 fhC4_11
  clear k
  have LhL5 := MIn.lt hL
  obtain ⟨fhL5_0, fhL5_1, fhL5_2, fhL5_3, fhL5_4, fhL5_5, fhL5_6, fhL5_7, fhL5_8, fhL5_9, fhL5_10, fhL5_11⟩ := id hL
  have LhM5 := MIn.lt hM
  obtain ⟨fhM5_0, fhM5_1, fhM5_2, fhM5_3, fhM5_4, fhM5_5, fhM5_6, fhM5_7, fhM5_8, fhM5_9, fhM5_10, fhM5_11⟩ := id hM
  have LhN5 := MIn.lt hN
  obtain ⟨fhN5_0, fhN5_1, fhN5_2, fhN5_3, fhN5_4, fhN5_5, fhN5_6, fhN5_7, fhN5_8, fhN5_9, fhN5_10, fhN5_11⟩ := id hN
  have LhA5 := MIn.lt hA
  obtain ⟨fhA5_0, fhA5_1, fhA5_2, fhA5_3, fhA5_4, fhA5_5, fhA5_6, fhA5_7, fhA5_8, fhA5_9, fhA5_10, fhA5_11⟩ := id hA
  have LhB5 := MIn.lt hB
  obtain ⟨fhB5_0, fhB5_1, fhB5_2, fhB5_3, fhB5_4, fhB5_5, fhB5_6, fhB5_7, fhB5_8, fhB5_9, fhB5_10, fhB5_11⟩ := id hB
  have LhC5 := MIn.lt hC
  obtain ⟨fhC5_0, fhC5_1, fhC5_2, fhC5_3, fhC5_4, fhC5_5, fhC5_6, fhC5_7, fhC5_8, fhC5_9, fhC5_10, fhC5_11⟩ := id hC
  have LhD5 := MIn.lt hD
  obtain ⟨fhD5_0, fhD5_1, fhD5_2, fhD5_3, fhD5_4, fhD5_5, fhD5_6, fhD5_7, fhD5_8, fhD5_9, fhD5_10, fhD5_11⟩ := id hD
  have HZ := Lib.hid HB.out
  have HH := Lib.hid (Held.of H1.out H2.out H3.out H4.out)
  clear H1 H2 H3 H4
  rcases HH.out with (rfl | rfl) | ⟨rfl, (rfl | rfl)⟩ | ⟨rfl, rfl, (rfl | rfl)⟩ | ⟨rfl, rfl, rfl, (rfl | rfl)⟩ | ⟨rfl, rfl, rfl, rfl, rfl⟩
  all_goals
    clear HH
    go_wp2
    go_ret
    exact ⟨rfl, HZ.out⟩

theorem holds_any (l m n : MV) (w : World) :
    Calls Try.prog 5 #[l.val, m.val, n.val] w fun e w' => e = .returned (.bool true) ∧ Below w.heap.size w w' := by
  obtain ⟨a, e, h1⟩ := ThenIs.total l m
  obtain ⟨b, f, h2⟩ := ThenIs.total a n
  obtain ⟨c, g, h3⟩ := ThenIs.total m n
  obtain ⟨d, h, h4⟩ := ThenIs.total l c
  exact holds_all l m n a b c d e f g h w h1 h2 h3 h4
end Go.Proofs.Ytcckkmoaneomoaa
