/- The reference's One and Step: the walks. -/
import Derived.Test.YtpdjooeogpidhaaRefMap
namespace Go.Proofs.Ytpdjooeogpidhaa
open Go.RowKit Dec

theorem refone_any (w : World) : Calls Try.prog 15 #[] w fun e w' => e = .returned (.agg #[.int .i64 MV.one.a.m, .int .i64 MV.one.a.s, .int .i64 MV.one.b.m, .int .i64 MV.one.b.s, .int .i64 MV.one.c.m, .int .i64 MV.one.c.s, .int .i64 MV.one.d.m, .int .i64 MV.one.d.s, .int .i64 MV.one.e.m, .int .i64 MV.one.e.s, .int .i64 MV.one.f.m, .int .i64 MV.one.f.s]) ∧ Below w.heap.size w w' := by
  go_enter Try.func15, Try.ntmps15
  go_wp2
  exact bodyPost_ret (v := .agg #[.int .i64 MV.one.a.m, .int .i64 MV.one.a.s, .int .i64 MV.one.b.m, .int .i64 MV.one.b.s, .int .i64 MV.one.c.m, .int .i64 MV.one.c.s, .int .i64 MV.one.d.m, .int .i64 MV.one.d.s, .int .i64 MV.one.e.m, .int .i64 MV.one.e.s, .int .i64 MV.one.f.m, .int .i64 MV.one.f.s]) (by simp [results, Try.results15, go_sem, MV.one, DV.one, DV.zero]) rfl ⟨rfl, (Below.refl _ _).alloc (Nat.le_refl _) _⟩
/-- Two numbers and the answer's slot. -/
structure Sp (w W : World) (x y : DV) : Prop where
  below : Below w.heap.size w W
  x : Whole W w.heap.size 23 #[.int .i64 x.m, .int .i64 x.s]
  y : Whole W (w.heap.size + 1) 23 #[.int .i64 y.m, .int .i64 y.s]
  r : Whole W (w.heap.size + 1 + 1) 25 #[.int .i64 0, .int .i64 0, .int .i64 0, .int .i64 0, .int .i64 0, .int .i64 0, .int .i64 0, .int .i64 0, .int .i64 0, .int .i64 0, .int .i64 0, .int .i64 0]
theorem Sp.start (w : World) (x y : DV) : Sp w (((w.alloc (.cells #[.int .i64 x.m, .int .i64 x.s] 23)).alloc (.cells #[.int .i64 y.m, .int .i64 y.s] 23)).alloc (.cells #[.int .i64 0, .int .i64 0, .int .i64 0, .int .i64 0, .int .i64 0, .int .i64 0, .int .i64 0, .int .i64 0, .int .i64 0, .int .i64 0, .int .i64 0, .int .i64 0] 25)) x y := by
  have h1 := (Below.refl w.heap.size w).alloc (Nat.le_refl _) (.cells #[.int .i64 x.m, .int .i64 x.s] 23)
  have h2 := h1.alloc h1.size (.cells #[.int .i64 y.m, .int .i64 y.s] 23)
  have h3 := h2.alloc h2.size (.cells #[.int .i64 0, .int .i64 0, .int .i64 0, .int .i64 0, .int .i64 0, .int .i64 0, .int .i64 0, .int .i64 0, .int .i64 0, .int .i64 0, .int .i64 0, .int .i64 0] 25)
  have k1 := ((Whole.made w 23 #[.int .i64 x.m, .int .i64 x.s]).old (.cells #[.int .i64 y.m, .int .i64 y.s] 23)).old (.cells #[.int .i64 0, .int .i64 0, .int .i64 0, .int .i64 0, .int .i64 0, .int .i64 0, .int .i64 0, .int .i64 0, .int .i64 0, .int .i64 0, .int .i64 0, .int .i64 0] 25)
  have k2 := (Whole.made (w.alloc (.cells #[.int .i64 x.m, .int .i64 x.s] 23)) 23 #[.int .i64 y.m, .int .i64 y.s]).old (.cells #[.int .i64 0, .int .i64 0, .int .i64 0, .int .i64 0, .int .i64 0, .int .i64 0, .int .i64 0, .int .i64 0, .int .i64 0, .int .i64 0, .int .i64 0, .int .i64 0] 25)
  have k3 := Whole.made ((w.alloc (.cells #[.int .i64 x.m, .int .i64 x.s] 23)).alloc (.cells #[.int .i64 y.m, .int .i64 y.s] 23)) 25 #[.int .i64 0, .int .i64 0, .int .i64 0, .int .i64 0, .int .i64 0, .int .i64 0, .int .i64 0, .int .i64 0, .int .i64 0, .int .i64 0, .int .i64 0, .int .i64 0]
  exact ⟨h3, k1, by simpa using k2, by simpa using k3⟩
theorem Sp.here {w W W' : World} {x y : DV} (h : Sp w W x y) (hb : Below W.heap.size W W') : Sp w W' x y :=
  ⟨h.below.trans (hb.mono h.below.size), h.x.here hb, h.y.here hb, h.r.here hb⟩
theorem Sp.put {w W : World} {x y : DV} (h : Sp w W x y) : Below w.heap.size w (((((((((((((W.setCell ⟨w.heap.size + 1 + 1, 0, none⟩ (.int .i64 0)).setCell ⟨w.heap.size + 1 + 1, 1, none⟩ (.int .i64 0)).setCell ⟨w.heap.size + 1 + 1, 2, none⟩ (.int .i64 0)).setCell ⟨w.heap.size + 1 + 1, 3, none⟩ (.int .i64 0)).setCell ⟨w.heap.size + 1 + 1, 4, none⟩ (.int .i64 0)).setCell ⟨w.heap.size + 1 + 1, 5, none⟩ (.int .i64 0)).setCell ⟨w.heap.size + 1 + 1, 6, none⟩ (.int .i64 0)).setCell ⟨w.heap.size + 1 + 1, 7, none⟩ (.int .i64 0)).setCell ⟨w.heap.size + 1 + 1, 8, none⟩ (.int .i64 0)).setCell ⟨w.heap.size + 1 + 1, 9, none⟩ (.int .i64 0)).setCell ⟨w.heap.size + 1 + 1, 10, none⟩ (.int .i64 0)).setCell ⟨w.heap.size + 1 + 1, 11, none⟩ (.int .i64 0))) :=
  ((((((((((((h.below).setCell (p := ⟨w.heap.size + 1 + 1, 0, none⟩) (by simp; omega) (.int .i64 0)).setCell (p := ⟨w.heap.size + 1 + 1, 1, none⟩) (by simp; omega) (.int .i64 0)).setCell (p := ⟨w.heap.size + 1 + 1, 2, none⟩) (by simp; omega) (.int .i64 0)).setCell (p := ⟨w.heap.size + 1 + 1, 3, none⟩) (by simp; omega) (.int .i64 0)).setCell (p := ⟨w.heap.size + 1 + 1, 4, none⟩) (by simp; omega) (.int .i64 0)).setCell (p := ⟨w.heap.size + 1 + 1, 5, none⟩) (by simp; omega) (.int .i64 0)).setCell (p := ⟨w.heap.size + 1 + 1, 6, none⟩) (by simp; omega) (.int .i64 0)).setCell (p := ⟨w.heap.size + 1 + 1, 7, none⟩) (by simp; omega) (.int .i64 0)).setCell (p := ⟨w.heap.size + 1 + 1, 8, none⟩) (by simp; omega) (.int .i64 0)).setCell (p := ⟨w.heap.size + 1 + 1, 9, none⟩) (by simp; omega) (.int .i64 0)).setCell (p := ⟨w.heap.size + 1 + 1, 10, none⟩) (by simp; omega) (.int .i64 0)).setCell (p := ⟨w.heap.size + 1 + 1, 11, none⟩) (by simp; omega) (.int .i64 0)
set_option maxRecDepth 100000 in
set_option maxHeartbeats 4000000 in
theorem refstep_bad1 (x y : DV) (w : World) (h : ¬ x.Ok) :
    Calls Try.prog 10 #[.agg #[.int .i64 x.m, .int .i64 x.s], .agg #[.int .i64 y.m, .int .i64 y.s]] w fun e w' => e = .returned (.tuple #[.agg #[.int .i64 0, .int .i64 0, .int .i64 0, .int .i64 0, .int .i64 0, .int .i64 0, .int .i64 0, .int .i64 0, .int .i64 0, .int .i64 0, .int .i64 0, .int .i64 0], .int .i64 1]) ∧ Below w.heap.size w w' := by
  have G := Lib.hid h
  clear h
  have H := Lib.hid (Sp.start w x y)
  go_enter Try.func10, Try.ntmps10
  go_wp2_with fail
  refine (right_is x false (decide_eq_false G.out) _).mono ?_
  rintro e w1 ⟨rfl, kk⟩
  have H1 := H.out.here kk
  have r0 : w1.cell? ⟨w.heap.size + 1 + 1, 0, none⟩ = some (.int .i64 0) := H1.r.reads 0
  have r1 : w1.cell? ⟨w.heap.size + 1 + 1, 1, none⟩ = some (.int .i64 0) := H1.r.reads 1
  have r2 : w1.cell? ⟨w.heap.size + 1 + 1, 2, none⟩ = some (.int .i64 0) := H1.r.reads 2
  have r3 : w1.cell? ⟨w.heap.size + 1 + 1, 3, none⟩ = some (.int .i64 0) := H1.r.reads 3
  have r4 : w1.cell? ⟨w.heap.size + 1 + 1, 4, none⟩ = some (.int .i64 0) := H1.r.reads 4
  have r5 : w1.cell? ⟨w.heap.size + 1 + 1, 5, none⟩ = some (.int .i64 0) := H1.r.reads 5
  have r6 : w1.cell? ⟨w.heap.size + 1 + 1, 6, none⟩ = some (.int .i64 0) := H1.r.reads 6
  have r7 : w1.cell? ⟨w.heap.size + 1 + 1, 7, none⟩ = some (.int .i64 0) := H1.r.reads 7
  have r8 : w1.cell? ⟨w.heap.size + 1 + 1, 8, none⟩ = some (.int .i64 0) := H1.r.reads 8
  have r9 : w1.cell? ⟨w.heap.size + 1 + 1, 9, none⟩ = some (.int .i64 0) := H1.r.reads 9
  have r10 : w1.cell? ⟨w.heap.size + 1 + 1, 10, none⟩ = some (.int .i64 0) := H1.r.reads 10
  have r11 : w1.cell? ⟨w.heap.size + 1 + 1, 11, none⟩ = some (.int .i64 0) := H1.r.reads 11
  have z0 := H1.r.thawed 0
  have z1 := H1.r.thawed 1
  have z2 := H1.r.thawed 2
  have z3 := H1.r.thawed 3
  have z4 := H1.r.thawed 4
  have z5 := H1.r.thawed 5
  have z6 := H1.r.thawed 6
  have z7 := H1.r.thawed 7
  have z8 := H1.r.thawed 8
  have z9 := H1.r.thawed 9
  have z10 := H1.r.thawed 10
  have z11 := H1.r.thawed 11
  have lr := H1.r.lt
  have HF := Lib.hid H1.put
  clear H1 kk H
  go_wp2_with fail
  exact bodyPost_ret (v := .tuple #[.agg #[.int .i64 0, .int .i64 0, .int .i64 0, .int .i64 0, .int .i64 0, .int .i64 0, .int .i64 0, .int .i64 0, .int .i64 0, .int .i64 0, .int .i64 0, .int .i64 0], .int .i64 1]) (by simp [results, Try.results10, go_sem, r0, r1, r2, r3, r4, r5, r6, r7, r8, r9, r10, r11]) rfl ⟨rfl, HF.out⟩
set_option maxRecDepth 100000 in
set_option maxHeartbeats 4000000 in
theorem refstep_bad2 (x y : DV) (w : World) (h0 : x.Ok) (h : ¬ y.Ok) :
    Calls Try.prog 10 #[.agg #[.int .i64 x.m, .int .i64 x.s], .agg #[.int .i64 y.m, .int .i64 y.s]] w fun e w' => e = .returned (.tuple #[.agg #[.int .i64 0, .int .i64 0, .int .i64 0, .int .i64 0, .int .i64 0, .int .i64 0, .int .i64 0, .int .i64 0, .int .i64 0, .int .i64 0, .int .i64 0, .int .i64 0], .int .i64 1]) ∧ Below w.heap.size w w' := by
  have G0 := Lib.hid h0
  clear h0
  have G := Lib.hid h
  clear h
  have H := Lib.hid (Sp.start w x y)
  go_enter Try.func10, Try.ntmps10
  go_wp2_with fail
  refine (right_is x true (decide_eq_true G0.out) _).mono ?_
  rintro e w1 ⟨rfl, kk⟩
  have H := Lib.hid (H.out.here kk)
  clear kk
  have y0 : w1.cell? ⟨w.heap.size + 1, 0, none⟩ = some (.int .i64 y.m) := H.out.y.reads 0
  have y1 : w1.cell? ⟨w.heap.size + 1, 1, none⟩ = some (.int .i64 y.s) := H.out.y.reads 1
  have ly := H.out.y.lt
  go_wp2_with fail
  refine (right_is y false (decide_eq_false G.out) _).mono ?_
  rintro e w2 ⟨rfl, kk⟩
  have H2 := H.out.here kk
  have r0 : w2.cell? ⟨w.heap.size + 1 + 1, 0, none⟩ = some (.int .i64 0) := H2.r.reads 0
  have r1 : w2.cell? ⟨w.heap.size + 1 + 1, 1, none⟩ = some (.int .i64 0) := H2.r.reads 1
  have r2 : w2.cell? ⟨w.heap.size + 1 + 1, 2, none⟩ = some (.int .i64 0) := H2.r.reads 2
  have r3 : w2.cell? ⟨w.heap.size + 1 + 1, 3, none⟩ = some (.int .i64 0) := H2.r.reads 3
  have r4 : w2.cell? ⟨w.heap.size + 1 + 1, 4, none⟩ = some (.int .i64 0) := H2.r.reads 4
  have r5 : w2.cell? ⟨w.heap.size + 1 + 1, 5, none⟩ = some (.int .i64 0) := H2.r.reads 5
  have r6 : w2.cell? ⟨w.heap.size + 1 + 1, 6, none⟩ = some (.int .i64 0) := H2.r.reads 6
  have r7 : w2.cell? ⟨w.heap.size + 1 + 1, 7, none⟩ = some (.int .i64 0) := H2.r.reads 7
  have r8 : w2.cell? ⟨w.heap.size + 1 + 1, 8, none⟩ = some (.int .i64 0) := H2.r.reads 8
  have r9 : w2.cell? ⟨w.heap.size + 1 + 1, 9, none⟩ = some (.int .i64 0) := H2.r.reads 9
  have r10 : w2.cell? ⟨w.heap.size + 1 + 1, 10, none⟩ = some (.int .i64 0) := H2.r.reads 10
  have r11 : w2.cell? ⟨w.heap.size + 1 + 1, 11, none⟩ = some (.int .i64 0) := H2.r.reads 11
  have z0 := H2.r.thawed 0
  have z1 := H2.r.thawed 1
  have z2 := H2.r.thawed 2
  have z3 := H2.r.thawed 3
  have z4 := H2.r.thawed 4
  have z5 := H2.r.thawed 5
  have z6 := H2.r.thawed 6
  have z7 := H2.r.thawed 7
  have z8 := H2.r.thawed 8
  have z9 := H2.r.thawed 9
  have z10 := H2.r.thawed 10
  have z11 := H2.r.thawed 11
  have lr := H2.r.lt
  have HF := Lib.hid H2.put
  clear H2 kk H y0 y1 ly
  go_wp2_with fail
  exact bodyPost_ret (v := .tuple #[.agg #[.int .i64 0, .int .i64 0, .int .i64 0, .int .i64 0, .int .i64 0, .int .i64 0, .int .i64 0, .int .i64 0, .int .i64 0, .int .i64 0, .int .i64 0, .int .i64 0], .int .i64 1]) (by simp [results, Try.results10, go_sem, r0, r1, r2, r3, r4, r5, r6, r7, r8, r9, r10, r11]) rfl ⟨rfl, HF.out⟩
end Go.Proofs.Ytpdjooeogpidhaa
