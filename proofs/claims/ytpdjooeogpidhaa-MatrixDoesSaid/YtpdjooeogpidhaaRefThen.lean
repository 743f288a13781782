/- The reference's Then where it is refused: the walk. -/
import Derived.Test.YtpdjooeogpidhaaRefStep
namespace Go.Proofs.Ytpdjooeogpidhaa
open Go.RowKit Dec

/-- Two matrices and the answer's slot. -/
structure Tp (w W : World) (m n : MV) : Prop where
  below : Below w.heap.size w W
  m : Whole W w.heap.size 25 #[.int .i64 m.a.m, .int .i64 m.a.s, .int .i64 m.b.m, .int .i64 m.b.s, .int .i64 m.c.m, .int .i64 m.c.s, .int .i64 m.d.m, .int .i64 m.d.s, .int .i64 m.e.m, .int .i64 m.e.s, .int .i64 m.f.m, .int .i64 m.f.s]
  n : Whole W (w.heap.size + 1) 25 #[.int .i64 n.a.m, .int .i64 n.a.s, .int .i64 n.b.m, .int .i64 n.b.s, .int .i64 n.c.m, .int .i64 n.c.s, .int .i64 n.d.m, .int .i64 n.d.s, .int .i64 n.e.m, .int .i64 n.e.s, .int .i64 n.f.m, .int .i64 n.f.s]
  r : Whole W (w.heap.size + 1 + 1) 25 #[.int .i64 0, .int .i64 0, .int .i64 0, .int .i64 0, .int .i64 0, .int .i64 0, .int .i64 0, .int .i64 0, .int .i64 0, .int .i64 0, .int .i64 0, .int .i64 0]
theorem Tp.start (w : World) (m n : MV) : Tp w (((w.alloc (.cells #[.int .i64 m.a.m, .int .i64 m.a.s, .int .i64 m.b.m, .int .i64 m.b.s, .int .i64 m.c.m, .int .i64 m.c.s, .int .i64 m.d.m, .int .i64 m.d.s, .int .i64 m.e.m, .int .i64 m.e.s, .int .i64 m.f.m, .int .i64 m.f.s] 25)).alloc (.cells #[.int .i64 n.a.m, .int .i64 n.a.s, .int .i64 n.b.m, .int .i64 n.b.s, .int .i64 n.c.m, .int .i64 n.c.s, .int .i64 n.d.m, .int .i64 n.d.s, .int .i64 n.e.m, .int .i64 n.e.s, .int .i64 n.f.m, .int .i64 n.f.s] 25)).alloc (.cells #[.int .i64 0, .int .i64 0, .int .i64 0, .int .i64 0, .int .i64 0, .int .i64 0, .int .i64 0, .int .i64 0, .int .i64 0, .int .i64 0, .int .i64 0, .int .i64 0] 25)) m n := by
  have h1 := (Below.refl w.heap.size w).alloc (Nat.le_refl _) (.cells #[.int .i64 m.a.m, .int .i64 m.a.s, .int .i64 m.b.m, .int .i64 m.b.s, .int .i64 m.c.m, .int .i64 m.c.s, .int .i64 m.d.m, .int .i64 m.d.s, .int .i64 m.e.m, .int .i64 m.e.s, .int .i64 m.f.m, .int .i64 m.f.s] 25)
  have h2 := h1.alloc h1.size (.cells #[.int .i64 n.a.m, .int .i64 n.a.s, .int .i64 n.b.m, .int .i64 n.b.s, .int .i64 n.c.m, .int .i64 n.c.s, .int .i64 n.d.m, .int .i64 n.d.s, .int .i64 n.e.m, .int .i64 n.e.s, .int .i64 n.f.m, .int .i64 n.f.s] 25)
  have h3 := h2.alloc h2.size (.cells #[.int .i64 0, .int .i64 0, .int .i64 0, .int .i64 0, .int .i64 0, .int .i64 0, .int .i64 0, .int .i64 0, .int .i64 0, .int .i64 0, .int .i64 0, .int .i64 0] 25)
  have k1 := ((Whole.made w 25 #[.int .i64 m.a.m, .int .i64 m.a.s, .int .i64 m.b.m, .int .i64 m.b.s, .int .i64 m.c.m, .int .i64 m.c.s, .int .i64 m.d.m, .int .i64 m.d.s, .int .i64 m.e.m, .int .i64 m.e.s, .int .i64 m.f.m, .int .i64 m.f.s]).old (.cells #[.int .i64 n.a.m, .int .i64 n.a.s, .int .i64 n.b.m, .int .i64 n.b.s, .int .i64 n.c.m, .int .i64 n.c.s, .int .i64 n.d.m, .int .i64 n.d.s, .int .i64 n.e.m, .int .i64 n.e.s, .int .i64 n.f.m, .int .i64 n.f.s] 25)).old (.cells #[.int .i64 0, .int .i64 0, .int .i64 0, .int .i64 0, .int .i64 0, .int .i64 0, .int .i64 0, .int .i64 0, .int .i64 0, .int .i64 0, .int .i64 0, .int .i64 0] 25)
  have k2 := (Whole.made (w.alloc (.cells #[.int .i64 m.a.m, .int .i64 m.a.s, .int .i64 m.b.m, .int .i64 m.b.s, .int .i64 m.c.m, .int .i64 m.c.s, .int .i64 m.d.m, .int .i64 m.d.s, .int .i64 m.e.m, .int .i64 m.e.s, .int .i64 m.f.m, .int .i64 m.f.s] 25)) 25 #[.int .i64 n.a.m, .int .i64 n.a.s, .int .i64 n.b.m, .int .i64 n.b.s, .int .i64 n.c.m, .int .i64 n.c.s, .int .i64 n.d.m, .int .i64 n.d.s, .int .i64 n.e.m, .int .i64 n.e.s, .int .i64 n.f.m, .int .i64 n.f.s]).old (.cells #[.int .i64 0, .int .i64 0, .int .i64 0, .int .i64 0, .int .i64 0, .int .i64 0, .int .i64 0, .int .i64 0, .int .i64 0, .int .i64 0, .int .i64 0, .int .i64 0] 25)
  have k3 := Whole.made ((w.alloc (.cells #[.int .i64 m.a.m, .int .i64 m.a.s, .int .i64 m.b.m, .int .i64 m.b.s, .int .i64 m.c.m, .int .i64 m.c.s, .int .i64 m.d.m, .int .i64 m.d.s, .int .i64 m.e.m, .int .i64 m.e.s, .int .i64 m.f.m, .int .i64 m.f.s] 25)).alloc (.cells #[.int .i64 n.a.m, .int .i64 n.a.s, .int .i64 n.b.m, .int .i64 n.b.s, .int .i64 n.c.m, .int .i64 n.c.s, .int .i64 n.d.m, .int .i64 n.d.s, .int .i64 n.e.m, .int .i64 n.e.s, .int .i64 n.f.m, .int .i64 n.f.s] 25)) 25 #[.int .i64 0, .int .i64 0, .int .i64 0, .int .i64 0, .int .i64 0, .int .i64 0, .int .i64 0, .int .i64 0, .int .i64 0, .int .i64 0, .int .i64 0, .int .i64 0]
  exact ⟨h3, k1, by simpa using k2, by simpa using k3⟩
theorem Tp.here {w W W' : World} {m n : MV} (h : Tp w W m n) (hb : Below W.heap.size W W') : Tp w W' m n :=
  ⟨h.below.trans (hb.mono h.below.size), h.m.here hb, h.n.here hb, h.r.here hb⟩
theorem Tp.put {w W : World} {m n : MV} (h : Tp w W m n) : Below w.heap.size w (((((((((((((W.setCell ⟨w.heap.size + 1 + 1, 0, none⟩ (.int .i64 0)).setCell ⟨w.heap.size + 1 + 1, 1, none⟩ (.int .i64 0)).setCell ⟨w.heap.size + 1 + 1, 2, none⟩ (.int .i64 0)).setCell ⟨w.heap.size + 1 + 1, 3, none⟩ (.int .i64 0)).setCell ⟨w.heap.size + 1 + 1, 4, none⟩ (.int .i64 0)).setCell ⟨w.heap.size + 1 + 1, 5, none⟩ (.int .i64 0)).setCell ⟨w.heap.size + 1 + 1, 6, none⟩ (.int .i64 0)).setCell ⟨w.heap.size + 1 + 1, 7, none⟩ (.int .i64 0)).setCell ⟨w.heap.size + 1 + 1, 8, none⟩ (.int .i64 0)).setCell ⟨w.heap.size + 1 + 1, 9, none⟩ (.int .i64 0)).setCell ⟨w.heap.size + 1 + 1, 10, none⟩ (.int .i64 0)).setCell ⟨w.heap.size + 1 + 1, 11, none⟩ (.int .i64 0))) :=
  ((((((((((((h.below).setCell (p := ⟨w.heap.size + 1 + 1, 0, none⟩) (by simp; omega) (.int .i64 0)).setCell (p := ⟨w.heap.size + 1 + 1, 1, none⟩) (by simp; omega) (.int .i64 0)).setCell (p := ⟨w.heap.size + 1 + 1, 2, none⟩) (by simp; omega) (.int .i64 0)).setCell (p := ⟨w.heap.size + 1 + 1, 3, none⟩) (by simp; omega) (.int .i64 0)).setCell (p := ⟨w.heap.size + 1 + 1, 4, none⟩) (by simp; omega) (.int .i64 0)).setCell (p := ⟨w.heap.size + 1 + 1, 5, none⟩) (by simp; omega) (.int .i64 0)).setCell (p := ⟨w.heap.size + 1 + 1, 6, none⟩) (by simp; omega) (.int .i64 0)).setCell (p := ⟨w.heap.size + 1 + 1, 7, none⟩) (by simp; omega) (.int .i64 0)).setCell (p := ⟨w.heap.size + 1 + 1, 8, none⟩) (by simp; omega) (.int .i64 0)).setCell (p := ⟨w.heap.size + 1 + 1, 9, none⟩) (by simp; omega) (.int .i64 0)).setCell (p := ⟨w.heap.size + 1 + 1, 10, none⟩) (by simp; omega) (.int .i64 0)).setCell (p := ⟨w.heap.size + 1 + 1, 11, none⟩) (by simp; omega) (.int .i64 0)
set_option maxRecDepth 100000 in
set_option maxHeartbeats 4000000 in
theorem refthen_bad1 (m n : MV) (w : World) (h : ¬ m.Ok) :
    Calls Try.prog 8 #[.agg #[.int .i64 m.a.m, .int .i64 m.a.s, .int .i64 m.b.m, .int .i64 m.b.s, .int .i64 m.c.m, .int .i64 m.c.s, .int .i64 m.d.m, .int .i64 m.d.s, .int .i64 m.e.m, .int .i64 m.e.s, .int .i64 m.f.m, .int .i64 m.f.s], .agg #[.int .i64 n.a.m, .int .i64 n.a.s, .int .i64 n.b.m, .int .i64 n.b.s, .int .i64 n.c.m, .int .i64 n.c.s, .int .i64 n.d.m, .int .i64 n.d.s, .int .i64 n.e.m, .int .i64 n.e.s, .int .i64 n.f.m, .int .i64 n.f.s]] w fun e w' => e = .returned (.tuple #[.agg #[.int .i64 0, .int .i64 0, .int .i64 0, .int .i64 0, .int .i64 0, .int .i64 0, .int .i64 0, .int .i64 0, .int .i64 0, .int .i64 0, .int .i64 0, .int .i64 0], .int .i64 1]) ∧ Below w.heap.size w w' := by
  have G := Lib.hid h
  clear h
  have H := Lib.hid (Tp.start w m n)
  go_enter Try.func8, Try.ntmps8
  go_wp2_with fail
  refine (mright_any m _ false (decide_eq_false G.out)).mono ?_
  rintro e w1 ⟨rfl, kk⟩
  have H1 := H.out.here kk
  have r0 : w1.cell? ⟨w.heap.size + 1 + 1, 0, none⟩ = some (.int .i64 0) := H1.r.reads 0
  have r1 : w1.cell? ⟨w.heap.size + 1 + 1, 1, none⟩ = some (.int .i64 0) := H1.r.reads 1
  have r2 : w1.cell? ⟨w.heap.size + 1 + 1, 2, none⟩ = some (.int .i64 0) := H1.r.reads 2
  have r3 : w1.cell? ⟨w.heap.size + 1 + 1, 3, none⟩ = some (.int .i64 0) := H1.r.reads 3
  have r4 : w1.cell? ⟨w.heap.size + 1 + 1, 4, none⟩ = some (.int .i64 0) := H1.r.reads 4
  have r5 : w1.cell? ⟨w.heap.size + 1 + 1, 5, none⟩ = some (.int .i64 0) := H1.r.reads 5
  have r6 : w1.cell? ⟨w.heap.size + 1 + 1, 6, none⟩ = some (.int .i64 0) := H1.r.reads 6
  have r7 : w1.cell? ⟨w.heap.size + 1 + 1, 7, none⟩ = some (.int .i64 0) := H1.r.reads 7
  have r8 : w1.cell? ⟨w.heap.size + 1 + 1, 8, none⟩ = some (.int .i64 0) := H1.r.reads 8
  have r9 : w1.cell? ⟨w.heap.size + 1 + 1, 9, none⟩ = some (.int .i64 0) := H1.r.reads 9
  have r10 : w1.cell? ⟨w.heap.size + 1 + 1, 10, none⟩ = some (.int .i64 0) := H1.r.reads 10
  have r11 : w1.cell? ⟨w.heap.size + 1 + 1, 11, none⟩ = some (.int .i64 0) := H1.r.reads 11
  have z0 := H1.r.thawed 0
  have z1 := H1.r.thawed 1
  have z2 := H1.r.thawed 2
  have z3 := H1.r.thawed 3
  have z4 := H1.r.thawed 4
  have z5 := H1.r.thawed 5
  have z6 := H1.r.thawed 6
  have z7 := H1.r.thawed 7
  have z8 := H1.r.thawed 8
  have z9 := H1.r.thawed 9
  have z10 := H1.r.thawed 10
  have z11 := H1.r.thawed 11
  have lr := H1.r.lt
  have HF := Lib.hid H1.put
  clear H1 kk H
  go_wp2_with fail
  exact bodyPost_ret (v := .tuple #[.agg #[.int .i64 0, .int .i64 0, .int .i64 0, .int .i64 0, .int .i64 0, .int .i64 0, .int .i64 0, .int .i64 0, .int .i64 0, .int .i64 0, .int .i64 0, .int .i64 0], .int .i64 1]) (by simp [results, Try.results8, go_sem, r0, r1, r2, r3, r4, r5, r6, r7, r8, r9, r10, r11]) rfl ⟨rfl, HF.out⟩
set_option maxRecDepth 100000 in
set_option maxHeartbeats 4000000 in
theorem refthen_bad2 (m n : MV) (w : World) (h0 : m.Ok) (h : ¬ n.Ok) :
    Calls Try.prog 8 #[.agg #[.int .i64 m.a.m, .int .i64 m.a.s, .int .i64 m.b.m, .int .i64 m.b.s, .int .i64 m.c.m, .int .i64 m.c.s, .int .i64 m.d.m, .int .i64 m.d.s, .int .i64 m.e.m, .int .i64 m.e.s, .int .i64 m.f.m, .int .i64 m.f.s], .agg #[.int .i64 n.a.m, .int .i64 n.a.s, .int .i64 n.b.m, .int .i64 n.b.s, .int .i64 n.c.m, .int .i64 n.c.s, .int .i64 n.d.m, .int .i64 n.d.s, .int .i64 n.e.m, .int .i64 n.e.s, .int .i64 n.f.m, .int .i64 n.f.s]] w fun e w' => e = .returned (.tuple #[.agg #[.int .i64 0, .int .i64 0, .int .i64 0, .int .i64 0, .int .i64 0, .int .i64 0, .int .i64 0, .int .i64 0, .int .i64 0, .int .i64 0, .int .i64 0, .int .i64 0], .int .i64 1]) ∧ Below w.heap.size w w' := by
  have G0 := Lib.hid h0
  clear h0
  have G := Lib.hid h
  clear h
  have H := Lib.hid (Tp.start w m n)
  go_enter Try.func8, Try.ntmps8
  go_wp2_with fail
  refine (mright_any m _ true (decide_eq_true G0.out)).mono ?_
  rintro e w1 ⟨rfl, kk⟩
  have H := Lib.hid (H.out.here kk)
  clear kk
  have y0 : w1.cell? ⟨w.heap.size + 1, 0, none⟩ = some (.int .i64 n.a.m) := H.out.n.reads 0
  have y1 : w1.cell? ⟨w.heap.size + 1, 1, none⟩ = some (.int .i64 n.a.s) := H.out.n.reads 1
  have y2 : w1.cell? ⟨w.heap.size + 1, 2, none⟩ = some (.int .i64 n.b.m) := H.out.n.reads 2
  have y3 : w1.cell? ⟨w.heap.size + 1, 3, none⟩ = some (.int .i64 n.b.s) := H.out.n.reads 3
  have y4 : w1.cell? ⟨w.heap.size + 1, 4, none⟩ = some (.int .i64 n.c.m) := H.out.n.reads 4
  have y5 : w1.cell? ⟨w.heap.size + 1, 5, none⟩ = some (.int .i64 n.c.s) := H.out.n.reads 5
  have y6 : w1.cell? ⟨w.heap.size + 1, 6, none⟩ = some (.int .i64 n.d.m) := H.out.n.reads 6
  have y7 : w1.cell? ⟨w.heap.size + 1, 7, none⟩ = some (.int .i64 n.d.s) := H.out.n.reads 7
  have y8 : w1.cell? ⟨w.heap.size + 1, 8, none⟩ = some (.int .i64 n.e.m) := H.out.n.reads 8
  have y9 : w1.cell? ⟨w.heap.size + 1, 9, none⟩ = some (.int .i64 n.e.s) := H.out.n.reads 9
  have y10 : w1.cell? ⟨w.heap.size + 1, 10, none⟩ = some (.int .i64 n.f.m) := H.out.n.reads 10
  have y11 : w1.cell? ⟨w.heap.size + 1, 11, none⟩ = some (.int .i64 n.f.s) := H.out.n.reads 11
  have ly := H.out.n.lt
  go_wp2_with fail
  refine (mright_any n _ false (decide_eq_false G.out)).mono ?_
  rintro e w2 ⟨rfl, kk⟩
  have H2 := H.out.here kk
  have r0 : w2.cell? ⟨w.heap.size + 1 + 1, 0, none⟩ = some (.int .i64 0) := H2.r.reads 0
  have r1 : w2.cell? ⟨w.heap.size + 1 + 1, 1, none⟩ = some (.int .i64 0) := H2.r.reads 1
  have r2 : w2.cell? ⟨w.heap.size + 1 + 1, 2, none⟩ = some (.int .i64 0) := H2.r.reads 2
  have r3 : w2.cell? ⟨w.heap.size + 1 + 1, 3, none⟩ = some (.int .i64 0) := H2.r.reads 3
  have r4 : w2.cell? ⟨w.heap.size + 1 + 1, 4, none⟩ = some (.int .i64 0) := H2.r.reads 4
  have r5 : w2.cell? ⟨w.heap.size + 1 + 1, 5, none⟩ = some (.int .i64 0) := H2.r.reads 5
  have r6 : w2.cell? ⟨w.heap.size + 1 + 1, 6, none⟩ = some (.int .i64 0) := H2.r.reads 6
  have r7 : w2.cell? ⟨w.heap.size + 1 + 1, 7, none⟩ = some (.int .i64 0) := H2.r.reads 7
  have r8 : w2.cell? ⟨w.heap.size + 1 + 1, 8, none⟩ = some (.int .i64 0) := H2.r.reads 8
  have r9 : w2.cell? ⟨w.heap.size + 1 + 1, 9, none⟩ = some (.int .i64 0) := H2.r.reads 9
  have r10 : w2.cell? ⟨w.heap.size + 1 + 1, 10, none⟩ = some (.int .i64 0) := H2.r.reads 10
  have r11 : w2.cell? ⟨w.heap.size + 1 + 1, 11, none⟩ = some (.int .i64 0) := H2.r.reads 11
  have z0 := H2.r.thawed 0
  have z1 := H2.r.thawed 1
  have z2 := H2.r.thawed 2
  have z3 := H2.r.thawed 3
  have z4 := H2.r.thawed 4
  have z5 := H2.r.thawed 5
  have z6 := H2.r.thawed 6
  have z7 := H2.r.thawed 7
  have z8 := H2.r.thawed 8
  have z9 := H2.r.thawed 9
  have z10 := H2.r.thawed 10
  have z11 := H2.r.thawed 11
  have lr := H2.r.lt
  have HF := Lib.hid H2.put
  clear H2 kk H ly y0 y1 y2 y3 y4 y5 y6 y7 y8 y9 y10 y11
  go_wp2_with fail
  exact bodyPost_ret (v := .tuple #[.agg #[.int .i64 0, .int .i64 0, .int .i64 0, .int .i64 0, .int .i64 0, .int .i64 0, .int .i64 0, .int .i64 0, .int .i64 0, .int .i64 0, .int .i64 0, .int .i64 0], .int .i64 1]) (by simp [results, Try.results8, go_sem, r0, r1, r2, r3, r4, r5, r6, r7, r8, r9, r10, r11]) rfl ⟨rfl, HF.out⟩
end Go.Proofs.Ytpdjooeogpidhaa
