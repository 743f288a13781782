/- The reference's Map where all is right: the walk. -/
import Derived.Test.YtpdjooeogpidhaaRefMap
namespace Go.Proofs.Ytpdjooeogpidhaa
open Go.RowKit Dec

set_option maxRecDepth 100000 in
set_option maxHeartbeats 4000000 in
theorem refmap_ok (m : MV) (p : PV) (x y : DV) (ex ey : Int) (w : World) (hm : m.Ok) (hp : p.Ok) (hx : SumIs m.a p.x m.c p.y m.e x ex) (hy : SumIs m.b p.x m.d p.y m.f y ey) :
    Calls Try.prog 6 #[.agg #[.int .i64 m.a.m, .int .i64 m.a.s, .int .i64 m.b.m, .int .i64 m.b.s, .int .i64 m.c.m, .int .i64 m.c.s, .int .i64 m.d.m, .int .i64 m.d.s, .int .i64 m.e.m, .int .i64 m.e.s, .int .i64 m.f.m, .int .i64 m.f.s], .agg #[.int .i64 p.x.m, .int .i64 p.x.s, .int .i64 p.y.m, .int .i64 p.y.s]] w fun e w' =>
      ((ex = 0 ∧ ey = 0 ∧ e = .returned (.tuple #[.agg #[.int .i64 x.m, .int .i64 x.s, .int .i64 y.m, .int .i64 y.s], .int .i64 0])) ∨ ((ex = 5 ∨ ey = 5) ∧ e = .returned (.tuple #[.agg #[.int .i64 0, .int .i64 0, .int .i64 0, .int .i64 0], .int .i64 5]))) ∧ Below w.heap.size w w' := by
  have G := Lib.hid (And.intro (And.intro hm hp) (And.intro hx hy))
  clear hm hp hx hy
  have H := Lib.hid (Mp.start w m p)
  go_enter Try.func6, Try.ntmps6
  go_wp2_with fail
  refine (mright_any m _ true (decide_eq_true G.out.1.1)).mono ?_
  rintro e w1 ⟨rfl, kk⟩
  have H := Lib.hid (H.out.here kk)
  clear kk
  have p0 : w1.cell? ⟨w.heap.size + 1, 0, none⟩ = some (.int .i64 p.x.m) := H.out.p.reads 0
  have p1 : w1.cell? ⟨w.heap.size + 1, 1, none⟩ = some (.int .i64 p.x.s) := H.out.p.reads 1
  have lp := H.out.p.lt
  go_wp2_with fail
  refine (right_is p.x true (decide_eq_true G.out.1.2.1) _).mono ?_
  rintro e w2 ⟨rfl, kk⟩
  have H := Lib.hid (H.out.here kk)
  clear kk p0 p1 lp
  have p2 : w2.cell? ⟨w.heap.size + 1, 2, none⟩ = some (.int .i64 p.y.m) := H.out.p.reads 2
  have p3 : w2.cell? ⟨w.heap.size + 1, 3, none⟩ = some (.int .i64 p.y.s) := H.out.p.reads 3
  have lp := H.out.p.lt
  go_wp2_with fail
  refine (right_is p.y true (decide_eq_true G.out.1.2.2) _).mono ?_
  rintro e w3 ⟨rfl, kk⟩
  have H := Lib.hid (H.out.here kk)
  clear kk p2 p3 lp
  have p0 : w3.cell? ⟨w.heap.size + 1, 0, none⟩ = some (.int .i64 p.x.m) := H.out.p.reads 0
  have p1 : w3.cell? ⟨w.heap.size + 1, 1, none⟩ = some (.int .i64 p.x.s) := H.out.p.reads 1
  have p2 : w3.cell? ⟨w.heap.size + 1, 2, none⟩ = some (.int .i64 p.y.m) := H.out.p.reads 2
  have p3 : w3.cell? ⟨w.heap.size + 1, 3, none⟩ = some (.int .i64 p.y.s) := H.out.p.reads 3
  have lp := H.out.p.lt
  have m0 : w3.cell? ⟨w.heap.size, 0, none⟩ = some (.int .i64 m.a.m) := H.out.m.reads 0
  have m1 : w3.cell? ⟨w.heap.size, 1, none⟩ = some (.int .i64 m.a.s) := H.out.m.reads 1
  have m4 : w3.cell? ⟨w.heap.size, 4, none⟩ = some (.int .i64 m.c.m) := H.out.m.reads 4
  have m5 : w3.cell? ⟨w.heap.size, 5, none⟩ = some (.int .i64 m.c.s) := H.out.m.reads 5
  have m8 : w3.cell? ⟨w.heap.size, 8, none⟩ = some (.int .i64 m.e.m) := H.out.m.reads 8
  have m9 : w3.cell? ⟨w.heap.size, 9, none⟩ = some (.int .i64 m.e.s) := H.out.m.reads 9
  have lm := H.out.m.lt
  go_wp2_with fail
  refine (tied_any m.a p.x m.c p.y m.e x ex _ G.out.1.1.1 G.out.1.2.1 G.out.1.1.2.2.1 G.out.1.2.2 G.out.1.1.2.2.2.2.1 G.out.2.1).mono ?_
  rintro e w4 ⟨x', oka, rfl, hx, kk⟩
  have H4 := Lib.hid (H.out.here kk)
  have HX := Lib.hid hx
  clear kk hx p0 p1 p2 p3 lp m0 m1 m4 m5 m8 m9 lm
  have p0 : w4.cell? ⟨w.heap.size + 1, 0, none⟩ = some (.int .i64 p.x.m) := H4.out.p.reads 0
  have p1 : w4.cell? ⟨w.heap.size + 1, 1, none⟩ = some (.int .i64 p.x.s) := H4.out.p.reads 1
  have p2 : w4.cell? ⟨w.heap.size + 1, 2, none⟩ = some (.int .i64 p.y.m) := H4.out.p.reads 2
  have p3 : w4.cell? ⟨w.heap.size + 1, 3, none⟩ = some (.int .i64 p.y.s) := H4.out.p.reads 3
  have lp := H4.out.p.lt
  have m2 : w4.cell? ⟨w.heap.size, 2, none⟩ = some (.int .i64 m.b.m) := H4.out.m.reads 2
  have m3 : w4.cell? ⟨w.heap.size, 3, none⟩ = some (.int .i64 m.b.s) := H4.out.m.reads 3
  have m6 : w4.cell? ⟨w.heap.size, 6, none⟩ = some (.int .i64 m.d.m) := H4.out.m.reads 6
  have m7 : w4.cell? ⟨w.heap.size, 7, none⟩ = some (.int .i64 m.d.s) := H4.out.m.reads 7
  have m10 : w4.cell? ⟨w.heap.size, 10, none⟩ = some (.int .i64 m.f.m) := H4.out.m.reads 10
  have m11 : w4.cell? ⟨w.heap.size, 11, none⟩ = some (.int .i64 m.f.s) := H4.out.m.reads 11
  have lm := H4.out.m.lt
  go_wp2_with fail
  refine (tied_any m.b p.x m.d p.y m.f y ey _ G.out.1.1.2.1 G.out.1.2.1 G.out.1.1.2.2.2.1 G.out.1.2.2 G.out.1.1.2.2.2.2.2 G.out.2.2).mono ?_
  rintro e w5 ⟨y', okb, rfl, hy, kk⟩
  have hX : Whole w5 w4.heap.size 23 #[.int .i64 x'.m, .int .i64 x'.s] := (Whole.made w4 23 #[.int .i64 x'.m, .int .i64 x'.s]).here kk
  have H5 := (H4.out.old (.cells #[.int .i64 x'.m, .int .i64 x'.s] 23)).here kk
  have HY := Lib.hid hy
  clear kk hy p0 p1 p2 p3 lp m2 m3 m6 m7 m10 m11 lm H H4
  have x0 : w5.cell? ⟨w4.heap.size, 0, none⟩ = some (.int .i64 x'.m) := hX.reads 0
  have x1 : w5.cell? ⟨w4.heap.size, 1, none⟩ = some (.int .i64 x'.s) := hX.reads 1
  have lx := hX.lt
  have r0 : w5.cell? ⟨w.heap.size + 1 + 1, 0, none⟩ = some (.int .i64 0) := H5.r.reads 0
  have r1 : w5.cell? ⟨w.heap.size + 1 + 1, 1, none⟩ = some (.int .i64 0) := H5.r.reads 1
  have r2 : w5.cell? ⟨w.heap.size + 1 + 1, 2, none⟩ = some (.int .i64 0) := H5.r.reads 2
  have r3 : w5.cell? ⟨w.heap.size + 1 + 1, 3, none⟩ = some (.int .i64 0) := H5.r.reads 3
  have z0 := H5.r.thawed 0
  have z1 := H5.r.thawed 1
  have z2 := H5.r.thawed 2
  have z3 := H5.r.thawed 3
  have lr := H5.r.lt
  have fA := H5.put (.int .i64 x'.m) (.int .i64 x'.s) (.int .i64 y'.m) (.int .i64 y'.s)
  have FA := Lib.hid (fA.alloc fA.size (.cells #[.int .i64 y'.m, .int .i64 y'.s] 23))
  have qA0 : (((((w5.setCell ⟨w.heap.size + 1 + 1, 0, none⟩ (.int .i64 x'.m)).setCell ⟨w.heap.size + 1 + 1, 1, none⟩ (.int .i64 x'.s)).setCell ⟨w.heap.size + 1 + 1, 2, none⟩ (.int .i64 y'.m)).setCell ⟨w.heap.size + 1 + 1, 3, none⟩ (.int .i64 y'.s))).cell? ⟨w.heap.size + 1 + 1, 0, none⟩ = some (.int .i64 x'.m) := by simp [go_sem, r0]
  have qA1 : (((((w5.setCell ⟨w.heap.size + 1 + 1, 0, none⟩ (.int .i64 x'.m)).setCell ⟨w.heap.size + 1 + 1, 1, none⟩ (.int .i64 x'.s)).setCell ⟨w.heap.size + 1 + 1, 2, none⟩ (.int .i64 y'.m)).setCell ⟨w.heap.size + 1 + 1, 3, none⟩ (.int .i64 y'.s))).cell? ⟨w.heap.size + 1 + 1, 1, none⟩ = some (.int .i64 x'.s) := by simp [go_sem, r1]
  have qA2 : (((((w5.setCell ⟨w.heap.size + 1 + 1, 0, none⟩ (.int .i64 x'.m)).setCell ⟨w.heap.size + 1 + 1, 1, none⟩ (.int .i64 x'.s)).setCell ⟨w.heap.size + 1 + 1, 2, none⟩ (.int .i64 y'.m)).setCell ⟨w.heap.size + 1 + 1, 3, none⟩ (.int .i64 y'.s))).cell? ⟨w.heap.size + 1 + 1, 2, none⟩ = some (.int .i64 y'.m) := by simp [go_sem, r2]
  have qA3 : (((((w5.setCell ⟨w.heap.size + 1 + 1, 0, none⟩ (.int .i64 x'.m)).setCell ⟨w.heap.size + 1 + 1, 1, none⟩ (.int .i64 x'.s)).setCell ⟨w.heap.size + 1 + 1, 2, none⟩ (.int .i64 y'.m)).setCell ⟨w.heap.size + 1 + 1, 3, none⟩ (.int .i64 y'.s))).cell? ⟨w.heap.size + 1 + 1, 3, none⟩ = some (.int .i64 y'.s) := by simp [go_sem, r3]
  have QA := Lib.hid (And.intro ((World.cell?_alloc_lt _ (.cells #[.int .i64 y'.m, .int .i64 y'.s] 23) _ (World.block_lt_of_cell? _ _ qA0)).trans qA0) (And.intro ((World.cell?_alloc_lt _ (.cells #[.int .i64 y'.m, .int .i64 y'.s] 23) _ (World.block_lt_of_cell? _ _ qA1)).trans qA1) (And.intro ((World.cell?_alloc_lt _ (.cells #[.int .i64 y'.m, .int .i64 y'.s] 23) _ (World.block_lt_of_cell? _ _ qA2)).trans qA2) ((World.cell?_alloc_lt _ (.cells #[.int .i64 y'.m, .int .i64 y'.s] 23) _ (World.block_lt_of_cell? _ _ qA3)).trans qA3))))
  clear fA qA0 qA1 qA2 qA3
  have fB := H5.put (.int .i64 0) (.int .i64 0) (.int .i64 0) (.int .i64 0)
  have FB := Lib.hid (fB.alloc fB.size (.cells #[.int .i64 y'.m, .int .i64 y'.s] 23))
  have qB0 : (((((w5.setCell ⟨w.heap.size + 1 + 1, 0, none⟩ (.int .i64 0)).setCell ⟨w.heap.size + 1 + 1, 1, none⟩ (.int .i64 0)).setCell ⟨w.heap.size + 1 + 1, 2, none⟩ (.int .i64 0)).setCell ⟨w.heap.size + 1 + 1, 3, none⟩ (.int .i64 0))).cell? ⟨w.heap.size + 1 + 1, 0, none⟩ = some (.int .i64 0) := by simp [go_sem, r0]
  have qB1 : (((((w5.setCell ⟨w.heap.size + 1 + 1, 0, none⟩ (.int .i64 0)).setCell ⟨w.heap.size + 1 + 1, 1, none⟩ (.int .i64 0)).setCell ⟨w.heap.size + 1 + 1, 2, none⟩ (.int .i64 0)).setCell ⟨w.heap.size + 1 + 1, 3, none⟩ (.int .i64 0))).cell? ⟨w.heap.size + 1 + 1, 1, none⟩ = some (.int .i64 0) := by simp [go_sem, r1]
  have qB2 : (((((w5.setCell ⟨w.heap.size + 1 + 1, 0, none⟩ (.int .i64 0)).setCell ⟨w.heap.size + 1 + 1, 1, none⟩ (.int .i64 0)).setCell ⟨w.heap.size + 1 + 1, 2, none⟩ (.int .i64 0)).setCell ⟨w.heap.size + 1 + 1, 3, none⟩ (.int .i64 0))).cell? ⟨w.heap.size + 1 + 1, 2, none⟩ = some (.int .i64 0) := by simp [go_sem, r2]
  have qB3 : (((((w5.setCell ⟨w.heap.size + 1 + 1, 0, none⟩ (.int .i64 0)).setCell ⟨w.heap.size + 1 + 1, 1, none⟩ (.int .i64 0)).setCell ⟨w.heap.size + 1 + 1, 2, none⟩ (.int .i64 0)).setCell ⟨w.heap.size + 1 + 1, 3, none⟩ (.int .i64 0))).cell? ⟨w.heap.size + 1 + 1, 3, none⟩ = some (.int .i64 0) := by simp [go_sem, r3]
  have QB := Lib.hid (And.intro ((World.cell?_alloc_lt _ (.cells #[.int .i64 y'.m, .int .i64 y'.s] 23) _ (World.block_lt_of_cell? _ _ qB0)).trans qB0) (And.intro ((World.cell?_alloc_lt _ (.cells #[.int .i64 y'.m, .int .i64 y'.s] 23) _ (World.block_lt_of_cell? _ _ qB1)).trans qB1) (And.intro ((World.cell?_alloc_lt _ (.cells #[.int .i64 y'.m, .int .i64 y'.s] 23) _ (World.block_lt_of_cell? _ _ qB2)).trans qB2) ((World.cell?_alloc_lt _ (.cells #[.int .i64 y'.m, .int .i64 y'.s] 23) _ (World.block_lt_of_cell? _ _ qB3)).trans qB3))))
  clear fB qB0 qB1 qB2 qB3
  clear H5 hX
  have hxx := HX.out
  have hyy := HY.out
  clear HX HY G
  rcases hxx with ⟨rfl, rfl, rfl⟩ | ⟨rfl, rfl⟩ <;> rcases hyy with ⟨rfl, rfl, rfl⟩ | ⟨rfl, rfl⟩
  all_goals go_wp2_with fail
  all_goals first
    | exact bodyPost_ret (v := .tuple #[.agg #[.int .i64 x'.m, .int .i64 x'.s, .int .i64 y'.m, .int .i64 y'.s], .int .i64 0]) (by simp [results, Try.results6, go_sem, QA.out.1, QA.out.2.1, QA.out.2.2.1, QA.out.2.2.2]) rfl ⟨rfl, FA.out⟩
    | exact bodyPost_ret (v := .tuple #[.agg #[.int .i64 0, .int .i64 0, .int .i64 0, .int .i64 0], .int .i64 5]) (by simp [results, Try.results6, go_sem, QB.out.1, QB.out.2.1, QB.out.2.2.1, QB.out.2.2.2]) rfl ⟨rfl, FB.out⟩
end Go.Proofs.Ytpdjooeogpidhaa
