/- The reference's Then where both are right: the walk. -/
import Derived.Test.YtpdjooeogpidhaaRefThen
import Derived.Test.YtpdjooeogpidhaaRefTied
namespace Go.Proofs.Ytpdjooeogpidhaa
open Go.RowKit Dec

theorem Tp.old {w W : World} {m n : MV} (h : Tp w W m n) (o : Obj) : Tp w (W.alloc o) m n := h.here ((Below.refl _ _).alloc (Nat.le_refl _) o)
/-- What the reference's Then answers. -/
def RThen (q : MV) (e1 e2 e3 e4 e5 e6 : Int) (w : World) (e : Ending) (w' : World) : Prop :=
  ((e1 = 0 ∧ e2 = 0 ∧ e3 = 0 ∧ e4 = 0 ∧ e5 = 0 ∧ e6 = 0 ∧ e = .returned (.tuple #[.agg #[.int .i64 q.a.m, .int .i64 q.a.s, .int .i64 q.b.m, .int .i64 q.b.s, .int .i64 q.c.m, .int .i64 q.c.s, .int .i64 q.d.m, .int .i64 q.d.s, .int .i64 q.e.m, .int .i64 q.e.s, .int .i64 q.f.m, .int .i64 q.f.s], .int .i64 0])) ∨ (¬ (e1 = 0 ∧ e2 = 0 ∧ e3 = 0 ∧ e4 = 0 ∧ e5 = 0 ∧ e6 = 0) ∧ e = .returned (.tuple #[.agg #[.int .i64 0, .int .i64 0, .int .i64 0, .int .i64 0, .int .i64 0, .int .i64 0, .int .i64 0, .int .i64 0, .int .i64 0, .int .i64 0, .int .i64 0, .int .i64 0], .int .i64 5]))) ∧ Below w.heap.size w w'
theorem Tp.sets {w W : World} {m n : MV} (h : Tp w W m n) (v0 v1 v2 v3 v4 v5 v6 v7 v8 v9 v10 v11 : Value) : Below w.heap.size w (((((((((((((W.setCell ⟨w.heap.size + 1 + 1, 0, none⟩ (v0)).setCell ⟨w.heap.size + 1 + 1, 1, none⟩ (v1)).setCell ⟨w.heap.size + 1 + 1, 2, none⟩ (v2)).setCell ⟨w.heap.size + 1 + 1, 3, none⟩ (v3)).setCell ⟨w.heap.size + 1 + 1, 4, none⟩ (v4)).setCell ⟨w.heap.size + 1 + 1, 5, none⟩ (v5)).setCell ⟨w.heap.size + 1 + 1, 6, none⟩ (v6)).setCell ⟨w.heap.size + 1 + 1, 7, none⟩ (v7)).setCell ⟨w.heap.size + 1 + 1, 8, none⟩ (v8)).setCell ⟨w.heap.size + 1 + 1, 9, none⟩ (v9)).setCell ⟨w.heap.size + 1 + 1, 10, none⟩ (v10)).setCell ⟨w.heap.size + 1 + 1, 11, none⟩ (v11))) :=
  ((((((((((((h.below).setCell (p := ⟨w.heap.size + 1 + 1, 0, none⟩) (by simp; omega) v0).setCell (p := ⟨w.heap.size + 1 + 1, 1, none⟩) (by simp; omega) v1).setCell (p := ⟨w.heap.size + 1 + 1, 2, none⟩) (by simp; omega) v2).setCell (p := ⟨w.heap.size + 1 + 1, 3, none⟩) (by simp; omega) v3).setCell (p := ⟨w.heap.size + 1 + 1, 4, none⟩) (by simp; omega) v4).setCell (p := ⟨w.heap.size + 1 + 1, 5, none⟩) (by simp; omega) v5).setCell (p := ⟨w.heap.size + 1 + 1, 6, none⟩) (by simp; omega) v6).setCell (p := ⟨w.heap.size + 1 + 1, 7, none⟩) (by simp; omega) v7).setCell (p := ⟨w.heap.size + 1 + 1, 8, none⟩) (by simp; omega) v8).setCell (p := ⟨w.heap.size + 1 + 1, 9, none⟩) (by simp; omega) v9).setCell (p := ⟨w.heap.size + 1 + 1, 10, none⟩) (by simp; omega) v10).setCell (p := ⟨w.heap.size + 1 + 1, 11, none⟩) (by simp; omega) v11
set_option maxRecDepth 100000 in
set_option maxHeartbeats 8000000 in
theorem refthen_ok (m n q : MV) (e1 e2 e3 e4 e5 e6 : Int) (w : World) (hm : m.Ok) (hn : n.Ok) (h1 : SumIs m.a n.a m.b n.c .zero q.a e1) (h2 : SumIs m.a n.b m.b n.d .zero q.b e2) (h3 : SumIs m.c n.a m.d n.c .zero q.c e3) (h4 : SumIs m.c n.b m.d n.d .zero q.d e4) (h5 : SumIs m.e n.a m.f n.c n.e q.e e5) (h6 : SumIs m.e n.b m.f n.d n.f q.f e6) :
    Calls Try.prog 8 #[.agg #[.int .i64 m.a.m, .int .i64 m.a.s, .int .i64 m.b.m, .int .i64 m.b.s, .int .i64 m.c.m, .int .i64 m.c.s, .int .i64 m.d.m, .int .i64 m.d.s, .int .i64 m.e.m, .int .i64 m.e.s, .int .i64 m.f.m, .int .i64 m.f.s], .agg #[.int .i64 n.a.m, .int .i64 n.a.s, .int .i64 n.b.m, .int .i64 n.b.s, .int .i64 n.c.m, .int .i64 n.c.s, .int .i64 n.d.m, .int .i64 n.d.s, .int .i64 n.e.m, .int .i64 n.e.s, .int .i64 n.f.m, .int .i64 n.f.s]] w (RThen q e1 e2 e3 e4 e5 e6 w) := by
  have GM := Lib.hid hm
  have GN := Lib.hid hn
  have G1 := Lib.hid h1
  have G2 := Lib.hid h2
  have G3 := Lib.hid h3
  have G4 := Lib.hid h4
  have G5 := Lib.hid h5
  have G6 := Lib.hid h6
  clear hm hn h1 h2 h3 h4 h5 h6
  have H := Lib.hid (Tp.start w m n)
  go_enter Try.func8, Try.ntmps8
  go_wp2_with fail
  refine (mright_any m _ true (decide_eq_true GM.out)).mono ?_
  rintro e w1 ⟨rfl, kk⟩
  have H := Lib.hid (H.out.here kk)
  clear kk
  have y0 : w1.cell? ⟨w.heap.size + 1, 0, none⟩ = some (.int .i64 n.a.m) := H.out.n.reads 0
  have y1 : w1.cell? ⟨w.heap.size + 1, 1, none⟩ = some (.int .i64 n.a.s) := H.out.n.reads 1
  have y2 : w1.cell? ⟨w.heap.size + 1, 2, none⟩ = some (.int .i64 n.b.m) := H.out.n.reads 2
  have y3 : w1.cell? ⟨w.heap.size + 1, 3, none⟩ = some (.int .i64 n.b.s) := H.out.n.reads 3
  have y4 : w1.cell? ⟨w.heap.size + 1, 4, none⟩ = some (.int .i64 n.c.m) := H.out.n.reads 4
  have y5 : w1.cell? ⟨w.heap.size + 1, 5, none⟩ = some (.int .i64 n.c.s) := H.out.n.reads 5
  have y6 : w1.cell? ⟨w.heap.size + 1, 6, none⟩ = some (.int .i64 n.d.m) := H.out.n.reads 6
  have y7 : w1.cell? ⟨w.heap.size + 1, 7, none⟩ = some (.int .i64 n.d.s) := H.out.n.reads 7
  have y8 : w1.cell? ⟨w.heap.size + 1, 8, none⟩ = some (.int .i64 n.e.m) := H.out.n.reads 8
  have y9 : w1.cell? ⟨w.heap.size + 1, 9, none⟩ = some (.int .i64 n.e.s) := H.out.n.reads 9
  have y10 : w1.cell? ⟨w.heap.size + 1, 10, none⟩ = some (.int .i64 n.f.m) := H.out.n.reads 10
  have y11 : w1.cell? ⟨w.heap.size + 1, 11, none⟩ = some (.int .i64 n.f.s) := H.out.n.reads 11
  have ly := H.out.n.lt
  go_wp2_with fail
  refine (mright_any n _ true (decide_eq_true GN.out)).mono ?_
  rintro e w2 ⟨rfl, kk⟩
  have H2 := Lib.hid ((H.out.here kk).old (.cells #[.int .i64 0, .int .i64 0] 23))
  have K2 : Hid (Held w2 (w2.alloc (.cells #[.int .i64 0, .int .i64 0] 23)) [(w2.heap.size, 0, 0)]) := (Held.start w2).add 0 0
  have D2 := Lib.hid H2.out.below
  clear kk ly H y0 y1 y2 y3 y4 y5 y6 y7 y8 y9 y10 y11
  have m0 : (w2.alloc (.cells #[.int .i64 0, .int .i64 0] 23)).cell? ⟨w.heap.size, 0, none⟩ = some (.int .i64 m.a.m) := H2.out.m.reads 0
  have m1 : (w2.alloc (.cells #[.int .i64 0, .int .i64 0] 23)).cell? ⟨w.heap.size, 1, none⟩ = some (.int .i64 m.a.s) := H2.out.m.reads 1
  have n0 : (w2.alloc (.cells #[.int .i64 0, .int .i64 0] 23)).cell? ⟨w.heap.size + 1, 0, none⟩ = some (.int .i64 n.a.m) := H2.out.n.reads 0
  have n1 : (w2.alloc (.cells #[.int .i64 0, .int .i64 0] 23)).cell? ⟨w.heap.size + 1, 1, none⟩ = some (.int .i64 n.a.s) := H2.out.n.reads 1
  have m2 : (w2.alloc (.cells #[.int .i64 0, .int .i64 0] 23)).cell? ⟨w.heap.size, 2, none⟩ = some (.int .i64 m.b.m) := H2.out.m.reads 2
  have m3 : (w2.alloc (.cells #[.int .i64 0, .int .i64 0] 23)).cell? ⟨w.heap.size, 3, none⟩ = some (.int .i64 m.b.s) := H2.out.m.reads 3
  have n4 : (w2.alloc (.cells #[.int .i64 0, .int .i64 0] 23)).cell? ⟨w.heap.size + 1, 4, none⟩ = some (.int .i64 n.c.m) := H2.out.n.reads 4
  have n5 : (w2.alloc (.cells #[.int .i64 0, .int .i64 0] 23)).cell? ⟨w.heap.size + 1, 5, none⟩ = some (.int .i64 n.c.s) := H2.out.n.reads 5
  have lm := H2.out.m.lt
  have ln := H2.out.n.lt
  have o0 : (w2.alloc (.cells #[.int .i64 0, .int .i64 0] 23)).cell? ⟨w2.heap.size, 0, none⟩ = some (.int .i64 0) := K2.out.at0 (M := 0) (S := 0) (by simp)
  have o1 : (w2.alloc (.cells #[.int .i64 0, .int .i64 0] 23)).cell? ⟨w2.heap.size, 1, none⟩ = some (.int .i64 0) := K2.out.at1 (M := 0) (S := 0) (by simp)
  have lo := K2.out.lt (B := w2.heap.size) (M := 0) (S := 0) (by simp)
  go_wp2_with fail
  refine (tied_any m.a n.a m.b n.c DV.zero q.a e1 _ GM.out.1 GN.out.1 GM.out.2.1 GN.out.2.2.1 DV.zero_ok G1.out).mono ?_
  rintro e w3 ⟨x1, ok1, rfl, hx, kk⟩
  have X1 := Lib.hid hx
  have H3 := Lib.hid ((H2.out.here kk).old (.cells #[.int .i64 x1.m, .int .i64 x1.s] 23))
  have K3 : Hid (Held w2 (w3.alloc (.cells #[.int .i64 x1.m, .int .i64 x1.s] 23)) [(w3.heap.size, x1.m, x1.s), (w2.heap.size, 0, 0)]) := (K2.out.here kk).add x1.m x1.s
  clear kk hx H2 K2 m0 m1 n0 n1 m2 m3 n4 n5 lm ln o0 o1 lo
  have m0 : (w3.alloc (.cells #[.int .i64 x1.m, .int .i64 x1.s] 23)).cell? ⟨w.heap.size, 0, none⟩ = some (.int .i64 m.a.m) := H3.out.m.reads 0
  have m1 : (w3.alloc (.cells #[.int .i64 x1.m, .int .i64 x1.s] 23)).cell? ⟨w.heap.size, 1, none⟩ = some (.int .i64 m.a.s) := H3.out.m.reads 1
  have n2 : (w3.alloc (.cells #[.int .i64 x1.m, .int .i64 x1.s] 23)).cell? ⟨w.heap.size + 1, 2, none⟩ = some (.int .i64 n.b.m) := H3.out.n.reads 2
  have n3 : (w3.alloc (.cells #[.int .i64 x1.m, .int .i64 x1.s] 23)).cell? ⟨w.heap.size + 1, 3, none⟩ = some (.int .i64 n.b.s) := H3.out.n.reads 3
  have m2 : (w3.alloc (.cells #[.int .i64 x1.m, .int .i64 x1.s] 23)).cell? ⟨w.heap.size, 2, none⟩ = some (.int .i64 m.b.m) := H3.out.m.reads 2
  have m3 : (w3.alloc (.cells #[.int .i64 x1.m, .int .i64 x1.s] 23)).cell? ⟨w.heap.size, 3, none⟩ = some (.int .i64 m.b.s) := H3.out.m.reads 3
  have n6 : (w3.alloc (.cells #[.int .i64 x1.m, .int .i64 x1.s] 23)).cell? ⟨w.heap.size + 1, 6, none⟩ = some (.int .i64 n.d.m) := H3.out.n.reads 6
  have n7 : (w3.alloc (.cells #[.int .i64 x1.m, .int .i64 x1.s] 23)).cell? ⟨w.heap.size + 1, 7, none⟩ = some (.int .i64 n.d.s) := H3.out.n.reads 7
  have lm := H3.out.m.lt
  have ln := H3.out.n.lt
  have o0 : (w3.alloc (.cells #[.int .i64 x1.m, .int .i64 x1.s] 23)).cell? ⟨w2.heap.size, 0, none⟩ = some (.int .i64 0) := K3.out.at0 (M := 0) (S := 0) (by simp)
  have o1 : (w3.alloc (.cells #[.int .i64 x1.m, .int .i64 x1.s] 23)).cell? ⟨w2.heap.size, 1, none⟩ = some (.int .i64 0) := K3.out.at1 (M := 0) (S := 0) (by simp)
  have lo := K3.out.lt (B := w2.heap.size) (M := 0) (S := 0) (by simp)
  go_wp2_with fail
  refine (tied_any m.a n.b m.b n.d DV.zero q.b e2 _ GM.out.1 GN.out.2.1 GM.out.2.1 GN.out.2.2.2.1 DV.zero_ok G2.out).mono ?_
  rintro e w4 ⟨x2, ok2, rfl, hx, kk⟩
  have X2 := Lib.hid hx
  have H4 := Lib.hid ((H3.out.here kk).old (.cells #[.int .i64 x2.m, .int .i64 x2.s] 23))
  have K4 : Hid (Held w2 (w4.alloc (.cells #[.int .i64 x2.m, .int .i64 x2.s] 23)) [(w4.heap.size, x2.m, x2.s), (w3.heap.size, x1.m, x1.s), (w2.heap.size, 0, 0)]) := (K3.out.here kk).add x2.m x2.s
  clear kk hx H3 K3 m0 m1 n2 n3 m2 m3 n6 n7 lm ln o0 o1 lo
  have m4 : (w4.alloc (.cells #[.int .i64 x2.m, .int .i64 x2.s] 23)).cell? ⟨w.heap.size, 4, none⟩ = some (.int .i64 m.c.m) := H4.out.m.reads 4
  have m5 : (w4.alloc (.cells #[.int .i64 x2.m, .int .i64 x2.s] 23)).cell? ⟨w.heap.size, 5, none⟩ = some (.int .i64 m.c.s) := H4.out.m.reads 5
  have n0 : (w4.alloc (.cells #[.int .i64 x2.m, .int .i64 x2.s] 23)).cell? ⟨w.heap.size + 1, 0, none⟩ = some (.int .i64 n.a.m) := H4.out.n.reads 0
  have n1 : (w4.alloc (.cells #[.int .i64 x2.m, .int .i64 x2.s] 23)).cell? ⟨w.heap.size + 1, 1, none⟩ = some (.int .i64 n.a.s) := H4.out.n.reads 1
  have m6 : (w4.alloc (.cells #[.int .i64 x2.m, .int .i64 x2.s] 23)).cell? ⟨w.heap.size, 6, none⟩ = some (.int .i64 m.d.m) := H4.out.m.reads 6
  have m7 : (w4.alloc (.cells #[.int .i64 x2.m, .int .i64 x2.s] 23)).cell? ⟨w.heap.size, 7, none⟩ = some (.int .i64 m.d.s) := H4.out.m.reads 7
  have n4 : (w4.alloc (.cells #[.int .i64 x2.m, .int .i64 x2.s] 23)).cell? ⟨w.heap.size + 1, 4, none⟩ = some (.int .i64 n.c.m) := H4.out.n.reads 4
  have n5 : (w4.alloc (.cells #[.int .i64 x2.m, .int .i64 x2.s] 23)).cell? ⟨w.heap.size + 1, 5, none⟩ = some (.int .i64 n.c.s) := H4.out.n.reads 5
  have lm := H4.out.m.lt
  have ln := H4.out.n.lt
  have o0 : (w4.alloc (.cells #[.int .i64 x2.m, .int .i64 x2.s] 23)).cell? ⟨w2.heap.size, 0, none⟩ = some (.int .i64 0) := K4.out.at0 (M := 0) (S := 0) (by simp)
  have o1 : (w4.alloc (.cells #[.int .i64 x2.m, .int .i64 x2.s] 23)).cell? ⟨w2.heap.size, 1, none⟩ = some (.int .i64 0) := K4.out.at1 (M := 0) (S := 0) (by simp)
  have lo := K4.out.lt (B := w2.heap.size) (M := 0) (S := 0) (by simp)
  go_wp2_with fail
  refine (tied_any m.c n.a m.d n.c DV.zero q.c e3 _ GM.out.2.2.1 GN.out.1 GM.out.2.2.2.1 GN.out.2.2.1 DV.zero_ok G3.out).mono ?_
  rintro e w5 ⟨x3, ok3, rfl, hx, kk⟩
  have X3 := Lib.hid hx
  have H5 := Lib.hid ((H4.out.here kk).old (.cells #[.int .i64 x3.m, .int .i64 x3.s] 23))
  have K5 : Hid (Held w2 (w5.alloc (.cells #[.int .i64 x3.m, .int .i64 x3.s] 23)) [(w5.heap.size, x3.m, x3.s), (w4.heap.size, x2.m, x2.s), (w3.heap.size, x1.m, x1.s), (w2.heap.size, 0, 0)]) := (K4.out.here kk).add x3.m x3.s
  clear kk hx H4 K4 m4 m5 n0 n1 m6 m7 n4 n5 lm ln o0 o1 lo
  have m4 : (w5.alloc (.cells #[.int .i64 x3.m, .int .i64 x3.s] 23)).cell? ⟨w.heap.size, 4, none⟩ = some (.int .i64 m.c.m) := H5.out.m.reads 4
  have m5 : (w5.alloc (.cells #[.int .i64 x3.m, .int .i64 x3.s] 23)).cell? ⟨w.heap.size, 5, none⟩ = some (.int .i64 m.c.s) := H5.out.m.reads 5
  have n2 : (w5.alloc (.cells #[.int .i64 x3.m, .int .i64 x3.s] 23)).cell? ⟨w.heap.size + 1, 2, none⟩ = some (.int .i64 n.b.m) := H5.out.n.reads 2
  have n3 : (w5.alloc (.cells #[.int .i64 x3.m, .int .i64 x3.s] 23)).cell? ⟨w.heap.size + 1, 3, none⟩ = some (.int .i64 n.b.s) := H5.out.n.reads 3
  have m6 : (w5.alloc (.cells #[.int .i64 x3.m, .int .i64 x3.s] 23)).cell? ⟨w.heap.size, 6, none⟩ = some (.int .i64 m.d.m) := H5.out.m.reads 6
  have m7 : (w5.alloc (.cells #[.int .i64 x3.m, .int .i64 x3.s] 23)).cell? ⟨w.heap.size, 7, none⟩ = some (.int .i64 m.d.s) := H5.out.m.reads 7
  have n6 : (w5.alloc (.cells #[.int .i64 x3.m, .int .i64 x3.s] 23)).cell? ⟨w.heap.size + 1, 6, none⟩ = some (.int .i64 n.d.m) := H5.out.n.reads 6
  have n7 : (w5.alloc (.cells #[.int .i64 x3.m, .int .i64 x3.s] 23)).cell? ⟨w.heap.size + 1, 7, none⟩ = some (.int .i64 n.d.s) := H5.out.n.reads 7
  have lm := H5.out.m.lt
  have ln := H5.out.n.lt
  have o0 : (w5.alloc (.cells #[.int .i64 x3.m, .int .i64 x3.s] 23)).cell? ⟨w2.heap.size, 0, none⟩ = some (.int .i64 0) := K5.out.at0 (M := 0) (S := 0) (by simp)
  have o1 : (w5.alloc (.cells #[.int .i64 x3.m, .int .i64 x3.s] 23)).cell? ⟨w2.heap.size, 1, none⟩ = some (.int .i64 0) := K5.out.at1 (M := 0) (S := 0) (by simp)
  have lo := K5.out.lt (B := w2.heap.size) (M := 0) (S := 0) (by simp)
  go_wp2_with fail
  refine (tied_any m.c n.b m.d n.d DV.zero q.d e4 _ GM.out.2.2.1 GN.out.2.1 GM.out.2.2.2.1 GN.out.2.2.2.1 DV.zero_ok G4.out).mono ?_
  rintro e w6 ⟨x4, ok4, rfl, hx, kk⟩
  have X4 := Lib.hid hx
  have H6 := Lib.hid ((H5.out.here kk).old (.cells #[.int .i64 x4.m, .int .i64 x4.s] 23))
  have K6 : Hid (Held w2 (w6.alloc (.cells #[.int .i64 x4.m, .int .i64 x4.s] 23)) [(w6.heap.size, x4.m, x4.s), (w5.heap.size, x3.m, x3.s), (w4.heap.size, x2.m, x2.s), (w3.heap.size, x1.m, x1.s), (w2.heap.size, 0, 0)]) := (K5.out.here kk).add x4.m x4.s
  clear kk hx H5 K5 m4 m5 n2 n3 m6 m7 n6 n7 lm ln o0 o1 lo
  have m8 : (w6.alloc (.cells #[.int .i64 x4.m, .int .i64 x4.s] 23)).cell? ⟨w.heap.size, 8, none⟩ = some (.int .i64 m.e.m) := H6.out.m.reads 8
  have m9 : (w6.alloc (.cells #[.int .i64 x4.m, .int .i64 x4.s] 23)).cell? ⟨w.heap.size, 9, none⟩ = some (.int .i64 m.e.s) := H6.out.m.reads 9
  have n0 : (w6.alloc (.cells #[.int .i64 x4.m, .int .i64 x4.s] 23)).cell? ⟨w.heap.size + 1, 0, none⟩ = some (.int .i64 n.a.m) := H6.out.n.reads 0
  have n1 : (w6.alloc (.cells #[.int .i64 x4.m, .int .i64 x4.s] 23)).cell? ⟨w.heap.size + 1, 1, none⟩ = some (.int .i64 n.a.s) := H6.out.n.reads 1
  have m10 : (w6.alloc (.cells #[.int .i64 x4.m, .int .i64 x4.s] 23)).cell? ⟨w.heap.size, 10, none⟩ = some (.int .i64 m.f.m) := H6.out.m.reads 10
  have m11 : (w6.alloc (.cells #[.int .i64 x4.m, .int .i64 x4.s] 23)).cell? ⟨w.heap.size, 11, none⟩ = some (.int .i64 m.f.s) := H6.out.m.reads 11
  have n4 : (w6.alloc (.cells #[.int .i64 x4.m, .int .i64 x4.s] 23)).cell? ⟨w.heap.size + 1, 4, none⟩ = some (.int .i64 n.c.m) := H6.out.n.reads 4
  have n5 : (w6.alloc (.cells #[.int .i64 x4.m, .int .i64 x4.s] 23)).cell? ⟨w.heap.size + 1, 5, none⟩ = some (.int .i64 n.c.s) := H6.out.n.reads 5
  have n8 : (w6.alloc (.cells #[.int .i64 x4.m, .int .i64 x4.s] 23)).cell? ⟨w.heap.size + 1, 8, none⟩ = some (.int .i64 n.e.m) := H6.out.n.reads 8
  have n9 : (w6.alloc (.cells #[.int .i64 x4.m, .int .i64 x4.s] 23)).cell? ⟨w.heap.size + 1, 9, none⟩ = some (.int .i64 n.e.s) := H6.out.n.reads 9
  have lm := H6.out.m.lt
  have ln := H6.out.n.lt
  go_wp2_with fail
  refine (tied_any m.e n.a m.f n.c n.e q.e e5 _ GM.out.2.2.2.2.1 GN.out.1 GM.out.2.2.2.2.2 GN.out.2.2.1 GN.out.2.2.2.2.1 G5.out).mono ?_
  rintro e w7 ⟨x5, ok5, rfl, hx, kk⟩
  have X5 := Lib.hid hx
  have H7 := Lib.hid ((H6.out.here kk).old (.cells #[.int .i64 x5.m, .int .i64 x5.s] 23))
  have K7 : Hid (Held w2 (w7.alloc (.cells #[.int .i64 x5.m, .int .i64 x5.s] 23)) [(w7.heap.size, x5.m, x5.s), (w6.heap.size, x4.m, x4.s), (w5.heap.size, x3.m, x3.s), (w4.heap.size, x2.m, x2.s), (w3.heap.size, x1.m, x1.s), (w2.heap.size, 0, 0)]) := (K6.out.here kk).add x5.m x5.s
  clear kk hx H6 K6 m8 m9 n0 n1 m10 m11 n4 n5 n8 n9 lm ln
  have m8 : (w7.alloc (.cells #[.int .i64 x5.m, .int .i64 x5.s] 23)).cell? ⟨w.heap.size, 8, none⟩ = some (.int .i64 m.e.m) := H7.out.m.reads 8
  have m9 : (w7.alloc (.cells #[.int .i64 x5.m, .int .i64 x5.s] 23)).cell? ⟨w.heap.size, 9, none⟩ = some (.int .i64 m.e.s) := H7.out.m.reads 9
  have n2 : (w7.alloc (.cells #[.int .i64 x5.m, .int .i64 x5.s] 23)).cell? ⟨w.heap.size + 1, 2, none⟩ = some (.int .i64 n.b.m) := H7.out.n.reads 2
  have n3 : (w7.alloc (.cells #[.int .i64 x5.m, .int .i64 x5.s] 23)).cell? ⟨w.heap.size + 1, 3, none⟩ = some (.int .i64 n.b.s) := H7.out.n.reads 3
  have m10 : (w7.alloc (.cells #[.int .i64 x5.m, .int .i64 x5.s] 23)).cell? ⟨w.heap.size, 10, none⟩ = some (.int .i64 m.f.m) := H7.out.m.reads 10
  have m11 : (w7.alloc (.cells #[.int .i64 x5.m, .int .i64 x5.s] 23)).cell? ⟨w.heap.size, 11, none⟩ = some (.int .i64 m.f.s) := H7.out.m.reads 11
  have n6 : (w7.alloc (.cells #[.int .i64 x5.m, .int .i64 x5.s] 23)).cell? ⟨w.heap.size + 1, 6, none⟩ = some (.int .i64 n.d.m) := H7.out.n.reads 6
  have n7 : (w7.alloc (.cells #[.int .i64 x5.m, .int .i64 x5.s] 23)).cell? ⟨w.heap.size + 1, 7, none⟩ = some (.int .i64 n.d.s) := H7.out.n.reads 7
  have n10 : (w7.alloc (.cells #[.int .i64 x5.m, .int .i64 x5.s] 23)).cell? ⟨w.heap.size + 1, 10, none⟩ = some (.int .i64 n.f.m) := H7.out.n.reads 10
  have n11 : (w7.alloc (.cells #[.int .i64 x5.m, .int .i64 x5.s] 23)).cell? ⟨w.heap.size + 1, 11, none⟩ = some (.int .i64 n.f.s) := H7.out.n.reads 11
  have lm := H7.out.m.lt
  have ln := H7.out.n.lt
  go_wp2_with fail
  refine (tied_any m.e n.b m.f n.d n.f q.f e6 _ GM.out.2.2.2.2.1 GN.out.2.1 GM.out.2.2.2.2.2 GN.out.2.2.2.1 GN.out.2.2.2.2.2 G6.out).mono ?_
  rintro e w8 ⟨x6, ok6, rfl, hx, kk⟩
  have X6 := Lib.hid hx
  have H8 := H7.out.here kk
  have K8 := K7.out.here kk
  clear kk hx H7 K7 m8 m9 n2 n3 m10 m11 n6 n7 n10 n11 lm ln
  have c10 : w8.cell? ⟨w3.heap.size, 0, none⟩ = some (.int .i64 x1.m) := K8.at0 (M := x1.m) (S := x1.s) (by simp)
  have c11 : w8.cell? ⟨w3.heap.size, 1, none⟩ = some (.int .i64 x1.s) := K8.at1 (M := x1.m) (S := x1.s) (by simp)
  have lc1 := K8.lt (B := w3.heap.size) (M := x1.m) (S := x1.s) (by simp)
  have c20 : w8.cell? ⟨w4.heap.size, 0, none⟩ = some (.int .i64 x2.m) := K8.at0 (M := x2.m) (S := x2.s) (by simp)
  have c21 : w8.cell? ⟨w4.heap.size, 1, none⟩ = some (.int .i64 x2.s) := K8.at1 (M := x2.m) (S := x2.s) (by simp)
  have lc2 := K8.lt (B := w4.heap.size) (M := x2.m) (S := x2.s) (by simp)
  have c30 : w8.cell? ⟨w5.heap.size, 0, none⟩ = some (.int .i64 x3.m) := K8.at0 (M := x3.m) (S := x3.s) (by simp)
  have c31 : w8.cell? ⟨w5.heap.size, 1, none⟩ = some (.int .i64 x3.s) := K8.at1 (M := x3.m) (S := x3.s) (by simp)
  have lc3 := K8.lt (B := w5.heap.size) (M := x3.m) (S := x3.s) (by simp)
  have c40 : w8.cell? ⟨w6.heap.size, 0, none⟩ = some (.int .i64 x4.m) := K8.at0 (M := x4.m) (S := x4.s) (by simp)
  have c41 : w8.cell? ⟨w6.heap.size, 1, none⟩ = some (.int .i64 x4.s) := K8.at1 (M := x4.m) (S := x4.s) (by simp)
  have lc4 := K8.lt (B := w6.heap.size) (M := x4.m) (S := x4.s) (by simp)
  have c50 : w8.cell? ⟨w7.heap.size, 0, none⟩ = some (.int .i64 x5.m) := K8.at0 (M := x5.m) (S := x5.s) (by simp)
  have c51 : w8.cell? ⟨w7.heap.size, 1, none⟩ = some (.int .i64 x5.s) := K8.at1 (M := x5.m) (S := x5.s) (by simp)
  have lc5 := K8.lt (B := w7.heap.size) (M := x5.m) (S := x5.s) (by simp)
  have r0 : w8.cell? ⟨w.heap.size + 1 + 1, 0, none⟩ = some (.int .i64 0) := H8.r.reads 0
  have r1 : w8.cell? ⟨w.heap.size + 1 + 1, 1, none⟩ = some (.int .i64 0) := H8.r.reads 1
  have r2 : w8.cell? ⟨w.heap.size + 1 + 1, 2, none⟩ = some (.int .i64 0) := H8.r.reads 2
  have r3 : w8.cell? ⟨w.heap.size + 1 + 1, 3, none⟩ = some (.int .i64 0) := H8.r.reads 3
  have r4 : w8.cell? ⟨w.heap.size + 1 + 1, 4, none⟩ = some (.int .i64 0) := H8.r.reads 4
  have r5 : w8.cell? ⟨w.heap.size + 1 + 1, 5, none⟩ = some (.int .i64 0) := H8.r.reads 5
  have r6 : w8.cell? ⟨w.heap.size + 1 + 1, 6, none⟩ = some (.int .i64 0) := H8.r.reads 6
  have r7 : w8.cell? ⟨w.heap.size + 1 + 1, 7, none⟩ = some (.int .i64 0) := H8.r.reads 7
  have r8 : w8.cell? ⟨w.heap.size + 1 + 1, 8, none⟩ = some (.int .i64 0) := H8.r.reads 8
  have r9 : w8.cell? ⟨w.heap.size + 1 + 1, 9, none⟩ = some (.int .i64 0) := H8.r.reads 9
  have r10 : w8.cell? ⟨w.heap.size + 1 + 1, 10, none⟩ = some (.int .i64 0) := H8.r.reads 10
  have r11 : w8.cell? ⟨w.heap.size + 1 + 1, 11, none⟩ = some (.int .i64 0) := H8.r.reads 11
  have z0 := H8.r.thawed 0
  have z1 := H8.r.thawed 1
  have z2 := H8.r.thawed 2
  have z3 := H8.r.thawed 3
  have z4 := H8.r.thawed 4
  have z5 := H8.r.thawed 5
  have z6 := H8.r.thawed 6
  have z7 := H8.r.thawed 7
  have z8 := H8.r.thawed 8
  have z9 := H8.r.thawed 9
  have z10 := H8.r.thawed 10
  have z11 := H8.r.thawed 11
  have lr := H8.r.lt
  have fA := H8.sets (.int .i64 x1.m) (.int .i64 x1.s) (.int .i64 x2.m) (.int .i64 x2.s) (.int .i64 x3.m) (.int .i64 x3.s) (.int .i64 x4.m) (.int .i64 x4.s) (.int .i64 x5.m) (.int .i64 x5.s) (.int .i64 x6.m) (.int .i64 x6.s)
  have FA := Lib.hid (fA.alloc fA.size (.cells #[.int .i64 x6.m, .int .i64 x6.s] 23))
  have qA0 : (((((((((((((w8.setCell ⟨w.heap.size + 1 + 1, 0, none⟩ (.int .i64 x1.m)).setCell ⟨w.heap.size + 1 + 1, 1, none⟩ (.int .i64 x1.s)).setCell ⟨w.heap.size + 1 + 1, 2, none⟩ (.int .i64 x2.m)).setCell ⟨w.heap.size + 1 + 1, 3, none⟩ (.int .i64 x2.s)).setCell ⟨w.heap.size + 1 + 1, 4, none⟩ (.int .i64 x3.m)).setCell ⟨w.heap.size + 1 + 1, 5, none⟩ (.int .i64 x3.s)).setCell ⟨w.heap.size + 1 + 1, 6, none⟩ (.int .i64 x4.m)).setCell ⟨w.heap.size + 1 + 1, 7, none⟩ (.int .i64 x4.s)).setCell ⟨w.heap.size + 1 + 1, 8, none⟩ (.int .i64 x5.m)).setCell ⟨w.heap.size + 1 + 1, 9, none⟩ (.int .i64 x5.s)).setCell ⟨w.heap.size + 1 + 1, 10, none⟩ (.int .i64 x6.m)).setCell ⟨w.heap.size + 1 + 1, 11, none⟩ (.int .i64 x6.s))).cell? ⟨w.heap.size + 1 + 1, 0, none⟩ = some (.int .i64 x1.m) := by simp [go_sem, r0]
  have QA0 := Lib.hid ((World.cell?_alloc_lt _ (.cells #[.int .i64 x6.m, .int .i64 x6.s] 23) _ (World.block_lt_of_cell? _ _ qA0)).trans qA0)
  have qA1 : (((((((((((((w8.setCell ⟨w.heap.size + 1 + 1, 0, none⟩ (.int .i64 x1.m)).setCell ⟨w.heap.size + 1 + 1, 1, none⟩ (.int .i64 x1.s)).setCell ⟨w.heap.size + 1 + 1, 2, none⟩ (.int .i64 x2.m)).setCell ⟨w.heap.size + 1 + 1, 3, none⟩ (.int .i64 x2.s)).setCell ⟨w.heap.size + 1 + 1, 4, none⟩ (.int .i64 x3.m)).setCell ⟨w.heap.size + 1 + 1, 5, none⟩ (.int .i64 x3.s)).setCell ⟨w.heap.size + 1 + 1, 6, none⟩ (.int .i64 x4.m)).setCell ⟨w.heap.size + 1 + 1, 7, none⟩ (.int .i64 x4.s)).setCell ⟨w.heap.size + 1 + 1, 8, none⟩ (.int .i64 x5.m)).setCell ⟨w.heap.size + 1 + 1, 9, none⟩ (.int .i64 x5.s)).setCell ⟨w.heap.size + 1 + 1, 10, none⟩ (.int .i64 x6.m)).setCell ⟨w.heap.size + 1 + 1, 11, none⟩ (.int .i64 x6.s))).cell? ⟨w.heap.size + 1 + 1, 1, none⟩ = some (.int .i64 x1.s) := by simp [go_sem, r1]
  have QA1 := Lib.hid ((World.cell?_alloc_lt _ (.cells #[.int .i64 x6.m, .int .i64 x6.s] 23) _ (World.block_lt_of_cell? _ _ qA1)).trans qA1)
  have qA2 : (((((((((((((w8.setCell ⟨w.heap.size + 1 + 1, 0, none⟩ (.int .i64 x1.m)).setCell ⟨w.heap.size + 1 + 1, 1, none⟩ (.int .i64 x1.s)).setCell ⟨w.heap.size + 1 + 1, 2, none⟩ (.int .i64 x2.m)).setCell ⟨w.heap.size + 1 + 1, 3, none⟩ (.int .i64 x2.s)).setCell ⟨w.heap.size + 1 + 1, 4, none⟩ (.int .i64 x3.m)).setCell ⟨w.heap.size + 1 + 1, 5, none⟩ (.int .i64 x3.s)).setCell ⟨w.heap.size + 1 + 1, 6, none⟩ (.int .i64 x4.m)).setCell ⟨w.heap.size + 1 + 1, 7, none⟩ (.int .i64 x4.s)).setCell ⟨w.heap.size + 1 + 1, 8, none⟩ (.int .i64 x5.m)).setCell ⟨w.heap.size + 1 + 1, 9, none⟩ (.int .i64 x5.s)).setCell ⟨w.heap.size + 1 + 1, 10, none⟩ (.int .i64 x6.m)).setCell ⟨w.heap.size + 1 + 1, 11, none⟩ (.int .i64 x6.s))).cell? ⟨w.heap.size + 1 + 1, 2, none⟩ = some (.int .i64 x2.m) := by simp [go_sem, r2]
  have QA2 := Lib.hid ((World.cell?_alloc_lt _ (.cells #[.int .i64 x6.m, .int .i64 x6.s] 23) _ (World.block_lt_of_cell? _ _ qA2)).trans qA2)
  have qA3 : (((((((((((((w8.setCell ⟨w.heap.size + 1 + 1, 0, none⟩ (.int .i64 x1.m)).setCell ⟨w.heap.size + 1 + 1, 1, none⟩ (.int .i64 x1.s)).setCell ⟨w.heap.size + 1 + 1, 2, none⟩ (.int .i64 x2.m)).setCell ⟨w.heap.size + 1 + 1, 3, none⟩ (.int .i64 x2.s)).setCell ⟨w.heap.size + 1 + 1, 4, none⟩ (.int .i64 x3.m)).setCell ⟨w.heap.size + 1 + 1, 5, none⟩ (.int .i64 x3.s)).setCell ⟨w.heap.size + 1 + 1, 6, none⟩ (.int .i64 x4.m)).setCell ⟨w.heap.size + 1 + 1, 7, none⟩ (.int .i64 x4.s)).setCell ⟨w.heap.size + 1 + 1, 8, none⟩ (.int .i64 x5.m)).setCell ⟨w.heap.size + 1 + 1, 9, none⟩ (.int .i64 x5.s)).setCell ⟨w.heap.size + 1 + 1, 10, none⟩ (.int .i64 x6.m)).setCell ⟨w.heap.size + 1 + 1, 11, none⟩ (.int .i64 x6.s))).cell? ⟨w.heap.size + 1 + 1, 3, none⟩ = some (.int .i64 x2.s) := by simp [go_sem, r3]
  have QA3 := Lib.hid ((World.cell?_alloc_lt _ (.cells #[.int .i64 x6.m, .int .i64 x6.s] 23) _ (World.block_lt_of_cell? _ _ qA3)).trans qA3)
  have qA4 : (((((((((((((w8.setCell ⟨w.heap.size + 1 + 1, 0, none⟩ (.int .i64 x1.m)).setCell ⟨w.heap.size + 1 + 1, 1, none⟩ (.int .i64 x1.s)).setCell ⟨w.heap.size + 1 + 1, 2, none⟩ (.int .i64 x2.m)).setCell ⟨w.heap.size + 1 + 1, 3, none⟩ (.int .i64 x2.s)).setCell ⟨w.heap.size + 1 + 1, 4, none⟩ (.int .i64 x3.m)).setCell ⟨w.heap.size + 1 + 1, 5, none⟩ (.int .i64 x3.s)).setCell ⟨w.heap.size + 1 + 1, 6, none⟩ (.int .i64 x4.m)).setCell ⟨w.heap.size + 1 + 1, 7, none⟩ (.int .i64 x4.s)).setCell ⟨w.heap.size + 1 + 1, 8, none⟩ (.int .i64 x5.m)).setCell ⟨w.heap.size + 1 + 1, 9, none⟩ (.int .i64 x5.s)).setCell ⟨w.heap.size + 1 + 1, 10, none⟩ (.int .i64 x6.m)).setCell ⟨w.heap.size + 1 + 1, 11, none⟩ (.int .i64 x6.s))).cell? ⟨w.heap.size + 1 + 1, 4, none⟩ = some (.int .i64 x3.m) := by simp [go_sem, r4]
  have QA4 := Lib.hid ((World.cell?_alloc_lt _ (.cells #[.int .i64 x6.m, .int .i64 x6.s] 23) _ (World.block_lt_of_cell? _ _ qA4)).trans qA4)
  have qA5 : (((((((((((((w8.setCell ⟨w.heap.size + 1 + 1, 0, none⟩ (.int .i64 x1.m)).setCell ⟨w.heap.size + 1 + 1, 1, none⟩ (.int .i64 x1.s)).setCell ⟨w.heap.size + 1 + 1, 2, none⟩ (.int .i64 x2.m)).setCell ⟨w.heap.size + 1 + 1, 3, none⟩ (.int .i64 x2.s)).setCell ⟨w.heap.size + 1 + 1, 4, none⟩ (.int .i64 x3.m)).setCell ⟨w.heap.size + 1 + 1, 5, none⟩ (.int .i64 x3.s)).setCell ⟨w.heap.size + 1 + 1, 6, none⟩ (.int .i64 x4.m)).setCell ⟨w.heap.size + 1 + 1, 7, none⟩ (.int .i64 x4.s)).setCell ⟨w.heap.size + 1 + 1, 8, none⟩ (.int .i64 x5.m)).setCell ⟨w.heap.size + 1 + 1, 9, none⟩ (.int .i64 x5.s)).setCell ⟨w.heap.size + 1 + 1, 10, none⟩ (.int .i64 x6.m)).setCell ⟨w.heap.size + 1 + 1, 11, none⟩ (.int .i64 x6.s))).cell? ⟨w.heap.size + 1 + 1, 5, none⟩ = some (.int .i64 x3.s) := by simp [go_sem, r5]
  have QA5 := Lib.hid ((World.cell?_alloc_lt _ (.cells #[.int .i64 x6.m, .int .i64 x6.s] 23) _ (World.block_lt_of_cell? _ _ qA5)).trans qA5)
  have qA6 : (((((((((((((w8.setCell ⟨w.heap.size + 1 + 1, 0, none⟩ (.int .i64 x1.m)).setCell ⟨w.heap.size + 1 + 1, 1, none⟩ (.int .i64 x1.s)).setCell ⟨w.heap.size + 1 + 1, 2, none⟩ (.int .i64 x2.m)).setCell ⟨w.heap.size + 1 + 1, 3, none⟩ (.int .i64 x2.s)).setCell ⟨w.heap.size + 1 + 1, 4, none⟩ (.int .i64 x3.m)).setCell ⟨w.heap.size + 1 + 1, 5, none⟩ (.int .i64 x3.s)).setCell ⟨w.heap.size + 1 + 1, 6, none⟩ (.int .i64 x4.m)).setCell ⟨w.heap.size + 1 + 1, 7, none⟩ (.int .i64 x4.s)).setCell ⟨w.heap.size + 1 + 1, 8, none⟩ (.int .i64 x5.m)).setCell ⟨w.heap.size + 1 + 1, 9, none⟩ (.int .i64 x5.s)).setCell ⟨w.heap.size + 1 + 1, 10, none⟩ (.int .i64 x6.m)).setCell ⟨w.heap.size + 1 + 1, 11, none⟩ (.int .i64 x6.s))).cell? ⟨w.heap.size + 1 + 1, 6, none⟩ = some (.int .i64 x4.m) := by simp [go_sem, r6]
  have QA6 := Lib.hid ((World.cell?_alloc_lt _ (.cells #[.int .i64 x6.m, .int .i64 x6.s] 23) _ (World.block_lt_of_cell? _ _ qA6)).trans qA6)
  have qA7 : (((((((((((((w8.setCell ⟨w.heap.size + 1 + 1, 0, none⟩ (.int .i64 x1.m)).setCell ⟨w.heap.size + 1 + 1, 1, none⟩ (.int .i64 x1.s)).setCell ⟨w.heap.size + 1 + 1, 2, none⟩ (.int .i64 x2.m)).setCell ⟨w.heap.size + 1 + 1, 3, none⟩ (.int .i64 x2.s)).setCell ⟨w.heap.size + 1 + 1, 4, none⟩ (.int .i64 x3.m)).setCell ⟨w.heap.size + 1 + 1, 5, none⟩ (.int .i64 x3.s)).setCell ⟨w.heap.size + 1 + 1, 6, none⟩ (.int .i64 x4.m)).setCell ⟨w.heap.size + 1 + 1, 7, none⟩ (.int .i64 x4.s)).setCell ⟨w.heap.size + 1 + 1, 8, none⟩ (.int .i64 x5.m)).setCell ⟨w.heap.size + 1 + 1, 9, none⟩ (.int .i64 x5.s)).setCell ⟨w.heap.size + 1 + 1, 10, none⟩ (.int .i64 x6.m)).setCell ⟨w.heap.size + 1 + 1, 11, none⟩ (.int .i64 x6.s))).cell? ⟨w.heap.size + 1 + 1, 7, none⟩ = some (.int .i64 x4.s) := by simp [go_sem, r7]
  have QA7 := Lib.hid ((World.cell?_alloc_lt _ (.cells #[.int .i64 x6.m, .int .i64 x6.s] 23) _ (World.block_lt_of_cell? _ _ qA7)).trans qA7)
  have qA8 : (((((((((((((w8.setCell ⟨w.heap.size + 1 + 1, 0, none⟩ (.int .i64 x1.m)).setCell ⟨w.heap.size + 1 + 1, 1, none⟩ (.int .i64 x1.s)).setCell ⟨w.heap.size + 1 + 1, 2, none⟩ (.int .i64 x2.m)).setCell ⟨w.heap.size + 1 + 1, 3, none⟩ (.int .i64 x2.s)).setCell ⟨w.heap.size + 1 + 1, 4, none⟩ (.int .i64 x3.m)).setCell ⟨w.heap.size + 1 + 1, 5, none⟩ (.int .i64 x3.s)).setCell ⟨w.heap.size + 1 + 1, 6, none⟩ (.int .i64 x4.m)).setCell ⟨w.heap.size + 1 + 1, 7, none⟩ (.int .i64 x4.s)).setCell ⟨w.heap.size + 1 + 1, 8, none⟩ (.int .i64 x5.m)).setCell ⟨w.heap.size + 1 + 1, 9, none⟩ (.int .i64 x5.s)).setCell ⟨w.heap.size + 1 + 1, 10, none⟩ (.int .i64 x6.m)).setCell ⟨w.heap.size + 1 + 1, 11, none⟩ (.int .i64 x6.s))).cell? ⟨w.heap.size + 1 + 1, 8, none⟩ = some (.int .i64 x5.m) := by simp [go_sem, r8]
  have QA8 := Lib.hid ((World.cell?_alloc_lt _ (.cells #[.int .i64 x6.m, .int .i64 x6.s] 23) _ (World.block_lt_of_cell? _ _ qA8)).trans qA8)
  have qA9 : (((((((((((((w8.setCell ⟨w.heap.size + 1 + 1, 0, none⟩ (.int .i64 x1.m)).setCell ⟨w.heap.size + 1 + 1, 1, none⟩ (.int .i64 x1.s)).setCell ⟨w.heap.size + 1 + 1, 2, none⟩ (.int .i64 x2.m)).setCell ⟨w.heap.size + 1 + 1, 3, none⟩ (.int .i64 x2.s)).setCell ⟨w.heap.size + 1 + 1, 4, none⟩ (.int .i64 x3.m)).setCell ⟨w.heap.size + 1 + 1, 5, none⟩ (.int .i64 x3.s)).setCell ⟨w.heap.size + 1 + 1, 6, none⟩ (.int .i64 x4.m)).setCell ⟨w.heap.size + 1 + 1, 7, none⟩ (.int .i64 x4.s)).setCell ⟨w.heap.size + 1 + 1, 8, none⟩ (.int .i64 x5.m)).setCell ⟨w.heap.size + 1 + 1, 9, none⟩ (.int .i64 x5.s)).setCell ⟨w.heap.size + 1 + 1, 10, none⟩ (.int .i64 x6.m)).setCell ⟨w.heap.size + 1 + 1, 11, none⟩ (.int .i64 x6.s))).cell? ⟨w.heap.size + 1 + 1, 9, none⟩ = some (.int .i64 x5.s) := by simp [go_sem, r9]
  have QA9 := Lib.hid ((World.cell?_alloc_lt _ (.cells #[.int .i64 x6.m, .int .i64 x6.s] 23) _ (World.block_lt_of_cell? _ _ qA9)).trans qA9)
  have qA10 : (((((((((((((w8.setCell ⟨w.heap.size + 1 + 1, 0, none⟩ (.int .i64 x1.m)).setCell ⟨w.heap.size + 1 + 1, 1, none⟩ (.int .i64 x1.s)).setCell ⟨w.heap.size + 1 + 1, 2, none⟩ (.int .i64 x2.m)).setCell ⟨w.heap.size + 1 + 1, 3, none⟩ (.int .i64 x2.s)).setCell ⟨w.heap.size + 1 + 1, 4, none⟩ (.int .i64 x3.m)).setCell ⟨w.heap.size + 1 + 1, 5, none⟩ (.int .i64 x3.s)).setCell ⟨w.heap.size + 1 + 1, 6, none⟩ (.int .i64 x4.m)).setCell ⟨w.heap.size + 1 + 1, 7, none⟩ (.int .i64 x4.s)).setCell ⟨w.heap.size + 1 + 1, 8, none⟩ (.int .i64 x5.m)).setCell ⟨w.heap.size + 1 + 1, 9, none⟩ (.int .i64 x5.s)).setCell ⟨w.heap.size + 1 + 1, 10, none⟩ (.int .i64 x6.m)).setCell ⟨w.heap.size + 1 + 1, 11, none⟩ (.int .i64 x6.s))).cell? ⟨w.heap.size + 1 + 1, 10, none⟩ = some (.int .i64 x6.m) := by simp [go_sem, r10]
  have QA10 := Lib.hid ((World.cell?_alloc_lt _ (.cells #[.int .i64 x6.m, .int .i64 x6.s] 23) _ (World.block_lt_of_cell? _ _ qA10)).trans qA10)
  have qA11 : (((((((((((((w8.setCell ⟨w.heap.size + 1 + 1, 0, none⟩ (.int .i64 x1.m)).setCell ⟨w.heap.size + 1 + 1, 1, none⟩ (.int .i64 x1.s)).setCell ⟨w.heap.size + 1 + 1, 2, none⟩ (.int .i64 x2.m)).setCell ⟨w.heap.size + 1 + 1, 3, none⟩ (.int .i64 x2.s)).setCell ⟨w.heap.size + 1 + 1, 4, none⟩ (.int .i64 x3.m)).setCell ⟨w.heap.size + 1 + 1, 5, none⟩ (.int .i64 x3.s)).setCell ⟨w.heap.size + 1 + 1, 6, none⟩ (.int .i64 x4.m)).setCell ⟨w.heap.size + 1 + 1, 7, none⟩ (.int .i64 x4.s)).setCell ⟨w.heap.size + 1 + 1, 8, none⟩ (.int .i64 x5.m)).setCell ⟨w.heap.size + 1 + 1, 9, none⟩ (.int .i64 x5.s)).setCell ⟨w.heap.size + 1 + 1, 10, none⟩ (.int .i64 x6.m)).setCell ⟨w.heap.size + 1 + 1, 11, none⟩ (.int .i64 x6.s))).cell? ⟨w.heap.size + 1 + 1, 11, none⟩ = some (.int .i64 x6.s) := by simp [go_sem, r11]
  have QA11 := Lib.hid ((World.cell?_alloc_lt _ (.cells #[.int .i64 x6.m, .int .i64 x6.s] 23) _ (World.block_lt_of_cell? _ _ qA11)).trans qA11)
  clear fA qA0 qA1 qA2 qA3 qA4 qA5 qA6 qA7 qA8 qA9 qA10 qA11
  have fB := H8.sets (.int .i64 0) (.int .i64 0) (.int .i64 0) (.int .i64 0) (.int .i64 0) (.int .i64 0) (.int .i64 0) (.int .i64 0) (.int .i64 0) (.int .i64 0) (.int .i64 0) (.int .i64 0)
  have FB := Lib.hid (fB.alloc fB.size (.cells #[.int .i64 x6.m, .int .i64 x6.s] 23))
  have qB0 : (((((((((((((w8.setCell ⟨w.heap.size + 1 + 1, 0, none⟩ (.int .i64 0)).setCell ⟨w.heap.size + 1 + 1, 1, none⟩ (.int .i64 0)).setCell ⟨w.heap.size + 1 + 1, 2, none⟩ (.int .i64 0)).setCell ⟨w.heap.size + 1 + 1, 3, none⟩ (.int .i64 0)).setCell ⟨w.heap.size + 1 + 1, 4, none⟩ (.int .i64 0)).setCell ⟨w.heap.size + 1 + 1, 5, none⟩ (.int .i64 0)).setCell ⟨w.heap.size + 1 + 1, 6, none⟩ (.int .i64 0)).setCell ⟨w.heap.size + 1 + 1, 7, none⟩ (.int .i64 0)).setCell ⟨w.heap.size + 1 + 1, 8, none⟩ (.int .i64 0)).setCell ⟨w.heap.size + 1 + 1, 9, none⟩ (.int .i64 0)).setCell ⟨w.heap.size + 1 + 1, 10, none⟩ (.int .i64 0)).setCell ⟨w.heap.size + 1 + 1, 11, none⟩ (.int .i64 0))).cell? ⟨w.heap.size + 1 + 1, 0, none⟩ = some (.int .i64 0) := by simp [go_sem, r0]
  have QB0 := Lib.hid ((World.cell?_alloc_lt _ (.cells #[.int .i64 x6.m, .int .i64 x6.s] 23) _ (World.block_lt_of_cell? _ _ qB0)).trans qB0)
  have qB1 : (((((((((((((w8.setCell ⟨w.heap.size + 1 + 1, 0, none⟩ (.int .i64 0)).setCell ⟨w.heap.size + 1 + 1, 1, none⟩ (.int .i64 0)).setCell ⟨w.heap.size + 1 + 1, 2, none⟩ (.int .i64 0)).setCell ⟨w.heap.size + 1 + 1, 3, none⟩ (.int .i64 0)).setCell ⟨w.heap.size + 1 + 1, 4, none⟩ (.int .i64 0)).setCell ⟨w.heap.size + 1 + 1, 5, none⟩ (.int .i64 0)).setCell ⟨w.heap.size + 1 + 1, 6, none⟩ (.int .i64 0)).setCell ⟨w.heap.size + 1 + 1, 7, none⟩ (.int .i64 0)).setCell ⟨w.heap.size + 1 + 1, 8, none⟩ (.int .i64 0)).setCell ⟨w.heap.size + 1 + 1, 9, none⟩ (.int .i64 0)).setCell ⟨w.heap.size + 1 + 1, 10, none⟩ (.int .i64 0)).setCell ⟨w.heap.size + 1 + 1, 11, none⟩ (.int .i64 0))).cell? ⟨w.heap.size + 1 + 1, 1, none⟩ = some (.int .i64 0) := by simp [go_sem, r1]
  have QB1 := Lib.hid ((World.cell?_alloc_lt _ (.cells #[.int .i64 x6.m, .int .i64 x6.s] 23) _ (World.block_lt_of_cell? _ _ qB1)).trans qB1)
  have qB2 : (((((((((((((w8.setCell ⟨w.heap.size + 1 + 1, 0, none⟩ (.int .i64 0)).setCell ⟨w.heap.size + 1 + 1, 1, none⟩ (.int .i64 0)).setCell ⟨w.heap.size + 1 + 1, 2, none⟩ (.int .i64 0)).setCell ⟨w.heap.size + 1 + 1, 3, none⟩ (.int .i64 0)).setCell ⟨w.heap.size + 1 + 1, 4, none⟩ (.int .i64 0)).setCell ⟨w.heap.size + 1 + 1, 5, none⟩ (.int .i64 0)).setCell ⟨w.heap.size + 1 + 1, 6, none⟩ (.int .i64 0)).setCell ⟨w.heap.size + 1 + 1, 7, none⟩ (.int .i64 0)).setCell ⟨w.heap.size + 1 + 1, 8, none⟩ (.int .i64 0)).setCell ⟨w.heap.size + 1 + 1, 9, none⟩ (.int .i64 0)).setCell ⟨w.heap.size + 1 + 1, 10, none⟩ (.int .i64 0)).setCell ⟨w.heap.size + 1 + 1, 11, none⟩ (.int .i64 0))).cell? ⟨w.heap.size + 1 + 1, 2, none⟩ = some (.int .i64 0) := by simp [go_sem, r2]
  have QB2 := Lib.hid ((World.cell?_alloc_lt _ (.cells #[.int .i64 x6.m, .int .i64 x6.s] 23) _ (World.block_lt_of_cell? _ _ qB2)).trans qB2)
  have qB3 : (((((((((((((w8.setCell ⟨w.heap.size + 1 + 1, 0, none⟩ (.int .i64 0)).setCell ⟨w.heap.size + 1 + 1, 1, none⟩ (.int .i64 0)).setCell ⟨w.heap.size + 1 + 1, 2, none⟩ (.int .i64 0)).setCell ⟨w.heap.size + 1 + 1, 3, none⟩ (.int .i64 0)).setCell ⟨w.heap.size + 1 + 1, 4, none⟩ (.int .i64 0)).setCell ⟨w.heap.size + 1 + 1, 5, none⟩ (.int .i64 0)).setCell ⟨w.heap.size + 1 + 1, 6, none⟩ (.int .i64 0)).setCell ⟨w.heap.size + 1 + 1, 7, none⟩ (.int .i64 0)).setCell ⟨w.heap.size + 1 + 1, 8, none⟩ (.int .i64 0)).setCell ⟨w.heap.size + 1 + 1, 9, none⟩ (.int .i64 0)).setCell ⟨w.heap.size + 1 + 1, 10, none⟩ (.int .i64 0)).setCell ⟨w.heap.size + 1 + 1, 11, none⟩ (.int .i64 0))).cell? ⟨w.heap.size + 1 + 1, 3, none⟩ = some (.int .i64 0) := by simp [go_sem, r3]
  have QB3 := Lib.hid ((World.cell?_alloc_lt _ (.cells #[.int .i64 x6.m, .int .i64 x6.s] 23) _ (World.block_lt_of_cell? _ _ qB3)).trans qB3)
  have qB4 : (((((((((((((w8.setCell ⟨w.heap.size + 1 + 1, 0, none⟩ (.int .i64 0)).setCell ⟨w.heap.size + 1 + 1, 1, none⟩ (.int .i64 0)).setCell ⟨w.heap.size + 1 + 1, 2, none⟩ (.int .i64 0)).setCell ⟨w.heap.size + 1 + 1, 3, none⟩ (.int .i64 0)).setCell ⟨w.heap.size + 1 + 1, 4, none⟩ (.int .i64 0)).setCell ⟨w.heap.size + 1 + 1, 5, none⟩ (.int .i64 0)).setCell ⟨w.heap.size + 1 + 1, 6, none⟩ (.int .i64 0)).setCell ⟨w.heap.size + 1 + 1, 7, none⟩ (.int .i64 0)).setCell ⟨w.heap.size + 1 + 1, 8, none⟩ (.int .i64 0)).setCell ⟨w.heap.size + 1 + 1, 9, none⟩ (.int .i64 0)).setCell ⟨w.heap.size + 1 + 1, 10, none⟩ (.int .i64 0)).setCell ⟨w.heap.size + 1 + 1, 11, none⟩ (.int .i64 0))).cell? ⟨w.heap.size + 1 + 1, 4, none⟩ = some (.int .i64 0) := by simp [go_sem, r4]
  have QB4 := Lib.hid ((World.cell?_alloc_lt _ (.cells #[.int .i64 x6.m, .int .i64 x6.s] 23) _ (World.block_lt_of_cell? _ _ qB4)).trans qB4)
  have qB5 : (((((((((((((w8.setCell ⟨w.heap.size + 1 + 1, 0, none⟩ (.int .i64 0)).setCell ⟨w.heap.size + 1 + 1, 1, none⟩ (.int .i64 0)).setCell ⟨w.heap.size + 1 + 1, 2, none⟩ (.int .i64 0)).setCell ⟨w.heap.size + 1 + 1, 3, none⟩ (.int .i64 0)).setCell ⟨w.heap.size + 1 + 1, 4, none⟩ (.int .i64 0)).setCell ⟨w.heap.size + 1 + 1, 5, none⟩ (.int .i64 0)).setCell ⟨w.heap.size + 1 + 1, 6, none⟩ (.int .i64 0)).setCell ⟨w.heap.size + 1 + 1, 7, none⟩ (.int .i64 0)).setCell ⟨w.heap.size + 1 + 1, 8, none⟩ (.int .i64 0)).setCell ⟨w.heap.size + 1 + 1, 9, none⟩ (.int .i64 0)).setCell ⟨w.heap.size + 1 + 1, 10, none⟩ (.int .i64 0)).setCell ⟨w.heap.size + 1 + 1, 11, none⟩ (.int .i64 0))).cell? ⟨w.heap.size + 1 + 1, 5, none⟩ = some (.int .i64 0) := by simp [go_sem, r5]
  have QB5 := Lib.hid ((World.cell?_alloc_lt _ (.cells #[.int .i64 x6.m, .int .i64 x6.s] 23) _ (World.block_lt_of_cell? _ _ qB5)).trans qB5)
  have qB6 : (((((((((((((w8.setCell ⟨w.heap.size + 1 + 1, 0, none⟩ (.int .i64 0)).setCell ⟨w.heap.size + 1 + 1, 1, none⟩ (.int .i64 0)).setCell ⟨w.heap.size + 1 + 1, 2, none⟩ (.int .i64 0)).setCell ⟨w.heap.size + 1 + 1, 3, none⟩ (.int .i64 0)).setCell ⟨w.heap.size + 1 + 1, 4, none⟩ (.int .i64 0)).setCell ⟨w.heap.size + 1 + 1, 5, none⟩ (.int .i64 0)).setCell ⟨w.heap.size + 1 + 1, 6, none⟩ (.int .i64 0)).setCell ⟨w.heap.size + 1 + 1, 7, none⟩ (.int .i64 0)).setCell ⟨w.heap.size + 1 + 1, 8, none⟩ (.int .i64 0)).setCell ⟨w.heap.size + 1 + 1, 9, none⟩ (.int .i64 0)).setCell ⟨w.heap.size + 1 + 1, 10, none⟩ (.int .i64 0)).setCell ⟨w.heap.size + 1 + 1, 11, none⟩ (.int .i64 0))).cell? ⟨w.heap.size + 1 + 1, 6, none⟩ = some (.int .i64 0) := by simp [go_sem, r6]
  have QB6 := Lib.hid ((World.cell?_alloc_lt _ (.cells #[.int .i64 x6.m, .int .i64 x6.s] 23) _ (World.block_lt_of_cell? _ _ qB6)).trans qB6)
  have qB7 : (((((((((((((w8.setCell ⟨w.heap.size + 1 + 1, 0, none⟩ (.int .i64 0)).setCell ⟨w.heap.size + 1 + 1, 1, none⟩ (.int .i64 0)).setCell ⟨w.heap.size + 1 + 1, 2, none⟩ (.int .i64 0)).setCell ⟨w.heap.size + 1 + 1, 3, none⟩ (.int .i64 0)).setCell ⟨w.heap.size + 1 + 1, 4, none⟩ (.int .i64 0)).setCell ⟨w.heap.size + 1 + 1, 5, none⟩ (.int .i64 0)).setCell ⟨w.heap.size + 1 + 1, 6, none⟩ (.int .i64 0)).setCell ⟨w.heap.size + 1 + 1, 7, none⟩ (.int .i64 0)).setCell ⟨w.heap.size + 1 + 1, 8, none⟩ (.int .i64 0)).setCell ⟨w.heap.size + 1 + 1, 9, none⟩ (.int .i64 0)).setCell ⟨w.heap.size + 1 + 1, 10, none⟩ (.int .i64 0)).setCell ⟨w.heap.size + 1 + 1, 11, none⟩ (.int .i64 0))).cell? ⟨w.heap.size + 1 + 1, 7, none⟩ = some (.int .i64 0) := by simp [go_sem, r7]
  have QB7 := Lib.hid ((World.cell?_alloc_lt _ (.cells #[.int .i64 x6.m, .int .i64 x6.s] 23) _ (World.block_lt_of_cell? _ _ qB7)).trans qB7)
  have qB8 : (((((((((((((w8.setCell ⟨w.heap.size + 1 + 1, 0, none⟩ (.int .i64 0)).setCell ⟨w.heap.size + 1 + 1, 1, none⟩ (.int .i64 0)).setCell ⟨w.heap.size + 1 + 1, 2, none⟩ (.int .i64 0)).setCell ⟨w.heap.size + 1 + 1, 3, none⟩ (.int .i64 0)).setCell ⟨w.heap.size + 1 + 1, 4, none⟩ (.int .i64 0)).setCell ⟨w.heap.size + 1 + 1, 5, none⟩ (.int .i64 0)).setCell ⟨w.heap.size + 1 + 1, 6, none⟩ (.int .i64 0)).setCell ⟨w.heap.size + 1 + 1, 7, none⟩ (.int .i64 0)).setCell ⟨w.heap.size + 1 + 1, 8, none⟩ (.int .i64 0)).setCell ⟨w.heap.size + 1 + 1, 9, none⟩ (.int .i64 0)).setCell ⟨w.heap.size + 1 + 1, 10, none⟩ (.int .i64 0)).setCell ⟨w.heap.size + 1 + 1, 11, none⟩ (.int .i64 0))).cell? ⟨w.heap.size + 1 + 1, 8, none⟩ = some (.int .i64 0) := by simp [go_sem, r8]
  have QB8 := Lib.hid ((World.cell?_alloc_lt _ (.cells #[.int .i64 x6.m, .int .i64 x6.s] 23) _ (World.block_lt_of_cell? _ _ qB8)).trans qB8)
  have qB9 : (((((((((((((w8.setCell ⟨w.heap.size + 1 + 1, 0, none⟩ (.int .i64 0)).setCell ⟨w.heap.size + 1 + 1, 1, none⟩ (.int .i64 0)).setCell ⟨w.heap.size + 1 + 1, 2, none⟩ (.int .i64 0)).setCell ⟨w.heap.size + 1 + 1, 3, none⟩ (.int .i64 0)).setCell ⟨w.heap.size + 1 + 1, 4, none⟩ (.int .i64 0)).setCell ⟨w.heap.size + 1 + 1, 5, none⟩ (.int .i64 0)).setCell ⟨w.heap.size + 1 + 1, 6, none⟩ (.int .i64 0)).setCell ⟨w.heap.size + 1 + 1, 7, none⟩ (.int .i64 0)).setCell ⟨w.heap.size + 1 + 1, 8, none⟩ (.int .i64 0)).setCell ⟨w.heap.size + 1 + 1, 9, none⟩ (.int .i64 0)).setCell ⟨w.heap.size + 1 + 1, 10, none⟩ (.int .i64 0)).setCell ⟨w.heap.size + 1 + 1, 11, none⟩ (.int .i64 0))).cell? ⟨w.heap.size + 1 + 1, 9, none⟩ = some (.int .i64 0) := by simp [go_sem, r9]
  have QB9 := Lib.hid ((World.cell?_alloc_lt _ (.cells #[.int .i64 x6.m, .int .i64 x6.s] 23) _ (World.block_lt_of_cell? _ _ qB9)).trans qB9)
  have qB10 : (((((((((((((w8.setCell ⟨w.heap.size + 1 + 1, 0, none⟩ (.int .i64 0)).setCell ⟨w.heap.size + 1 + 1, 1, none⟩ (.int .i64 0)).setCell ⟨w.heap.size + 1 + 1, 2, none⟩ (.int .i64 0)).setCell ⟨w.heap.size + 1 + 1, 3, none⟩ (.int .i64 0)).setCell ⟨w.heap.size + 1 + 1, 4, none⟩ (.int .i64 0)).setCell ⟨w.heap.size + 1 + 1, 5, none⟩ (.int .i64 0)).setCell ⟨w.heap.size + 1 + 1, 6, none⟩ (.int .i64 0)).setCell ⟨w.heap.size + 1 + 1, 7, none⟩ (.int .i64 0)).setCell ⟨w.heap.size + 1 + 1, 8, none⟩ (.int .i64 0)).setCell ⟨w.heap.size + 1 + 1, 9, none⟩ (.int .i64 0)).setCell ⟨w.heap.size + 1 + 1, 10, none⟩ (.int .i64 0)).setCell ⟨w.heap.size + 1 + 1, 11, none⟩ (.int .i64 0))).cell? ⟨w.heap.size + 1 + 1, 10, none⟩ = some (.int .i64 0) := by simp [go_sem, r10]
  have QB10 := Lib.hid ((World.cell?_alloc_lt _ (.cells #[.int .i64 x6.m, .int .i64 x6.s] 23) _ (World.block_lt_of_cell? _ _ qB10)).trans qB10)
  have qB11 : (((((((((((((w8.setCell ⟨w.heap.size + 1 + 1, 0, none⟩ (.int .i64 0)).setCell ⟨w.heap.size + 1 + 1, 1, none⟩ (.int .i64 0)).setCell ⟨w.heap.size + 1 + 1, 2, none⟩ (.int .i64 0)).setCell ⟨w.heap.size + 1 + 1, 3, none⟩ (.int .i64 0)).setCell ⟨w.heap.size + 1 + 1, 4, none⟩ (.int .i64 0)).setCell ⟨w.heap.size + 1 + 1, 5, none⟩ (.int .i64 0)).setCell ⟨w.heap.size + 1 + 1, 6, none⟩ (.int .i64 0)).setCell ⟨w.heap.size + 1 + 1, 7, none⟩ (.int .i64 0)).setCell ⟨w.heap.size + 1 + 1, 8, none⟩ (.int .i64 0)).setCell ⟨w.heap.size + 1 + 1, 9, none⟩ (.int .i64 0)).setCell ⟨w.heap.size + 1 + 1, 10, none⟩ (.int .i64 0)).setCell ⟨w.heap.size + 1 + 1, 11, none⟩ (.int .i64 0))).cell? ⟨w.heap.size + 1 + 1, 11, none⟩ = some (.int .i64 0) := by simp [go_sem, r11]
  have QB11 := Lib.hid ((World.cell?_alloc_lt _ (.cells #[.int .i64 x6.m, .int .i64 x6.s] 23) _ (World.block_lt_of_cell? _ _ qB11)).trans qB11)
  clear fB qB0 qB1 qB2 qB3 qB4 qB5 qB6 qB7 qB8 qB9 qB10 qB11
  clear H8 K8 GM GN G1 G2 G3 G4 G5 G6 D2
  have hx := X1.out
  clear X1
  rcases hx with ⟨rfl, rfl, rfl⟩ | ⟨rfl, rfl⟩
  rotate_left
  · go_wp2_with fail
    exact bodyPost_ret (v := .tuple #[.agg #[.int .i64 0, .int .i64 0, .int .i64 0, .int .i64 0, .int .i64 0, .int .i64 0, .int .i64 0, .int .i64 0, .int .i64 0, .int .i64 0, .int .i64 0, .int .i64 0], .int .i64 5]) (by simp [results, Try.results8, go_sem, QB0.out, QB1.out, QB2.out, QB3.out, QB4.out, QB5.out, QB6.out, QB7.out, QB8.out, QB9.out, QB10.out, QB11.out]) rfl ⟨.inr ⟨by omega, rfl⟩, FB.out⟩
  have hx := X2.out
  clear X2
  rcases hx with ⟨rfl, rfl, rfl⟩ | ⟨rfl, rfl⟩
  rotate_left
  · go_wp2_with fail
    exact bodyPost_ret (v := .tuple #[.agg #[.int .i64 0, .int .i64 0, .int .i64 0, .int .i64 0, .int .i64 0, .int .i64 0, .int .i64 0, .int .i64 0, .int .i64 0, .int .i64 0, .int .i64 0, .int .i64 0], .int .i64 5]) (by simp [results, Try.results8, go_sem, QB0.out, QB1.out, QB2.out, QB3.out, QB4.out, QB5.out, QB6.out, QB7.out, QB8.out, QB9.out, QB10.out, QB11.out]) rfl ⟨.inr ⟨by omega, rfl⟩, FB.out⟩
  have hx := X3.out
  clear X3
  rcases hx with ⟨rfl, rfl, rfl⟩ | ⟨rfl, rfl⟩
  rotate_left
  · go_wp2_with fail
    exact bodyPost_ret (v := .tuple #[.agg #[.int .i64 0, .int .i64 0, .int .i64 0, .int .i64 0, .int .i64 0, .int .i64 0, .int .i64 0, .int .i64 0, .int .i64 0, .int .i64 0, .int .i64 0, .int .i64 0], .int .i64 5]) (by simp [results, Try.results8, go_sem, QB0.out, QB1.out, QB2.out, QB3.out, QB4.out, QB5.out, QB6.out, QB7.out, QB8.out, QB9.out, QB10.out, QB11.out]) rfl ⟨.inr ⟨by omega, rfl⟩, FB.out⟩
  have hx := X4.out
  clear X4
  rcases hx with ⟨rfl, rfl, rfl⟩ | ⟨rfl, rfl⟩
  rotate_left
  · go_wp2_with fail
    exact bodyPost_ret (v := .tuple #[.agg #[.int .i64 0, .int .i64 0, .int .i64 0, .int .i64 0, .int .i64 0, .int .i64 0, .int .i64 0, .int .i64 0, .int .i64 0, .int .i64 0, .int .i64 0, .int .i64 0], .int .i64 5]) (by simp [results, Try.results8, go_sem, QB0.out, QB1.out, QB2.out, QB3.out, QB4.out, QB5.out, QB6.out, QB7.out, QB8.out, QB9.out, QB10.out, QB11.out]) rfl ⟨.inr ⟨by omega, rfl⟩, FB.out⟩
  have hx := X5.out
  clear X5
  rcases hx with ⟨rfl, rfl, rfl⟩ | ⟨rfl, rfl⟩
  rotate_left
  · go_wp2_with fail
    exact bodyPost_ret (v := .tuple #[.agg #[.int .i64 0, .int .i64 0, .int .i64 0, .int .i64 0, .int .i64 0, .int .i64 0, .int .i64 0, .int .i64 0, .int .i64 0, .int .i64 0, .int .i64 0, .int .i64 0], .int .i64 5]) (by simp [results, Try.results8, go_sem, QB0.out, QB1.out, QB2.out, QB3.out, QB4.out, QB5.out, QB6.out, QB7.out, QB8.out, QB9.out, QB10.out, QB11.out]) rfl ⟨.inr ⟨by omega, rfl⟩, FB.out⟩
  have hx := X6.out
  clear X6
  rcases hx with ⟨rfl, rfl, rfl⟩ | ⟨rfl, rfl⟩
  rotate_left
  · go_wp2_with fail
    exact bodyPost_ret (v := .tuple #[.agg #[.int .i64 0, .int .i64 0, .int .i64 0, .int .i64 0, .int .i64 0, .int .i64 0, .int .i64 0, .int .i64 0, .int .i64 0, .int .i64 0, .int .i64 0, .int .i64 0], .int .i64 5]) (by simp [results, Try.results8, go_sem, QB0.out, QB1.out, QB2.out, QB3.out, QB4.out, QB5.out, QB6.out, QB7.out, QB8.out, QB9.out, QB10.out, QB11.out]) rfl ⟨.inr ⟨by omega, rfl⟩, FB.out⟩
  go_wp2_with fail
  exact bodyPost_ret (v := .tuple #[.agg #[.int .i64 q.a.m, .int .i64 q.a.s, .int .i64 q.b.m, .int .i64 q.b.s, .int .i64 q.c.m, .int .i64 q.c.s, .int .i64 q.d.m, .int .i64 q.d.s, .int .i64 q.e.m, .int .i64 q.e.s, .int .i64 q.f.m, .int .i64 q.f.s], .int .i64 0]) (by simp [results, Try.results8, go_sem, QA0.out, QA1.out, QA2.out, QA3.out, QA4.out, QA5.out, QA6.out, QA7.out, QA8.out, QA9.out, QA10.out, QA11.out]) rfl ⟨.inl ⟨rfl, rfl, rfl, rfl, rfl, rfl, rfl⟩, FA.out⟩
end Go.Proofs.Ytpdjooeogpidhaa
