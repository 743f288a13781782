/- The walk of MatrixDoes. -/
import Derived.Test.YtpdjooeogpidhaaRefMatAny
import Derived.Test.YtpdjooeogpidhaaMatAwake
import Derived.Deep.RegionHeld3
namespace Go.Proofs.Ytpdjooeogpidhaa
open Go.RowKit Dec

theorem Ws.three (w : World) (m n : MV) (p : PV) : Ws w (((w.alloc (.cells #[.int .i64 m.a.m, .int .i64 m.a.s, .int .i64 m.b.m, .int .i64 m.b.s, .int .i64 m.c.m, .int .i64 m.c.s, .int .i64 m.d.m, .int .i64 m.d.s, .int .i64 m.e.m, .int .i64 m.e.s, .int .i64 m.f.m, .int .i64 m.f.s] 25)).alloc (.cells #[.int .i64 n.a.m, .int .i64 n.a.s, .int .i64 n.b.m, .int .i64 n.b.s, .int .i64 n.c.m, .int .i64 n.c.s, .int .i64 n.d.m, .int .i64 n.d.s, .int .i64 n.e.m, .int .i64 n.e.s, .int .i64 n.f.m, .int .i64 n.f.s] 25)).alloc (.cells #[.int .i64 p.x.m, .int .i64 p.x.s, .int .i64 p.y.m, .int .i64 p.y.s] 27)) [(w.heap.size + 1 + 1, 27, #[.int .i64 p.x.m, .int .i64 p.x.s, .int .i64 p.y.m, .int .i64 p.y.s]), (w.heap.size + 1, 25, #[.int .i64 n.a.m, .int .i64 n.a.s, .int .i64 n.b.m, .int .i64 n.b.s, .int .i64 n.c.m, .int .i64 n.c.s, .int .i64 n.d.m, .int .i64 n.d.s, .int .i64 n.e.m, .int .i64 n.e.s, .int .i64 n.f.m, .int .i64 n.f.s]), (w.heap.size, 25, #[.int .i64 m.a.m, .int .i64 m.a.s, .int .i64 m.b.m, .int .i64 m.b.s, .int .i64 m.c.m, .int .i64 m.c.s, .int .i64 m.d.m, .int .i64 m.d.s, .int .i64 m.e.m, .int .i64 m.e.s, .int .i64 m.f.m, .int .i64 m.f.s])] := by
  have h := (((Ws.start w).add 25 #[.int .i64 m.a.m, .int .i64 m.a.s, .int .i64 m.b.m, .int .i64 m.b.s, .int .i64 m.c.m, .int .i64 m.c.s, .int .i64 m.d.m, .int .i64 m.d.s, .int .i64 m.e.m, .int .i64 m.e.s, .int .i64 m.f.m, .int .i64 m.f.s]).add 25 #[.int .i64 n.a.m, .int .i64 n.a.s, .int .i64 n.b.m, .int .i64 n.b.s, .int .i64 n.c.m, .int .i64 n.c.s, .int .i64 n.d.m, .int .i64 n.d.s, .int .i64 n.e.m, .int .i64 n.e.s, .int .i64 n.f.m, .int .i64 n.f.s]).add 27 #[.int .i64 p.x.m, .int .i64 p.x.s, .int .i64 p.y.m, .int .i64 p.y.s]
  simp only [World.size_alloc] at h
  exact h
theorem Ws.all {w v : World} {g i1 i2 c1 c2 c3 c4 c5 c6 : Nat} {m n t s : MV} {p r : PV} (hh : Ws w v [(c6, 25, #[.int .i64 s.a.m, .int .i64 s.a.s, .int .i64 s.b.m, .int .i64 s.b.s, .int .i64 s.c.m, .int .i64 s.c.s, .int .i64 s.d.m, .int .i64 s.d.s, .int .i64 s.e.m, .int .i64 s.e.s, .int .i64 s.f.m, .int .i64 s.f.s]), (c5, 25, #[.int .i64 s.a.m, .int .i64 s.a.s, .int .i64 s.b.m, .int .i64 s.b.s, .int .i64 s.c.m, .int .i64 s.c.s, .int .i64 s.d.m, .int .i64 s.d.s, .int .i64 s.e.m, .int .i64 s.e.s, .int .i64 s.f.m, .int .i64 s.f.s]), (c4, 25, #[.int .i64 t.a.m, .int .i64 t.a.s, .int .i64 t.b.m, .int .i64 t.b.s, .int .i64 t.c.m, .int .i64 t.c.s, .int .i64 t.d.m, .int .i64 t.d.s, .int .i64 t.e.m, .int .i64 t.e.s, .int .i64 t.f.m, .int .i64 t.f.s]), (c3, 25, #[.int .i64 t.a.m, .int .i64 t.a.s, .int .i64 t.b.m, .int .i64 t.b.s, .int .i64 t.c.m, .int .i64 t.c.s, .int .i64 t.d.m, .int .i64 t.d.s, .int .i64 t.e.m, .int .i64 t.e.s, .int .i64 t.f.m, .int .i64 t.f.s]), (c2, 27, #[.int .i64 r.x.m, .int .i64 r.x.s, .int .i64 r.y.m, .int .i64 r.y.s]), (c1, 27, #[.int .i64 r.x.m, .int .i64 r.x.s, .int .i64 r.y.m, .int .i64 r.y.s]), (i2, 27, #[.int .i64 p.x.m, .int .i64 p.x.s, .int .i64 p.y.m, .int .i64 p.y.s]), (i1, 25, #[.int .i64 n.a.m, .int .i64 n.a.s, .int .i64 n.b.m, .int .i64 n.b.s, .int .i64 n.c.m, .int .i64 n.c.s, .int .i64 n.d.m, .int .i64 n.d.s, .int .i64 n.e.m, .int .i64 n.e.s, .int .i64 n.f.m, .int .i64 n.f.s]), (g, 25, #[.int .i64 m.a.m, .int .i64 m.a.s, .int .i64 m.b.m, .int .i64 m.b.s, .int .i64 m.c.m, .int .i64 m.c.s, .int .i64 m.d.m, .int .i64 m.d.s, .int .i64 m.e.m, .int .i64 m.e.s, .int .i64 m.f.m, .int .i64 m.f.s])]) :
    v.cell? ⟨g, 0, none⟩ = some (.int .i64 m.a.m) ∧ v.cell? ⟨g, 1, none⟩ = some (.int .i64 m.a.s) ∧ v.cell? ⟨g, 2, none⟩ = some (.int .i64 m.b.m) ∧ v.cell? ⟨g, 3, none⟩ = some (.int .i64 m.b.s) ∧ v.cell? ⟨g, 4, none⟩ = some (.int .i64 m.c.m) ∧ v.cell? ⟨g, 5, none⟩ = some (.int .i64 m.c.s) ∧ v.cell? ⟨g, 6, none⟩ = some (.int .i64 m.d.m) ∧ v.cell? ⟨g, 7, none⟩ = some (.int .i64 m.d.s) ∧ v.cell? ⟨g, 8, none⟩ = some (.int .i64 m.e.m) ∧ v.cell? ⟨g, 9, none⟩ = some (.int .i64 m.e.s) ∧ v.cell? ⟨g, 10, none⟩ = some (.int .i64 m.f.m) ∧ v.cell? ⟨g, 11, none⟩ = some (.int .i64 m.f.s) ∧ v.cell? ⟨c1, 0, none⟩ = some (.int .i64 r.x.m) ∧ v.cell? ⟨c1, 1, none⟩ = some (.int .i64 r.x.s) ∧ v.cell? ⟨c1, 2, none⟩ = some (.int .i64 r.y.m) ∧ v.cell? ⟨c1, 3, none⟩ = some (.int .i64 r.y.s) ∧ v.cell? ⟨c2, 0, none⟩ = some (.int .i64 r.x.m) ∧ v.cell? ⟨c2, 1, none⟩ = some (.int .i64 r.x.s) ∧ v.cell? ⟨c2, 2, none⟩ = some (.int .i64 r.y.m) ∧ v.cell? ⟨c2, 3, none⟩ = some (.int .i64 r.y.s) ∧ v.cell? ⟨c3, 0, none⟩ = some (.int .i64 t.a.m) ∧ v.cell? ⟨c3, 1, none⟩ = some (.int .i64 t.a.s) ∧ v.cell? ⟨c3, 2, none⟩ = some (.int .i64 t.b.m) ∧ v.cell? ⟨c3, 3, none⟩ = some (.int .i64 t.b.s) ∧ v.cell? ⟨c3, 4, none⟩ = some (.int .i64 t.c.m) ∧ v.cell? ⟨c3, 5, none⟩ = some (.int .i64 t.c.s) ∧ v.cell? ⟨c3, 6, none⟩ = some (.int .i64 t.d.m) ∧ v.cell? ⟨c3, 7, none⟩ = some (.int .i64 t.d.s) ∧ v.cell? ⟨c3, 8, none⟩ = some (.int .i64 t.e.m) ∧ v.cell? ⟨c3, 9, none⟩ = some (.int .i64 t.e.s) ∧ v.cell? ⟨c3, 10, none⟩ = some (.int .i64 t.f.m) ∧ v.cell? ⟨c3, 11, none⟩ = some (.int .i64 t.f.s) ∧ v.cell? ⟨c4, 0, none⟩ = some (.int .i64 t.a.m) ∧ v.cell? ⟨c4, 1, none⟩ = some (.int .i64 t.a.s) ∧ v.cell? ⟨c4, 2, none⟩ = some (.int .i64 t.b.m) ∧ v.cell? ⟨c4, 3, none⟩ = some (.int .i64 t.b.s) ∧ v.cell? ⟨c4, 4, none⟩ = some (.int .i64 t.c.m) ∧ v.cell? ⟨c4, 5, none⟩ = some (.int .i64 t.c.s) ∧ v.cell? ⟨c4, 6, none⟩ = some (.int .i64 t.d.m) ∧ v.cell? ⟨c4, 7, none⟩ = some (.int .i64 t.d.s) ∧ v.cell? ⟨c4, 8, none⟩ = some (.int .i64 t.e.m) ∧ v.cell? ⟨c4, 9, none⟩ = some (.int .i64 t.e.s) ∧ v.cell? ⟨c4, 10, none⟩ = some (.int .i64 t.f.m) ∧ v.cell? ⟨c4, 11, none⟩ = some (.int .i64 t.f.s) ∧ v.cell? ⟨c5, 0, none⟩ = some (.int .i64 s.a.m) ∧ v.cell? ⟨c5, 1, none⟩ = some (.int .i64 s.a.s) ∧ v.cell? ⟨c5, 2, none⟩ = some (.int .i64 s.b.m) ∧ v.cell? ⟨c5, 3, none⟩ = some (.int .i64 s.b.s) ∧ v.cell? ⟨c5, 4, none⟩ = some (.int .i64 s.c.m) ∧ v.cell? ⟨c5, 5, none⟩ = some (.int .i64 s.c.s) ∧ v.cell? ⟨c5, 6, none⟩ = some (.int .i64 s.d.m) ∧ v.cell? ⟨c5, 7, none⟩ = some (.int .i64 s.d.s) ∧ v.cell? ⟨c5, 8, none⟩ = some (.int .i64 s.e.m) ∧ v.cell? ⟨c5, 9, none⟩ = some (.int .i64 s.e.s) ∧ v.cell? ⟨c5, 10, none⟩ = some (.int .i64 s.f.m) ∧ v.cell? ⟨c5, 11, none⟩ = some (.int .i64 s.f.s) ∧ v.cell? ⟨c6, 0, none⟩ = some (.int .i64 s.a.m) ∧ v.cell? ⟨c6, 1, none⟩ = some (.int .i64 s.a.s) ∧ v.cell? ⟨c6, 2, none⟩ = some (.int .i64 s.b.m) ∧ v.cell? ⟨c6, 3, none⟩ = some (.int .i64 s.b.s) ∧ v.cell? ⟨c6, 4, none⟩ = some (.int .i64 s.c.m) ∧ v.cell? ⟨c6, 5, none⟩ = some (.int .i64 s.c.s) ∧ v.cell? ⟨c6, 6, none⟩ = some (.int .i64 s.d.m) ∧ v.cell? ⟨c6, 7, none⟩ = some (.int .i64 s.d.s) ∧ v.cell? ⟨c6, 8, none⟩ = some (.int .i64 s.e.m) ∧ v.cell? ⟨c6, 9, none⟩ = some (.int .i64 s.e.s) ∧ v.cell? ⟨c6, 10, none⟩ = some (.int .i64 s.f.m) ∧ v.cell? ⟨c6, 11, none⟩ = some (.int .i64 s.f.s) := by
  have e0 := hh.get (x := (g, 25, #[.int .i64 m.a.m, .int .i64 m.a.s, .int .i64 m.b.m, .int .i64 m.b.s, .int .i64 m.c.m, .int .i64 m.c.s, .int .i64 m.d.m, .int .i64 m.d.s, .int .i64 m.e.m, .int .i64 m.e.s, .int .i64 m.f.m, .int .i64 m.f.s])) (by simp)
  have e1 := hh.get (x := (c1, 27, #[.int .i64 r.x.m, .int .i64 r.x.s, .int .i64 r.y.m, .int .i64 r.y.s])) (by simp)
  have e2 := hh.get (x := (c2, 27, #[.int .i64 r.x.m, .int .i64 r.x.s, .int .i64 r.y.m, .int .i64 r.y.s])) (by simp)
  have e3 := hh.get (x := (c3, 25, #[.int .i64 t.a.m, .int .i64 t.a.s, .int .i64 t.b.m, .int .i64 t.b.s, .int .i64 t.c.m, .int .i64 t.c.s, .int .i64 t.d.m, .int .i64 t.d.s, .int .i64 t.e.m, .int .i64 t.e.s, .int .i64 t.f.m, .int .i64 t.f.s])) (by simp)
  have e4 := hh.get (x := (c4, 25, #[.int .i64 t.a.m, .int .i64 t.a.s, .int .i64 t.b.m, .int .i64 t.b.s, .int .i64 t.c.m, .int .i64 t.c.s, .int .i64 t.d.m, .int .i64 t.d.s, .int .i64 t.e.m, .int .i64 t.e.s, .int .i64 t.f.m, .int .i64 t.f.s])) (by simp)
  have e5 := hh.get (x := (c5, 25, #[.int .i64 s.a.m, .int .i64 s.a.s, .int .i64 s.b.m, .int .i64 s.b.s, .int .i64 s.c.m, .int .i64 s.c.s, .int .i64 s.d.m, .int .i64 s.d.s, .int .i64 s.e.m, .int .i64 s.e.s, .int .i64 s.f.m, .int .i64 s.f.s])) (by simp)
  have e6 := hh.get (x := (c6, 25, #[.int .i64 s.a.m, .int .i64 s.a.s, .int .i64 s.b.m, .int .i64 s.b.s, .int .i64 s.c.m, .int .i64 s.c.s, .int .i64 s.d.m, .int .i64 s.d.s, .int .i64 s.e.m, .int .i64 s.e.s, .int .i64 s.f.m, .int .i64 s.f.s])) (by simp)
  exact ⟨e0.reads 0, e0.reads 1, e0.reads 2, e0.reads 3, e0.reads 4, e0.reads 5, e0.reads 6, e0.reads 7, e0.reads 8, e0.reads 9, e0.reads 10, e0.reads 11, e1.reads 0, e1.reads 1, e1.reads 2, e1.reads 3, e2.reads 0, e2.reads 1, e2.reads 2, e2.reads 3, e3.reads 0, e3.reads 1, e3.reads 2, e3.reads 3, e3.reads 4, e3.reads 5, e3.reads 6, e3.reads 7, e3.reads 8, e3.reads 9, e3.reads 10, e3.reads 11, e4.reads 0, e4.reads 1, e4.reads 2, e4.reads 3, e4.reads 4, e4.reads 5, e4.reads 6, e4.reads 7, e4.reads 8, e4.reads 9, e4.reads 10, e4.reads 11, e5.reads 0, e5.reads 1, e5.reads 2, e5.reads 3, e5.reads 4, e5.reads 5, e5.reads 6, e5.reads 7, e5.reads 8, e5.reads 9, e5.reads 10, e5.reads 11, e6.reads 0, e6.reads 1, e6.reads 2, e6.reads 3, e6.reads 4, e6.reads 5, e6.reads 6, e6.reads 7, e6.reads 8, e6.reads 9, e6.reads 10, e6.reads 11⟩
set_option maxRecDepth 100000 in
set_option maxHeartbeats 8000000 in
theorem mdoes_any (m n : MV) (p : PV) (w : World) :
    Calls Try.prog 3 #[m.val, n.val, p.val] w fun e w' => e = .returned (.bool true) ∧ Below w.heap.size w w' := by
  obtain ⟨r, E1, h1⟩ := MapIs.total m p
  obtain ⟨t, E2, h2⟩ := ThenIs.total m n
  obtain ⟨s, E3, h3⟩ := StepIs.total p.x p.y
  have G1 := Lib.hid h1
  have G2 := Lib.hid h2
  have G3 := Lib.hid h3
  clear h1 h2 h3
  have H0 := Lib.hid (Ws.three w m n p)
  go_enter Try.func3, Try.ntmps3
  go_wp2_with fail
  refine (map_any m p r E1 _ G1.out).mono ?_
  rintro e w1 ⟨rfl, hb⟩
  have H1 := Lib.hid (((H0.out).here hb).add 27 #[.int .i64 r.x.m, .int .i64 r.x.s, .int .i64 r.y.m, .int .i64 r.y.s])
  have K1 := Lib.hid ((H0.out).here hb)
  clear hb H0 
  have qm := K1.out.get (x := (w.heap.size, 25, #[.int .i64 m.a.m, .int .i64 m.a.s, .int .i64 m.b.m, .int .i64 m.b.s, .int .i64 m.c.m, .int .i64 m.c.s, .int .i64 m.d.m, .int .i64 m.d.s, .int .i64 m.e.m, .int .i64 m.e.s, .int .i64 m.f.m, .int .i64 m.f.s])) (by simp)
  have m0 : w1.cell? ⟨w.heap.size, 0, none⟩ = some (.int .i64 m.a.m) := qm.reads 0
  have m1 : w1.cell? ⟨w.heap.size, 1, none⟩ = some (.int .i64 m.a.s) := qm.reads 1
  have m2 : w1.cell? ⟨w.heap.size, 2, none⟩ = some (.int .i64 m.b.m) := qm.reads 2
  have m3 : w1.cell? ⟨w.heap.size, 3, none⟩ = some (.int .i64 m.b.s) := qm.reads 3
  have m4 : w1.cell? ⟨w.heap.size, 4, none⟩ = some (.int .i64 m.c.m) := qm.reads 4
  have m5 : w1.cell? ⟨w.heap.size, 5, none⟩ = some (.int .i64 m.c.s) := qm.reads 5
  have m6 : w1.cell? ⟨w.heap.size, 6, none⟩ = some (.int .i64 m.d.m) := qm.reads 6
  have m7 : w1.cell? ⟨w.heap.size, 7, none⟩ = some (.int .i64 m.d.s) := qm.reads 7
  have m8 : w1.cell? ⟨w.heap.size, 8, none⟩ = some (.int .i64 m.e.m) := qm.reads 8
  have m9 : w1.cell? ⟨w.heap.size, 9, none⟩ = some (.int .i64 m.e.s) := qm.reads 9
  have m10 : w1.cell? ⟨w.heap.size, 10, none⟩ = some (.int .i64 m.f.m) := qm.reads 10
  have m11 : w1.cell? ⟨w.heap.size, 11, none⟩ = some (.int .i64 m.f.s) := qm.reads 11
  have lm := qm.lt
  clear qm
  have qp := K1.out.get (x := (w.heap.size + 1 + 1, 27, #[.int .i64 p.x.m, .int .i64 p.x.s, .int .i64 p.y.m, .int .i64 p.y.s])) (by simp)
  have p0 : w1.cell? ⟨w.heap.size + 1 + 1, 0, none⟩ = some (.int .i64 p.x.m) := qp.reads 0
  have p1 : w1.cell? ⟨w.heap.size + 1 + 1, 1, none⟩ = some (.int .i64 p.x.s) := qp.reads 1
  have p2 : w1.cell? ⟨w.heap.size + 1 + 1, 2, none⟩ = some (.int .i64 p.y.m) := qp.reads 2
  have p3 : w1.cell? ⟨w.heap.size + 1 + 1, 3, none⟩ = some (.int .i64 p.y.s) := qp.reads 3
  have lp := qp.lt
  clear qp
  clear K1
  go_wp2_with fail
  refine (refmap_any m p r E1 _ G1.out).mono ?_
  rintro e w2 ⟨rfl, hb⟩
  have H2 := Lib.hid (((H1.out).here hb).add 27 #[.int .i64 r.x.m, .int .i64 r.x.s, .int .i64 r.y.m, .int .i64 r.y.s])
  have K2 := Lib.hid ((H1.out).here hb)
  clear hb H1 m0 m1 m2 m3 m4 m5 m6 m7 m8 m9 m10 m11 lm p0 p1 p2 p3 lp
  have qm := K2.out.get (x := (w.heap.size, 25, #[.int .i64 m.a.m, .int .i64 m.a.s, .int .i64 m.b.m, .int .i64 m.b.s, .int .i64 m.c.m, .int .i64 m.c.s, .int .i64 m.d.m, .int .i64 m.d.s, .int .i64 m.e.m, .int .i64 m.e.s, .int .i64 m.f.m, .int .i64 m.f.s])) (by simp)
  have m0 : w2.cell? ⟨w.heap.size, 0, none⟩ = some (.int .i64 m.a.m) := qm.reads 0
  have m1 : w2.cell? ⟨w.heap.size, 1, none⟩ = some (.int .i64 m.a.s) := qm.reads 1
  have m2 : w2.cell? ⟨w.heap.size, 2, none⟩ = some (.int .i64 m.b.m) := qm.reads 2
  have m3 : w2.cell? ⟨w.heap.size, 3, none⟩ = some (.int .i64 m.b.s) := qm.reads 3
  have m4 : w2.cell? ⟨w.heap.size, 4, none⟩ = some (.int .i64 m.c.m) := qm.reads 4
  have m5 : w2.cell? ⟨w.heap.size, 5, none⟩ = some (.int .i64 m.c.s) := qm.reads 5
  have m6 : w2.cell? ⟨w.heap.size, 6, none⟩ = some (.int .i64 m.d.m) := qm.reads 6
  have m7 : w2.cell? ⟨w.heap.size, 7, none⟩ = some (.int .i64 m.d.s) := qm.reads 7
  have m8 : w2.cell? ⟨w.heap.size, 8, none⟩ = some (.int .i64 m.e.m) := qm.reads 8
  have m9 : w2.cell? ⟨w.heap.size, 9, none⟩ = some (.int .i64 m.e.s) := qm.reads 9
  have m10 : w2.cell? ⟨w.heap.size, 10, none⟩ = some (.int .i64 m.f.m) := qm.reads 10
  have m11 : w2.cell? ⟨w.heap.size, 11, none⟩ = some (.int .i64 m.f.s) := qm.reads 11
  have lm := qm.lt
  clear qm
  have qn := K2.out.get (x := (w.heap.size + 1, 25, #[.int .i64 n.a.m, .int .i64 n.a.s, .int .i64 n.b.m, .int .i64 n.b.s, .int .i64 n.c.m, .int .i64 n.c.s, .int .i64 n.d.m, .int .i64 n.d.s, .int .i64 n.e.m, .int .i64 n.e.s, .int .i64 n.f.m, .int .i64 n.f.s])) (by simp)
  have n0 : w2.cell? ⟨w.heap.size + 1, 0, none⟩ = some (.int .i64 n.a.m) := qn.reads 0
  have n1 : w2.cell? ⟨w.heap.size + 1, 1, none⟩ = some (.int .i64 n.a.s) := qn.reads 1
  have n2 : w2.cell? ⟨w.heap.size + 1, 2, none⟩ = some (.int .i64 n.b.m) := qn.reads 2
  have n3 : w2.cell? ⟨w.heap.size + 1, 3, none⟩ = some (.int .i64 n.b.s) := qn.reads 3
  have n4 : w2.cell? ⟨w.heap.size + 1, 4, none⟩ = some (.int .i64 n.c.m) := qn.reads 4
  have n5 : w2.cell? ⟨w.heap.size + 1, 5, none⟩ = some (.int .i64 n.c.s) := qn.reads 5
  have n6 : w2.cell? ⟨w.heap.size + 1, 6, none⟩ = some (.int .i64 n.d.m) := qn.reads 6
  have n7 : w2.cell? ⟨w.heap.size + 1, 7, none⟩ = some (.int .i64 n.d.s) := qn.reads 7
  have n8 : w2.cell? ⟨w.heap.size + 1, 8, none⟩ = some (.int .i64 n.e.m) := qn.reads 8
  have n9 : w2.cell? ⟨w.heap.size + 1, 9, none⟩ = some (.int .i64 n.e.s) := qn.reads 9
  have n10 : w2.cell? ⟨w.heap.size + 1, 10, none⟩ = some (.int .i64 n.f.m) := qn.reads 10
  have n11 : w2.cell? ⟨w.heap.size + 1, 11, none⟩ = some (.int .i64 n.f.s) := qn.reads 11
  have ln := qn.lt
  clear qn
  clear K2
  go_wp2_with fail
  refine (then_any m n t E2 _ G2.out).mono ?_
  rintro e w3 ⟨rfl, hb⟩
  have H3 := Lib.hid (((H2.out).here hb).add 25 #[.int .i64 t.a.m, .int .i64 t.a.s, .int .i64 t.b.m, .int .i64 t.b.s, .int .i64 t.c.m, .int .i64 t.c.s, .int .i64 t.d.m, .int .i64 t.d.s, .int .i64 t.e.m, .int .i64 t.e.s, .int .i64 t.f.m, .int .i64 t.f.s])
  have K3 := Lib.hid ((H2.out).here hb)
  clear hb H2 m0 m1 m2 m3 m4 m5 m6 m7 m8 m9 m10 m11 lm n0 n1 n2 n3 n4 n5 n6 n7 n8 n9 n10 n11 ln
  have qm := K3.out.get (x := (w.heap.size, 25, #[.int .i64 m.a.m, .int .i64 m.a.s, .int .i64 m.b.m, .int .i64 m.b.s, .int .i64 m.c.m, .int .i64 m.c.s, .int .i64 m.d.m, .int .i64 m.d.s, .int .i64 m.e.m, .int .i64 m.e.s, .int .i64 m.f.m, .int .i64 m.f.s])) (by simp)
  have m0 : w3.cell? ⟨w.heap.size, 0, none⟩ = some (.int .i64 m.a.m) := qm.reads 0
  have m1 : w3.cell? ⟨w.heap.size, 1, none⟩ = some (.int .i64 m.a.s) := qm.reads 1
  have m2 : w3.cell? ⟨w.heap.size, 2, none⟩ = some (.int .i64 m.b.m) := qm.reads 2
  have m3 : w3.cell? ⟨w.heap.size, 3, none⟩ = some (.int .i64 m.b.s) := qm.reads 3
  have m4 : w3.cell? ⟨w.heap.size, 4, none⟩ = some (.int .i64 m.c.m) := qm.reads 4
  have m5 : w3.cell? ⟨w.heap.size, 5, none⟩ = some (.int .i64 m.c.s) := qm.reads 5
  have m6 : w3.cell? ⟨w.heap.size, 6, none⟩ = some (.int .i64 m.d.m) := qm.reads 6
  have m7 : w3.cell? ⟨w.heap.size, 7, none⟩ = some (.int .i64 m.d.s) := qm.reads 7
  have m8 : w3.cell? ⟨w.heap.size, 8, none⟩ = some (.int .i64 m.e.m) := qm.reads 8
  have m9 : w3.cell? ⟨w.heap.size, 9, none⟩ = some (.int .i64 m.e.s) := qm.reads 9
  have m10 : w3.cell? ⟨w.heap.size, 10, none⟩ = some (.int .i64 m.f.m) := qm.reads 10
  have m11 : w3.cell? ⟨w.heap.size, 11, none⟩ = some (.int .i64 m.f.s) := qm.reads 11
  have lm := qm.lt
  clear qm
  have qn := K3.out.get (x := (w.heap.size + 1, 25, #[.int .i64 n.a.m, .int .i64 n.a.s, .int .i64 n.b.m, .int .i64 n.b.s, .int .i64 n.c.m, .int .i64 n.c.s, .int .i64 n.d.m, .int .i64 n.d.s, .int .i64 n.e.m, .int .i64 n.e.s, .int .i64 n.f.m, .int .i64 n.f.s])) (by simp)
  have n0 : w3.cell? ⟨w.heap.size + 1, 0, none⟩ = some (.int .i64 n.a.m) := qn.reads 0
  have n1 : w3.cell? ⟨w.heap.size + 1, 1, none⟩ = some (.int .i64 n.a.s) := qn.reads 1
  have n2 : w3.cell? ⟨w.heap.size + 1, 2, none⟩ = some (.int .i64 n.b.m) := qn.reads 2
  have n3 : w3.cell? ⟨w.heap.size + 1, 3, none⟩ = some (.int .i64 n.b.s) := qn.reads 3
  have n4 : w3.cell? ⟨w.heap.size + 1, 4, none⟩ = some (.int .i64 n.c.m) := qn.reads 4
  have n5 : w3.cell? ⟨w.heap.size + 1, 5, none⟩ = some (.int .i64 n.c.s) := qn.reads 5
  have n6 : w3.cell? ⟨w.heap.size + 1, 6, none⟩ = some (.int .i64 n.d.m) := qn.reads 6
  have n7 : w3.cell? ⟨w.heap.size + 1, 7, none⟩ = some (.int .i64 n.d.s) := qn.reads 7
  have n8 : w3.cell? ⟨w.heap.size + 1, 8, none⟩ = some (.int .i64 n.e.m) := qn.reads 8
  have n9 : w3.cell? ⟨w.heap.size + 1, 9, none⟩ = some (.int .i64 n.e.s) := qn.reads 9
  have n10 : w3.cell? ⟨w.heap.size + 1, 10, none⟩ = some (.int .i64 n.f.m) := qn.reads 10
  have n11 : w3.cell? ⟨w.heap.size + 1, 11, none⟩ = some (.int .i64 n.f.s) := qn.reads 11
  have ln := qn.lt
  clear qn
  clear K3
  go_wp2_with fail
  refine (refthen_any m n t E2 _ G2.out).mono ?_
  rintro e w4 ⟨rfl, hb⟩
  have H4 := Lib.hid (((H3.out).here hb).add 25 #[.int .i64 t.a.m, .int .i64 t.a.s, .int .i64 t.b.m, .int .i64 t.b.s, .int .i64 t.c.m, .int .i64 t.c.s, .int .i64 t.d.m, .int .i64 t.d.s, .int .i64 t.e.m, .int .i64 t.e.s, .int .i64 t.f.m, .int .i64 t.f.s])
  have K4 := Lib.hid ((H3.out).here hb)
  clear hb H3 m0 m1 m2 m3 m4 m5 m6 m7 m8 m9 m10 m11 lm n0 n1 n2 n3 n4 n5 n6 n7 n8 n9 n10 n11 ln
  have qp := K4.out.get (x := (w.heap.size + 1 + 1, 27, #[.int .i64 p.x.m, .int .i64 p.x.s, .int .i64 p.y.m, .int .i64 p.y.s])) (by simp)
  have p0 : w4.cell? ⟨w.heap.size + 1 + 1, 0, none⟩ = some (.int .i64 p.x.m) := qp.reads 0
  have p1 : w4.cell? ⟨w.heap.size + 1 + 1, 1, none⟩ = some (.int .i64 p.x.s) := qp.reads 1
  have p2 : w4.cell? ⟨w.heap.size + 1 + 1, 2, none⟩ = some (.int .i64 p.y.m) := qp.reads 2
  have p3 : w4.cell? ⟨w.heap.size + 1 + 1, 3, none⟩ = some (.int .i64 p.y.s) := qp.reads 3
  have lp := qp.lt
  clear qp
  clear K4
  go_wp2_with fail
  refine (step_any p.x p.y s E3 _ G3.out).mono ?_
  rintro e w5 ⟨rfl, hb⟩
  have H5 := Lib.hid (((H4.out).here hb).add 25 #[.int .i64 s.a.m, .int .i64 s.a.s, .int .i64 s.b.m, .int .i64 s.b.s, .int .i64 s.c.m, .int .i64 s.c.s, .int .i64 s.d.m, .int .i64 s.d.s, .int .i64 s.e.m, .int .i64 s.e.s, .int .i64 s.f.m, .int .i64 s.f.s])
  have K5 := Lib.hid ((H4.out).here hb)
  clear hb H4 p0 p1 p2 p3 lp
  have qp := K5.out.get (x := (w.heap.size + 1 + 1, 27, #[.int .i64 p.x.m, .int .i64 p.x.s, .int .i64 p.y.m, .int .i64 p.y.s])) (by simp)
  have p0 : w5.cell? ⟨w.heap.size + 1 + 1, 0, none⟩ = some (.int .i64 p.x.m) := qp.reads 0
  have p1 : w5.cell? ⟨w.heap.size + 1 + 1, 1, none⟩ = some (.int .i64 p.x.s) := qp.reads 1
  have p2 : w5.cell? ⟨w.heap.size + 1 + 1, 2, none⟩ = some (.int .i64 p.y.m) := qp.reads 2
  have p3 : w5.cell? ⟨w.heap.size + 1 + 1, 3, none⟩ = some (.int .i64 p.y.s) := qp.reads 3
  have lp := qp.lt
  clear qp
  clear K5
  go_wp2_with fail
  refine (refstep_any p.x p.y s E3 _ G3.out).mono ?_
  rintro e w6 ⟨rfl, hb⟩
  have H6 := Lib.hid (((H5.out).here hb).add 25 #[.int .i64 s.a.m, .int .i64 s.a.s, .int .i64 s.b.m, .int .i64 s.b.s, .int .i64 s.c.m, .int .i64 s.c.s, .int .i64 s.d.m, .int .i64 s.d.s, .int .i64 s.e.m, .int .i64 s.e.s, .int .i64 s.f.m, .int .i64 s.f.s])
  have K6 := Lib.hid ((H5.out).here hb)
  clear hb H5 p0 p1 p2 p3 lp
  clear K6
  go_wp2_with fail
  have HH := H6.out
  clear H6
  generalize w6.alloc (.cells #[.int .i64 s.a.m, .int .i64 s.a.s, .int .i64 s.b.m, .int .i64 s.b.s, .int .i64 s.c.m, .int .i64 s.c.s, .int .i64 s.d.m, .int .i64 s.d.s, .int .i64 s.e.m, .int .i64 s.e.s, .int .i64 s.f.m, .int .i64 s.f.s] 25) = W at *
  go_region_held3 (fun v => v.cell? ⟨w.heap.size, 0, none⟩ = some (.int .i64 m.a.m) ∧ v.cell? ⟨w.heap.size, 1, none⟩ = some (.int .i64 m.a.s) ∧ v.cell? ⟨w.heap.size, 2, none⟩ = some (.int .i64 m.b.m) ∧ v.cell? ⟨w.heap.size, 3, none⟩ = some (.int .i64 m.b.s) ∧ v.cell? ⟨w.heap.size, 4, none⟩ = some (.int .i64 m.c.m) ∧ v.cell? ⟨w.heap.size, 5, none⟩ = some (.int .i64 m.c.s) ∧ v.cell? ⟨w.heap.size, 6, none⟩ = some (.int .i64 m.d.m) ∧ v.cell? ⟨w.heap.size, 7, none⟩ = some (.int .i64 m.d.s) ∧ v.cell? ⟨w.heap.size, 8, none⟩ = some (.int .i64 m.e.m) ∧ v.cell? ⟨w.heap.size, 9, none⟩ = some (.int .i64 m.e.s) ∧ v.cell? ⟨w.heap.size, 10, none⟩ = some (.int .i64 m.f.m) ∧ v.cell? ⟨w.heap.size, 11, none⟩ = some (.int .i64 m.f.s) ∧ v.cell? ⟨w1.heap.size, 0, none⟩ = some (.int .i64 r.x.m) ∧ v.cell? ⟨w1.heap.size, 1, none⟩ = some (.int .i64 r.x.s) ∧ v.cell? ⟨w1.heap.size, 2, none⟩ = some (.int .i64 r.y.m) ∧ v.cell? ⟨w1.heap.size, 3, none⟩ = some (.int .i64 r.y.s) ∧ v.cell? ⟨w2.heap.size, 0, none⟩ = some (.int .i64 r.x.m) ∧ v.cell? ⟨w2.heap.size, 1, none⟩ = some (.int .i64 r.x.s) ∧ v.cell? ⟨w2.heap.size, 2, none⟩ = some (.int .i64 r.y.m) ∧ v.cell? ⟨w2.heap.size, 3, none⟩ = some (.int .i64 r.y.s) ∧ v.cell? ⟨w3.heap.size, 0, none⟩ = some (.int .i64 t.a.m) ∧ v.cell? ⟨w3.heap.size, 1, none⟩ = some (.int .i64 t.a.s) ∧ v.cell? ⟨w3.heap.size, 2, none⟩ = some (.int .i64 t.b.m) ∧ v.cell? ⟨w3.heap.size, 3, none⟩ = some (.int .i64 t.b.s) ∧ v.cell? ⟨w3.heap.size, 4, none⟩ = some (.int .i64 t.c.m) ∧ v.cell? ⟨w3.heap.size, 5, none⟩ = some (.int .i64 t.c.s) ∧ v.cell? ⟨w3.heap.size, 6, none⟩ = some (.int .i64 t.d.m) ∧ v.cell? ⟨w3.heap.size, 7, none⟩ = some (.int .i64 t.d.s) ∧ v.cell? ⟨w3.heap.size, 8, none⟩ = some (.int .i64 t.e.m) ∧ v.cell? ⟨w3.heap.size, 9, none⟩ = some (.int .i64 t.e.s) ∧ v.cell? ⟨w3.heap.size, 10, none⟩ = some (.int .i64 t.f.m) ∧ v.cell? ⟨w3.heap.size, 11, none⟩ = some (.int .i64 t.f.s) ∧ v.cell? ⟨w4.heap.size, 0, none⟩ = some (.int .i64 t.a.m) ∧ v.cell? ⟨w4.heap.size, 1, none⟩ = some (.int .i64 t.a.s) ∧ v.cell? ⟨w4.heap.size, 2, none⟩ = some (.int .i64 t.b.m) ∧ v.cell? ⟨w4.heap.size, 3, none⟩ = some (.int .i64 t.b.s) ∧ v.cell? ⟨w4.heap.size, 4, none⟩ = some (.int .i64 t.c.m) ∧ v.cell? ⟨w4.heap.size, 5, none⟩ = some (.int .i64 t.c.s) ∧ v.cell? ⟨w4.heap.size, 6, none⟩ = some (.int .i64 t.d.m) ∧ v.cell? ⟨w4.heap.size, 7, none⟩ = some (.int .i64 t.d.s) ∧ v.cell? ⟨w4.heap.size, 8, none⟩ = some (.int .i64 t.e.m) ∧ v.cell? ⟨w4.heap.size, 9, none⟩ = some (.int .i64 t.e.s) ∧ v.cell? ⟨w4.heap.size, 10, none⟩ = some (.int .i64 t.f.m) ∧ v.cell? ⟨w4.heap.size, 11, none⟩ = some (.int .i64 t.f.s) ∧ v.cell? ⟨w5.heap.size, 0, none⟩ = some (.int .i64 s.a.m) ∧ v.cell? ⟨w5.heap.size, 1, none⟩ = some (.int .i64 s.a.s) ∧ v.cell? ⟨w5.heap.size, 2, none⟩ = some (.int .i64 s.b.m) ∧ v.cell? ⟨w5.heap.size, 3, none⟩ = some (.int .i64 s.b.s) ∧ v.cell? ⟨w5.heap.size, 4, none⟩ = some (.int .i64 s.c.m) ∧ v.cell? ⟨w5.heap.size, 5, none⟩ = some (.int .i64 s.c.s) ∧ v.cell? ⟨w5.heap.size, 6, none⟩ = some (.int .i64 s.d.m) ∧ v.cell? ⟨w5.heap.size, 7, none⟩ = some (.int .i64 s.d.s) ∧ v.cell? ⟨w5.heap.size, 8, none⟩ = some (.int .i64 s.e.m) ∧ v.cell? ⟨w5.heap.size, 9, none⟩ = some (.int .i64 s.e.s) ∧ v.cell? ⟨w5.heap.size, 10, none⟩ = some (.int .i64 s.f.m) ∧ v.cell? ⟨w5.heap.size, 11, none⟩ = some (.int .i64 s.f.s) ∧ v.cell? ⟨w6.heap.size, 0, none⟩ = some (.int .i64 s.a.m) ∧ v.cell? ⟨w6.heap.size, 1, none⟩ = some (.int .i64 s.a.s) ∧ v.cell? ⟨w6.heap.size, 2, none⟩ = some (.int .i64 s.b.m) ∧ v.cell? ⟨w6.heap.size, 3, none⟩ = some (.int .i64 s.b.s) ∧ v.cell? ⟨w6.heap.size, 4, none⟩ = some (.int .i64 s.c.m) ∧ v.cell? ⟨w6.heap.size, 5, none⟩ = some (.int .i64 s.c.s) ∧ v.cell? ⟨w6.heap.size, 6, none⟩ = some (.int .i64 s.d.m) ∧ v.cell? ⟨w6.heap.size, 7, none⟩ = some (.int .i64 s.d.s) ∧ v.cell? ⟨w6.heap.size, 8, none⟩ = some (.int .i64 s.e.m) ∧ v.cell? ⟨w6.heap.size, 9, none⟩ = some (.int .i64 s.e.s) ∧ v.cell? ⟨w6.heap.size, 10, none⟩ = some (.int .i64 s.f.m) ∧ v.cell? ⟨w6.heap.size, 11, none⟩ = some (.int .i64 s.f.s))
    (first | with_reducible exact Ws.all HH | with_reducible exact Ws.all (Ws.drew HH))
    (first
      | (go_at_call 11; refine (mawake_any _).mono ?_; rintro e v ⟨rfl, kk⟩; (first | (with_reducible have HH := Ws.here (Ws.drew HH) kk) | (with_reducible have HH := Ws.here HH kk)))
      | (go_at_call 12; (with_reducible refine (mcheck_said m _).mono ?_); rintro e v ⟨EC, hEC, rfl, kk⟩; (first | (with_reducible have HH := Ws.here (Ws.drew HH) kk) | (with_reducible have HH := Ws.here HH kk)))
      | (go_at_call 13; (with_reducible refine (mright_any m _ (decide m.Ok) rfl).mono ?_); rintro e v ⟨rfl, kk⟩; (first | (with_reducible have HH := Ws.here (Ws.drew HH) kk) | (with_reducible have HH := Ws.here HH kk)))
      | (go_at_call 14; refine (one_any _).mono ?_; rintro e v ⟨rfl, kk⟩; (first | (with_reducible have HH := Ws.here (Ws.drew HH) kk) | (with_reducible have HH := Ws.here HH kk)))
      | (go_at_call 15; refine (refone_any _).mono ?_; rintro e v ⟨rfl, kk⟩; (first | (with_reducible have HH := Ws.here (Ws.drew HH) kk) | (with_reducible have HH := Ws.here HH kk))))
  all_goals
    go_wp2_with fail
    go_ret
    first | exact ⟨rfl, HH.1⟩ | exact ⟨rfl, HH.1.drew⟩
end Go.Proofs.Ytpdjooeogpidhaa
