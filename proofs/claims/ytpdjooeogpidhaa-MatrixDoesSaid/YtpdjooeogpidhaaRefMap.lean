/- The reference's Map of matrices: the walk. -/
import Derived.Test.YtpdjooeogpidhaaRefTied
import Derived.Test.YtpdjooeogpidhaaRefMat
namespace Go.Proofs.Ytpdjooeogpidhaa
open Go.RowKit Dec

/-- A matrix, a point and the answer's slot. -/
structure Mp (w W : World) (m : MV) (p : PV) : Prop where
  below : Below w.heap.size w W
  m : Whole W w.heap.size 25 #[.int .i64 m.a.m, .int .i64 m.a.s, .int .i64 m.b.m, .int .i64 m.b.s, .int .i64 m.c.m, .int .i64 m.c.s, .int .i64 m.d.m, .int .i64 m.d.s, .int .i64 m.e.m, .int .i64 m.e.s, .int .i64 m.f.m, .int .i64 m.f.s]
  p : Whole W (w.heap.size + 1) 27 #[.int .i64 p.x.m, .int .i64 p.x.s, .int .i64 p.y.m, .int .i64 p.y.s]
  r : Whole W (w.heap.size + 1 + 1) 27 #[.int .i64 0, .int .i64 0, .int .i64 0, .int .i64 0]
theorem Mp.start (w : World) (m : MV) (p : PV) : Mp w (((w.alloc (.cells #[.int .i64 m.a.m, .int .i64 m.a.s, .int .i64 m.b.m, .int .i64 m.b.s, .int .i64 m.c.m, .int .i64 m.c.s, .int .i64 m.d.m, .int .i64 m.d.s, .int .i64 m.e.m, .int .i64 m.e.s, .int .i64 m.f.m, .int .i64 m.f.s] 25)).alloc (.cells #[.int .i64 p.x.m, .int .i64 p.x.s, .int .i64 p.y.m, .int .i64 p.y.s] 27)).alloc (.cells #[.int .i64 0, .int .i64 0, .int .i64 0, .int .i64 0] 27)) m p := by
  have h1 := (Below.refl w.heap.size w).alloc (Nat.le_refl _) (.cells #[.int .i64 m.a.m, .int .i64 m.a.s, .int .i64 m.b.m, .int .i64 m.b.s, .int .i64 m.c.m, .int .i64 m.c.s, .int .i64 m.d.m, .int .i64 m.d.s, .int .i64 m.e.m, .int .i64 m.e.s, .int .i64 m.f.m, .int .i64 m.f.s] 25)
  have h2 := h1.alloc h1.size (.cells #[.int .i64 p.x.m, .int .i64 p.x.s, .int .i64 p.y.m, .int .i64 p.y.s] 27)
  have h3 := h2.alloc h2.size (.cells #[.int .i64 0, .int .i64 0, .int .i64 0, .int .i64 0] 27)
  have k1 := ((Whole.made w 25 #[.int .i64 m.a.m, .int .i64 m.a.s, .int .i64 m.b.m, .int .i64 m.b.s, .int .i64 m.c.m, .int .i64 m.c.s, .int .i64 m.d.m, .int .i64 m.d.s, .int .i64 m.e.m, .int .i64 m.e.s, .int .i64 m.f.m, .int .i64 m.f.s]).old (.cells #[.int .i64 p.x.m, .int .i64 p.x.s, .int .i64 p.y.m, .int .i64 p.y.s] 27)).old (.cells #[.int .i64 0, .int .i64 0, .int .i64 0, .int .i64 0] 27)
  have k2 := (Whole.made (w.alloc (.cells #[.int .i64 m.a.m, .int .i64 m.a.s, .int .i64 m.b.m, .int .i64 m.b.s, .int .i64 m.c.m, .int .i64 m.c.s, .int .i64 m.d.m, .int .i64 m.d.s, .int .i64 m.e.m, .int .i64 m.e.s, .int .i64 m.f.m, .int .i64 m.f.s] 25)) 27 #[.int .i64 p.x.m, .int .i64 p.x.s, .int .i64 p.y.m, .int .i64 p.y.s]).old (.cells #[.int .i64 0, .int .i64 0, .int .i64 0, .int .i64 0] 27)
  have k3 := Whole.made ((w.alloc (.cells #[.int .i64 m.a.m, .int .i64 m.a.s, .int .i64 m.b.m, .int .i64 m.b.s, .int .i64 m.c.m, .int .i64 m.c.s, .int .i64 m.d.m, .int .i64 m.d.s, .int .i64 m.e.m, .int .i64 m.e.s, .int .i64 m.f.m, .int .i64 m.f.s] 25)).alloc (.cells #[.int .i64 p.x.m, .int .i64 p.x.s, .int .i64 p.y.m, .int .i64 p.y.s] 27)) 27 #[.int .i64 0, .int .i64 0, .int .i64 0, .int .i64 0]
  exact ⟨h3, k1, by simpa using k2, by simpa using k3⟩
theorem Mp.here {w W W' : World} {m : MV} {p : PV} (h : Mp w W m p) (hb : Below W.heap.size W W') : Mp w W' m p :=
  ⟨h.below.trans (hb.mono h.below.size), h.m.here hb, h.p.here hb, h.r.here hb⟩
theorem Mp.old {w W : World} {m : MV} {p : PV} (h : Mp w W m p) (o : Obj) : Mp w (W.alloc o) m p := h.here ((Below.refl _ _).alloc (Nat.le_refl _) o)
theorem Mp.put {w W : World} {m : MV} {p : PV} (h : Mp w W m p) (a b c d : Value) : Below w.heap.size w ((((W.setCell ⟨w.heap.size + 1 + 1, 0, none⟩ a).setCell ⟨w.heap.size + 1 + 1, 1, none⟩ b).setCell ⟨w.heap.size + 1 + 1, 2, none⟩ c).setCell ⟨w.heap.size + 1 + 1, 3, none⟩ d) :=
  (((h.below.setCell (p := ⟨w.heap.size + 1 + 1, 0, none⟩) (by simp; omega) a).setCell (p := ⟨w.heap.size + 1 + 1, 1, none⟩) (by simp; omega) b).setCell (p := ⟨w.heap.size + 1 + 1, 2, none⟩) (by simp; omega) c).setCell (p := ⟨w.heap.size + 1 + 1, 3, none⟩) (by simp; omega) d
set_option maxRecDepth 100000 in
set_option maxHeartbeats 4000000 in
theorem refmap_bad1 (m : MV) (p : PV) (w : World) (h : ¬ m.Ok) :
    Calls Try.prog 6 #[.agg #[.int .i64 m.a.m, .int .i64 m.a.s, .int .i64 m.b.m, .int .i64 m.b.s, .int .i64 m.c.m, .int .i64 m.c.s, .int .i64 m.d.m, .int .i64 m.d.s, .int .i64 m.e.m, .int .i64 m.e.s, .int .i64 m.f.m, .int .i64 m.f.s], .agg #[.int .i64 p.x.m, .int .i64 p.x.s, .int .i64 p.y.m, .int .i64 p.y.s]] w fun e w' => e = .returned (.tuple #[.agg #[.int .i64 0, .int .i64 0, .int .i64 0, .int .i64 0], .int .i64 1]) ∧ Below w.heap.size w w' := by
  have G := Lib.hid h
  clear h
  have H := Lib.hid (Mp.start w m p)
  go_enter Try.func6, Try.ntmps6
  go_wp2_with fail
  refine (mright_any m _ false (decide_eq_false G.out)).mono ?_
  rintro e w1 ⟨rfl, kk⟩
  have H1 := H.out.here kk
  have r0 : w1.cell? ⟨w.heap.size + 1 + 1, 0, none⟩ = some (.int .i64 0) := H1.r.reads 0
  have r1 : w1.cell? ⟨w.heap.size + 1 + 1, 1, none⟩ = some (.int .i64 0) := H1.r.reads 1
  have r2 : w1.cell? ⟨w.heap.size + 1 + 1, 2, none⟩ = some (.int .i64 0) := H1.r.reads 2
  have r3 : w1.cell? ⟨w.heap.size + 1 + 1, 3, none⟩ = some (.int .i64 0) := H1.r.reads 3
  have z0 := H1.r.thawed 0
  have z1 := H1.r.thawed 1
  have z2 := H1.r.thawed 2
  have z3 := H1.r.thawed 3
  have lr := H1.r.lt
  have HF := Lib.hid (H1.put (.int .i64 0) (.int .i64 0) (.int .i64 0) (.int .i64 0))
  clear H1 kk H
  go_wp2_with fail
  exact bodyPost_ret (v := .tuple #[.agg #[.int .i64 0, .int .i64 0, .int .i64 0, .int .i64 0], .int .i64 1]) (by simp [results, Try.results6, go_sem, r0, r1, r2, r3]) rfl ⟨rfl, HF.out⟩
set_option maxRecDepth 100000 in
set_option maxHeartbeats 4000000 in
theorem refmap_bad2 (m : MV) (p : PV) (w : World) (h0 : m.Ok) (h : ¬ p.x.Ok) :
    Calls Try.prog 6 #[.agg #[.int .i64 m.a.m, .int .i64 m.a.s, .int .i64 m.b.m, .int .i64 m.b.s, .int .i64 m.c.m, .int .i64 m.c.s, .int .i64 m.d.m, .int .i64 m.d.s, .int .i64 m.e.m, .int .i64 m.e.s, .int .i64 m.f.m, .int .i64 m.f.s], .agg #[.int .i64 p.x.m, .int .i64 p.x.s, .int .i64 p.y.m, .int .i64 p.y.s]] w fun e w' => e = .returned (.tuple #[.agg #[.int .i64 0, .int .i64 0, .int .i64 0, .int .i64 0], .int .i64 1]) ∧ Below w.heap.size w w' := by
  have G0 := Lib.hid h0
  clear h0
  have G := Lib.hid h
  clear h
  have H := Lib.hid (Mp.start w m p)
  go_enter Try.func6, Try.ntmps6
  go_wp2_with fail
  refine (mright_any m _ true (decide_eq_true G0.out)).mono ?_
  rintro e w1 ⟨rfl, kk⟩
  have H := Lib.hid (H.out.here kk)
  clear kk
  have p0 : w1.cell? ⟨w.heap.size + 1, 0, none⟩ = some (.int .i64 p.x.m) := H.out.p.reads 0
  have p1 : w1.cell? ⟨w.heap.size + 1, 1, none⟩ = some (.int .i64 p.x.s) := H.out.p.reads 1
  have lp := H.out.p.lt
  go_wp2_with fail
  refine (right_is p.x false (decide_eq_false G.out) _).mono ?_
  rintro e w2 ⟨rfl, kk⟩
  clear p0 p1 lp
  have H2 := H.out.here kk
  have r0 : w2.cell? ⟨w.heap.size + 1 + 1, 0, none⟩ = some (.int .i64 0) := H2.r.reads 0
  have r1 : w2.cell? ⟨w.heap.size + 1 + 1, 1, none⟩ = some (.int .i64 0) := H2.r.reads 1
  have r2 : w2.cell? ⟨w.heap.size + 1 + 1, 2, none⟩ = some (.int .i64 0) := H2.r.reads 2
  have r3 : w2.cell? ⟨w.heap.size + 1 + 1, 3, none⟩ = some (.int .i64 0) := H2.r.reads 3
  have z0 := H2.r.thawed 0
  have z1 := H2.r.thawed 1
  have z2 := H2.r.thawed 2
  have z3 := H2.r.thawed 3
  have lr := H2.r.lt
  have HF := Lib.hid (H2.put (.int .i64 0) (.int .i64 0) (.int .i64 0) (.int .i64 0))
  clear H2 kk H
  go_wp2_with fail
  exact bodyPost_ret (v := .tuple #[.agg #[.int .i64 0, .int .i64 0, .int .i64 0, .int .i64 0], .int .i64 1]) (by simp [results, Try.results6, go_sem, r0, r1, r2, r3]) rfl ⟨rfl, HF.out⟩
set_option maxRecDepth 100000 in
set_option maxHeartbeats 4000000 in
theorem refmap_bad3 (m : MV) (p : PV) (w : World) (h0 : m.Ok) (h1 : p.x.Ok) (h : ¬ p.y.Ok) :
    Calls Try.prog 6 #[.agg #[.int .i64 m.a.m, .int .i64 m.a.s, .int .i64 m.b.m, .int .i64 m.b.s, .int .i64 m.c.m, .int .i64 m.c.s, .int .i64 m.d.m, .int .i64 m.d.s, .int .i64 m.e.m, .int .i64 m.e.s, .int .i64 m.f.m, .int .i64 m.f.s], .agg #[.int .i64 p.x.m, .int .i64 p.x.s, .int .i64 p.y.m, .int .i64 p.y.s]] w fun e w' => e = .returned (.tuple #[.agg #[.int .i64 0, .int .i64 0, .int .i64 0, .int .i64 0], .int .i64 1]) ∧ Below w.heap.size w w' := by
  have G0 := Lib.hid h0
  clear h0
  have G1 := Lib.hid h1
  clear h1
  have G := Lib.hid h
  clear h
  have H := Lib.hid (Mp.start w m p)
  go_enter Try.func6, Try.ntmps6
  go_wp2_with fail
  refine (mright_any m _ true (decide_eq_true G0.out)).mono ?_
  rintro e w1 ⟨rfl, kk⟩
  have H := Lib.hid (H.out.here kk)
  clear kk
  have p0 : w1.cell? ⟨w.heap.size + 1, 0, none⟩ = some (.int .i64 p.x.m) := H.out.p.reads 0
  have p1 : w1.cell? ⟨w.heap.size + 1, 1, none⟩ = some (.int .i64 p.x.s) := H.out.p.reads 1
  have lp := H.out.p.lt
  go_wp2_with fail
  refine (right_is p.x true (decide_eq_true G1.out) _).mono ?_
  rintro e w2 ⟨rfl, kk⟩
  have H := Lib.hid (H.out.here kk)
  clear kk p0 p1 lp
  have p2 : w2.cell? ⟨w.heap.size + 1, 2, none⟩ = some (.int .i64 p.y.m) := H.out.p.reads 2
  have p3 : w2.cell? ⟨w.heap.size + 1, 3, none⟩ = some (.int .i64 p.y.s) := H.out.p.reads 3
  have lp := H.out.p.lt
  go_wp2_with fail
  refine (right_is p.y false (decide_eq_false G.out) _).mono ?_
  rintro e w3 ⟨rfl, kk⟩
  clear p2 p3 lp
  have H3 := H.out.here kk
  have r0 : w3.cell? ⟨w.heap.size + 1 + 1, 0, none⟩ = some (.int .i64 0) := H3.r.reads 0
  have r1 : w3.cell? ⟨w.heap.size + 1 + 1, 1, none⟩ = some (.int .i64 0) := H3.r.reads 1
  have r2 : w3.cell? ⟨w.heap.size + 1 + 1, 2, none⟩ = some (.int .i64 0) := H3.r.reads 2
  have r3 : w3.cell? ⟨w.heap.size + 1 + 1, 3, none⟩ = some (.int .i64 0) := H3.r.reads 3
  have z0 := H3.r.thawed 0
  have z1 := H3.r.thawed 1
  have z2 := H3.r.thawed 2
  have z3 := H3.r.thawed 3
  have lr := H3.r.lt
  have HF := Lib.hid (H3.put (.int .i64 0) (.int .i64 0) (.int .i64 0) (.int .i64 0))
  clear H3 kk H
  go_wp2_with fail
  exact bodyPost_ret (v := .tuple #[.agg #[.int .i64 0, .int .i64 0, .int .i64 0, .int .i64 0], .int .i64 1]) (by simp [results, Try.results6, go_sem, r0, r1, r2, r3]) rfl ⟨rfl, HF.out⟩
theorem refmap_bad (m : MV) (p : PV) (w : World) (h : ¬ (m.Ok ∧ p.Ok)) :
    Calls Try.prog 6 #[.agg #[.int .i64 m.a.m, .int .i64 m.a.s, .int .i64 m.b.m, .int .i64 m.b.s, .int .i64 m.c.m, .int .i64 m.c.s, .int .i64 m.d.m, .int .i64 m.d.s, .int .i64 m.e.m, .int .i64 m.e.s, .int .i64 m.f.m, .int .i64 m.f.s], .agg #[.int .i64 p.x.m, .int .i64 p.x.s, .int .i64 p.y.m, .int .i64 p.y.s]] w fun e w' => e = .returned (.tuple #[.agg #[.int .i64 0, .int .i64 0, .int .i64 0, .int .i64 0], .int .i64 1]) ∧ Below w.heap.size w w' := by
  by_cases h0 : m.Ok
  · by_cases h1 : p.x.Ok
    · exact refmap_bad3 m p w h0 h1 (fun h2 => h ⟨h0, h1, h2⟩)
    · exact refmap_bad2 m p w h0 h1
  · exact refmap_bad1 m p w h0
end Go.Proofs.Ytpdjooeogpidhaa
