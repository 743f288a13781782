/- raster: the scaler's box. -/
import Derived.Test.YtmleoagdelgddaaRasC
import Derived.Test.YtmleoagdelgddaaBoxOf
import Derived.Deep.RegionWith
namespace Go.Proofs.Ytmleoagdelgddaa
open Go.RowKit Dec

/-- A box multiplied, and its first error. -/
noncomputable def bm (b : BV) (n : Int) : BV := ⟨(tm b.x0 n).1, (tm b.y0 n).1, (tm b.x1 n).1, (tm b.y1 n).1⟩
noncomputable def be (b : BV) (n : Int) : Int := kp (kp (kp (tm b.x0 n).2 (tm b.y0 n).2) (tm b.x1 n).2) (tm b.y1 n).2
structure BxS (w v : World) (S : Nat) (e : Int) (b : BV) : Prop where
  sc : SC v S e
  box : Whole v w.heap.size 52 #[.int .i64 b.x0.m, .int .i64 b.x0.s, .int .i64 b.y0.m, .int .i64 b.y0.s, .int .i64 b.x1.m, .int .i64 b.x1.s, .int .i64 b.y1.m, .int .i64 b.y1.s]
  res : Whole v (w.heap.size + 1) 52 #[.int .i64 0, .int .i64 0, .int .i64 0, .int .i64 0, .int .i64 0, .int .i64 0, .int .i64 0, .int .i64 0]
  fr : FrS S w v
  low : S < w.heap.size
section
variable {w v v' : World} {S : Nat} {e e' : Int} {b : BV}
theorem BxS.drew (h : BxS w v S e b) : BxS w v.drew S e b := ⟨h.sc, h.box, h.res, h.fr.drewN 1, h.low⟩
theorem BxS.step (h : BxS w v S e b) (k : ScSt S e' v v') : BxS w v' S e' b :=
  ⟨k.sc, k.fr.keeps h.box (by have := h.low; omega), k.fr.keeps h.res (by have := h.low; omega), h.fr.trans k.fr, h.low⟩
theorem BxS.cells (h : BxS w v S e b) : v.cell? ⟨w.heap.size, 0, none⟩ = some (.int .i64 b.x0.m) ∧ v.cell? ⟨w.heap.size, 1, none⟩ = some (.int .i64 b.x0.s) ∧ v.cell? ⟨w.heap.size, 2, none⟩ = some (.int .i64 b.y0.m) ∧ v.cell? ⟨w.heap.size, 3, none⟩ = some (.int .i64 b.y0.s) ∧ v.cell? ⟨w.heap.size, 4, none⟩ = some (.int .i64 b.x1.m) ∧ v.cell? ⟨w.heap.size, 5, none⟩ = some (.int .i64 b.x1.s) ∧ v.cell? ⟨w.heap.size, 6, none⟩ = some (.int .i64 b.y1.m) ∧ v.cell? ⟨w.heap.size, 7, none⟩ = some (.int .i64 b.y1.s) := ⟨h.box.reads 0, h.box.reads 1, h.box.reads 2, h.box.reads 3, h.box.reads 4, h.box.reads 5, h.box.reads 6, h.box.reads 7⟩
theorem BxS.resCells (h : BxS w v S e b) : (v.cell? ⟨w.heap.size + 1, 0, none⟩ = some (.int .i64 BV.zero.x0.m) ∧ v.cell? ⟨w.heap.size + 1, 1, none⟩ = some (.int .i64 BV.zero.x0.s) ∧ v.cell? ⟨w.heap.size + 1, 2, none⟩ = some (.int .i64 BV.zero.y0.m) ∧ v.cell? ⟨w.heap.size + 1, 3, none⟩ = some (.int .i64 BV.zero.y0.s) ∧ v.cell? ⟨w.heap.size + 1, 4, none⟩ = some (.int .i64 BV.zero.x1.m) ∧ v.cell? ⟨w.heap.size + 1, 5, none⟩ = some (.int .i64 BV.zero.x1.s) ∧ v.cell? ⟨w.heap.size + 1, 6, none⟩ = some (.int .i64 BV.zero.y1.m) ∧ v.cell? ⟨w.heap.size + 1, 7, none⟩ = some (.int .i64 BV.zero.y1.s)) ∧ (∀ i, v.frozen? ⟨w.heap.size + 1, i, none⟩ = false) ∧ w.heap.size + 1 < v.heap.size := ⟨⟨h.res.reads 0, h.res.reads 1, h.res.reads 2, h.res.reads 3, h.res.reads 4, h.res.reads 5, h.res.reads 6, h.res.reads 7⟩, h.res.thawed, h.res.lt⟩
theorem BxS.cellsSet (h : BxS w v S e b) (p0 p1 p2 p3 p4 p5 p6 p7 : Value) : ((((((((v.setCell ⟨w.heap.size + 1, 0, none⟩ p0).setCell ⟨w.heap.size + 1, 1, none⟩ p1).setCell ⟨w.heap.size + 1, 2, none⟩ p2).setCell ⟨w.heap.size + 1, 3, none⟩ p3).setCell ⟨w.heap.size + 1, 4, none⟩ p4).setCell ⟨w.heap.size + 1, 5, none⟩ p5).setCell ⟨w.heap.size + 1, 6, none⟩ p6).setCell ⟨w.heap.size + 1, 7, none⟩ p7).cell? ⟨w.heap.size, 0, none⟩ = some (.int .i64 b.x0.m) ∧ ((((((((v.setCell ⟨w.heap.size + 1, 0, none⟩ p0).setCell ⟨w.heap.size + 1, 1, none⟩ p1).setCell ⟨w.heap.size + 1, 2, none⟩ p2).setCell ⟨w.heap.size + 1, 3, none⟩ p3).setCell ⟨w.heap.size + 1, 4, none⟩ p4).setCell ⟨w.heap.size + 1, 5, none⟩ p5).setCell ⟨w.heap.size + 1, 6, none⟩ p6).setCell ⟨w.heap.size + 1, 7, none⟩ p7).cell? ⟨w.heap.size, 1, none⟩ = some (.int .i64 b.x0.s) ∧ ((((((((v.setCell ⟨w.heap.size + 1, 0, none⟩ p0).setCell ⟨w.heap.size + 1, 1, none⟩ p1).setCell ⟨w.heap.size + 1, 2, none⟩ p2).setCell ⟨w.heap.size + 1, 3, none⟩ p3).setCell ⟨w.heap.size + 1, 4, none⟩ p4).setCell ⟨w.heap.size + 1, 5, none⟩ p5).setCell ⟨w.heap.size + 1, 6, none⟩ p6).setCell ⟨w.heap.size + 1, 7, none⟩ p7).cell? ⟨w.heap.size, 2, none⟩ = some (.int .i64 b.y0.m) ∧ ((((((((v.setCell ⟨w.heap.size + 1, 0, none⟩ p0).setCell ⟨w.heap.size + 1, 1, none⟩ p1).setCell ⟨w.heap.size + 1, 2, none⟩ p2).setCell ⟨w.heap.size + 1, 3, none⟩ p3).setCell ⟨w.heap.size + 1, 4, none⟩ p4).setCell ⟨w.heap.size + 1, 5, none⟩ p5).setCell ⟨w.heap.size + 1, 6, none⟩ p6).setCell ⟨w.heap.size + 1, 7, none⟩ p7).cell? ⟨w.heap.size, 3, none⟩ = some (.int .i64 b.y0.s) ∧ ((((((((v.setCell ⟨w.heap.size + 1, 0, none⟩ p0).setCell ⟨w.heap.size + 1, 1, none⟩ p1).setCell ⟨w.heap.size + 1, 2, none⟩ p2).setCell ⟨w.heap.size + 1, 3, none⟩ p3).setCell ⟨w.heap.size + 1, 4, none⟩ p4).setCell ⟨w.heap.size + 1, 5, none⟩ p5).setCell ⟨w.heap.size + 1, 6, none⟩ p6).setCell ⟨w.heap.size + 1, 7, none⟩ p7).cell? ⟨w.heap.size, 4, none⟩ = some (.int .i64 b.x1.m) ∧ ((((((((v.setCell ⟨w.heap.size + 1, 0, none⟩ p0).setCell ⟨w.heap.size + 1, 1, none⟩ p1).setCell ⟨w.heap.size + 1, 2, none⟩ p2).setCell ⟨w.heap.size + 1, 3, none⟩ p3).setCell ⟨w.heap.size + 1, 4, none⟩ p4).setCell ⟨w.heap.size + 1, 5, none⟩ p5).setCell ⟨w.heap.size + 1, 6, none⟩ p6).setCell ⟨w.heap.size + 1, 7, none⟩ p7).cell? ⟨w.heap.size, 5, none⟩ = some (.int .i64 b.x1.s) ∧ ((((((((v.setCell ⟨w.heap.size + 1, 0, none⟩ p0).setCell ⟨w.heap.size + 1, 1, none⟩ p1).setCell ⟨w.heap.size + 1, 2, none⟩ p2).setCell ⟨w.heap.size + 1, 3, none⟩ p3).setCell ⟨w.heap.size + 1, 4, none⟩ p4).setCell ⟨w.heap.size + 1, 5, none⟩ p5).setCell ⟨w.heap.size + 1, 6, none⟩ p6).setCell ⟨w.heap.size + 1, 7, none⟩ p7).cell? ⟨w.heap.size, 6, none⟩ = some (.int .i64 b.y1.m) ∧ ((((((((v.setCell ⟨w.heap.size + 1, 0, none⟩ p0).setCell ⟨w.heap.size + 1, 1, none⟩ p1).setCell ⟨w.heap.size + 1, 2, none⟩ p2).setCell ⟨w.heap.size + 1, 3, none⟩ p3).setCell ⟨w.heap.size + 1, 4, none⟩ p4).setCell ⟨w.heap.size + 1, 5, none⟩ p5).setCell ⟨w.heap.size + 1, 6, none⟩ p6).setCell ⟨w.heap.size + 1, 7, none⟩ p7).cell? ⟨w.heap.size, 7, none⟩ = some (.int .i64 b.y1.s) := by
  have hn : ∀ i, w.heap.size ≠ (⟨w.heap.size + 1, i, none⟩ : Addr).block := fun i => by show w.heap.size ≠ w.heap.size + 1; omega
  have k := (((((((h.box.away (hn 0) p0).away (hn 1) p1).away (hn 2) p2).away (hn 3) p3).away (hn 4) p4).away (hn 5) p5).away (hn 6) p6).away (hn 7) p7
  exact ⟨k.reads 0, k.reads 1, k.reads 2, k.reads 3, k.reads 4, k.reads 5, k.reads 6, k.reads 7⟩
theorem box_set {w : World} {g : Nat} {a0 a1 a2 a3 a4 a5 a6 a7 p0 p1 p2 p3 p4 p5 p6 p7 : Value} (h : Whole w g 52 #[a0, a1, a2, a3, a4, a5, a6, a7]) :
    Whole ((((((((w.setCell ⟨g, 0, none⟩ p0).setCell ⟨g, 1, none⟩ p1).setCell ⟨g, 2, none⟩ p2).setCell ⟨g, 3, none⟩ p3).setCell ⟨g, 4, none⟩ p4).setCell ⟨g, 5, none⟩ p5).setCell ⟨g, 6, none⟩ p6).setCell ⟨g, 7, none⟩ p7) g 52 #[p0, p1, p2, p3, p4, p5, p6, p7] := by
  have := (((((((h.set 0 p0).set 1 p1).set 2 p2).set 3 p3).set 4 p4).set 5 p5).set 6 p6).set 7 p7
  simpa using this
theorem ret_box {fn : Func} {a : Act} {Q : Ending → World → Prop} {W : World} {g : Nat} {r : BV} (hW : Whole W g 52 #[.int .i64 r.x0.m, .int .i64 r.x0.s, .int .i64 r.y0.m, .int .i64 r.y0.s, .int .i64 r.x1.m, .int .i64 r.x1.s, .int .i64 r.y1.m, .int .i64 r.y1.s])
    (hr : ∀ V : World, Whole V g 52 #[.int .i64 r.x0.m, .int .i64 r.x0.s, .int .i64 r.y0.m, .int .i64 r.y0.s, .int .i64 r.x1.m, .int .i64 r.x1.s, .int .i64 r.y1.m, .int .i64 r.y1.s] → (results fn a.tmps).run Try.prog V = .ok r.val V) (hd : a.defers = []) (hQ : Q (.returned r.val) W) : bodyPost Try.prog fn Q .ret a W :=
  bodyPost_ret (hr W hW) hd hQ
end
set_option maxRecDepth 100000 in
set_option maxHeartbeats 8000000 in
theorem sbox_any (S : Nat) (e : Int) (b : BV) (n : Int) (w : World) (h : SC w S e) (h0 : b.x0.Ok) (h1 : b.y0.Ok) (h2 : b.x1.Ok) (h3 : b.y1.Ok) (hn : (DV.mk n 0).Ok) :
    Calls Try.prog 39 #[.pointer (some ⟨S, 0, none⟩), b.val, .int .i64 n] w fun x w' => x = .returned (bm b n).val ∧ ScSt S (kp e (be b n)) w w' := by
  have hbe : be b n = kp (kp (kp (tm b.x0 n).2 (tm b.y0 n).2) (tm b.x1 n).2) (tm b.y1 n).2 := rfl
  have T0 := Lib.hid (fun e w hs => times_any S e b.x0 n w hs h0 hn)
  have T1 := Lib.hid (fun e w hs => times_any S e b.y0 n w hs h1 hn)
  have T2 := Lib.hid (fun e w hs => times_any S e b.x1 n w hs h2 hn)
  have T3 := Lib.hid (fun e w hs => times_any S e b.y1 n w hs h3 hn)
  have hbm : bm b n = ⟨(tm b.x0 n).1, (tm b.y0 n).1, (tm b.x1 n).1, (tm b.y1 n).1⟩ := rfl
  rw [hbe, hbm]
  clear hbe hbm h0 h1 h2 h3 hn
  obtain ⟨⟨t0, E0⟩, q0⟩ : ∃ z, tm b.x0 n = z := ⟨_, rfl⟩
  obtain ⟨⟨t1, E1⟩, q1⟩ : ∃ z, tm b.y0 n = z := ⟨_, rfl⟩
  obtain ⟨⟨t2, E2⟩, q2⟩ : ∃ z, tm b.x1 n = z := ⟨_, rfl⟩
  obtain ⟨⟨t3, E3⟩, q3⟩ : ∃ z, tm b.y1 n = z := ⟨_, rfl⟩
  rw [q0] at T0 ⊢
  rw [q1] at T1 ⊢
  rw [q2] at T2 ⊢
  rw [q3] at T3 ⊢
  clear q0 q1 q2 q3
  have HH : BxS w ((w.alloc (.cells #[.int .i64 b.x0.m, .int .i64 b.x0.s, .int .i64 b.y0.m, .int .i64 b.y0.s, .int .i64 b.x1.m, .int .i64 b.x1.s, .int .i64 b.y1.m, .int .i64 b.y1.s] 52)).alloc (.cells #[.int .i64 0, .int .i64 0, .int .i64 0, .int .i64 0, .int .i64 0, .int .i64 0, .int .i64 0, .int .i64 0] 52)) S e b := ⟨(h.old _).old _, (Whole.made w _ _).old _, by
    have := Whole.made (w.alloc (.cells #[.int .i64 b.x0.m, .int .i64 b.x0.s, .int .i64 b.y0.m, .int .i64 b.y0.s, .int .i64 b.x1.m, .int .i64 b.x1.s, .int .i64 b.y1.m, .int .i64 b.y1.s] 52)) 52 #[.int .i64 0, .int .i64 0, .int .i64 0, .int .i64 0, .int .i64 0, .int .i64 0, .int .i64 0, .int .i64 0]
    simpa only [World.size_alloc] using this, ((Fr.refl _ _).alloc _).alloc _, h.lt⟩
  have l0 := h.lt
  clear h
  unfold BV.val
  go_enter Try.func39, Try.ntmps39
  go_wp2_with fail
  generalize ((w.alloc (.cells #[.int .i64 b.x0.m, .int .i64 b.x0.s, .int .i64 b.y0.m, .int .i64 b.y0.s, .int .i64 b.x1.m, .int .i64 b.x1.s, .int .i64 b.y1.m, .int .i64 b.y1.s] 52)).alloc (.cells #[.int .i64 0, .int .i64 0, .int .i64 0, .int .i64 0, .int .i64 0, .int .i64 0, .int .i64 0, .int .i64 0] 52)) = W at *
  have lB := HH.box.lt
  go_region_held3 (fun v => v.cell? ⟨w.heap.size, 0, none⟩ = some (.int .i64 b.x0.m) ∧ v.cell? ⟨w.heap.size, 1, none⟩ = some (.int .i64 b.x0.s) ∧ v.cell? ⟨w.heap.size, 2, none⟩ = some (.int .i64 b.y0.m) ∧ v.cell? ⟨w.heap.size, 3, none⟩ = some (.int .i64 b.y0.s) ∧ v.cell? ⟨w.heap.size, 4, none⟩ = some (.int .i64 b.x1.m) ∧ v.cell? ⟨w.heap.size, 5, none⟩ = some (.int .i64 b.x1.s) ∧ v.cell? ⟨w.heap.size, 6, none⟩ = some (.int .i64 b.y1.m) ∧ v.cell? ⟨w.heap.size, 7, none⟩ = some (.int .i64 b.y1.s))
    (first | with_reducible exact BxS.cells HH | with_reducible exact BxS.cells (BxS.drew HH) | with_reducible exact BxS.cellsSet HH _ _ _ _ _ _ _ _)
    (first
      | (go_at_call 53; (with_reducible refine (T0.out _ _ (BxS.drew HH).sc).mono ?_); rintro x v ⟨rfl, kk⟩; have HH := BxS.step (BxS.drew HH) kk)
      | (go_at_call 53; (with_reducible refine (T1.out _ _ HH.sc).mono ?_); rintro x v ⟨rfl, kk⟩; have HH := BxS.step HH kk)
      | (go_at_call 53; (with_reducible refine (T2.out _ _ HH.sc).mono ?_); rintro x v ⟨rfl, kk⟩; have HH := BxS.step HH kk)
      | (go_at_call 53; (with_reducible refine (T3.out _ _ HH.sc).mono ?_); rintro x v ⟨rfl, kk⟩; have HH := BxS.step HH kk; obtain ⟨⟨z0, z1, z2, z3, z4, z5, z6, z7⟩, zf, zl⟩ := BxS.resCells HH; have f0 := zf 0; have f1 := zf 1; have f2 := zf 2; have f3 := zf 3; have f4 := zf 4; have f5 := zf 5; have f6 := zf 6; have f7 := zf 7; clear zf))
  go_wp2_with fail
  refine ret_box (r := ⟨t0, t1, t2, t3⟩) (g := w.heap.size + 1) (box_set HH.res) (fun V hV => by have rv := hV.reads; simp [results, Try.results39, go_sem, rv, BV.val]) rfl ?_
  have hs : ∀ i, S ≠ (⟨w.heap.size + 1, i, none⟩ : Addr).block := fun i => by show S ≠ w.heap.size + 1; omega
  refine ⟨rfl, ?_, ((((((((HH.fr.set (p := ⟨w.heap.size + 1, 0, none⟩) (fun h => by simp at h; omega) _).set (p := ⟨w.heap.size + 1, 1, none⟩) (fun h => by simp at h; omega) _).set (p := ⟨w.heap.size + 1, 2, none⟩) (fun h => by simp at h; omega) _).set (p := ⟨w.heap.size + 1, 3, none⟩) (fun h => by simp at h; omega) _).set (p := ⟨w.heap.size + 1, 4, none⟩) (fun h => by simp at h; omega) _).set (p := ⟨w.heap.size + 1, 5, none⟩) (fun h => by simp at h; omega) _).set (p := ⟨w.heap.size + 1, 6, none⟩) (fun h => by simp at h; omega) _).set (p := ⟨w.heap.size + 1, 7, none⟩) (fun h => by simp at h; omega) _)⟩
  rw [← kp_kp, ← kp_kp, ← kp_kp]
  exact ((((((((HH.sc.away (hs 0) _).away (hs 1) _).away (hs 2) _).away (hs 3) _).away (hs 4) _).away (hs 5) _).away (hs 6) _).away (hs 7) _)
end Go.Proofs.Ytmleoagdelgddaa
