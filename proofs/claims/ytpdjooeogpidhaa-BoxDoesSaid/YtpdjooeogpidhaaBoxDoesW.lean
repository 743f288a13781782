/- The walk of BoxDoes. -/
import Derived.Test.YtpdjooeogpidhaaBoxPts
import Derived.Deep.RegionHeld3
import Derived.BigRegion
namespace Go.Proofs.Ytpdjooeogpidhaa
open Go.RowKit Dec

theorem Ws.abm (w : World) (a b : BV) (m : MV) : Ws w (((w.alloc (.cells #[.int .i64 a.x0.m, .int .i64 a.x0.s, .int .i64 a.y0.m, .int .i64 a.y0.s, .int .i64 a.x1.m, .int .i64 a.x1.s, .int .i64 a.y1.m, .int .i64 a.y1.s] 40)).alloc (.cells #[.int .i64 b.x0.m, .int .i64 b.x0.s, .int .i64 b.y0.m, .int .i64 b.y0.s, .int .i64 b.x1.m, .int .i64 b.x1.s, .int .i64 b.y1.m, .int .i64 b.y1.s] 40)).alloc (.cells #[.int .i64 m.a.m, .int .i64 m.a.s, .int .i64 m.b.m, .int .i64 m.b.s, .int .i64 m.c.m, .int .i64 m.c.s, .int .i64 m.d.m, .int .i64 m.d.s, .int .i64 m.e.m, .int .i64 m.e.s, .int .i64 m.f.m, .int .i64 m.f.s] 25)) [(w.heap.size + 1 + 1, 25, #[.int .i64 m.a.m, .int .i64 m.a.s, .int .i64 m.b.m, .int .i64 m.b.s, .int .i64 m.c.m, .int .i64 m.c.s, .int .i64 m.d.m, .int .i64 m.d.s, .int .i64 m.e.m, .int .i64 m.e.s, .int .i64 m.f.m, .int .i64 m.f.s]), (w.heap.size + 1, 40, #[.int .i64 b.x0.m, .int .i64 b.x0.s, .int .i64 b.y0.m, .int .i64 b.y0.s, .int .i64 b.x1.m, .int .i64 b.x1.s, .int .i64 b.y1.m, .int .i64 b.y1.s]), (w.heap.size, 40, #[.int .i64 a.x0.m, .int .i64 a.x0.s, .int .i64 a.y0.m, .int .i64 a.y0.s, .int .i64 a.x1.m, .int .i64 a.x1.s, .int .i64 a.y1.m, .int .i64 a.y1.s])] := by
  have h := (((Ws.start w).add 40 #[.int .i64 a.x0.m, .int .i64 a.x0.s, .int .i64 a.y0.m, .int .i64 a.y0.s, .int .i64 a.x1.m, .int .i64 a.x1.s, .int .i64 a.y1.m, .int .i64 a.y1.s]).add 40 #[.int .i64 b.x0.m, .int .i64 b.x0.s, .int .i64 b.y0.m, .int .i64 b.y0.s, .int .i64 b.x1.m, .int .i64 b.x1.s, .int .i64 b.y1.m, .int .i64 b.y1.s]).add 25 #[.int .i64 m.a.m, .int .i64 m.a.s, .int .i64 m.b.m, .int .i64 m.b.s, .int .i64 m.c.m, .int .i64 m.c.s, .int .i64 m.d.m, .int .i64 m.d.s, .int .i64 m.e.m, .int .i64 m.e.s, .int .i64 m.f.m, .int .i64 m.f.s]
  simp only [World.size_alloc] at h
  exact h
theorem Ws.allB {w v : World} {g i1 i2 c1 c2 c3 c4 c5 c6 : Nat} {m : MV} {a b r1 r3 r4 : BV} (hh : Ws w v [(c6, 40, #[.int .i64 r4.x0.m, .int .i64 r4.x0.s, .int .i64 r4.y0.m, .int .i64 r4.y0.s, .int .i64 r4.x1.m, .int .i64 r4.x1.s, .int .i64 r4.y1.m, .int .i64 r4.y1.s]), (c5, 40, #[.int .i64 r4.x0.m, .int .i64 r4.x0.s, .int .i64 r4.y0.m, .int .i64 r4.y0.s, .int .i64 r4.x1.m, .int .i64 r4.x1.s, .int .i64 r4.y1.m, .int .i64 r4.y1.s]), (c4, 40, #[.int .i64 r3.x0.m, .int .i64 r3.x0.s, .int .i64 r3.y0.m, .int .i64 r3.y0.s, .int .i64 r3.x1.m, .int .i64 r3.x1.s, .int .i64 r3.y1.m, .int .i64 r3.y1.s]), (c3, 40, #[.int .i64 r3.x0.m, .int .i64 r3.x0.s, .int .i64 r3.y0.m, .int .i64 r3.y0.s, .int .i64 r3.x1.m, .int .i64 r3.x1.s, .int .i64 r3.y1.m, .int .i64 r3.y1.s]), (c2, 40, #[.int .i64 r1.x0.m, .int .i64 r1.x0.s, .int .i64 r1.y0.m, .int .i64 r1.y0.s, .int .i64 r1.x1.m, .int .i64 r1.x1.s, .int .i64 r1.y1.m, .int .i64 r1.y1.s]), (c1, 40, #[.int .i64 r1.x0.m, .int .i64 r1.x0.s, .int .i64 r1.y0.m, .int .i64 r1.y0.s, .int .i64 r1.x1.m, .int .i64 r1.x1.s, .int .i64 r1.y1.m, .int .i64 r1.y1.s]), (i2, 25, #[.int .i64 m.a.m, .int .i64 m.a.s, .int .i64 m.b.m, .int .i64 m.b.s, .int .i64 m.c.m, .int .i64 m.c.s, .int .i64 m.d.m, .int .i64 m.d.s, .int .i64 m.e.m, .int .i64 m.e.s, .int .i64 m.f.m, .int .i64 m.f.s]), (i1, 40, #[.int .i64 b.x0.m, .int .i64 b.x0.s, .int .i64 b.y0.m, .int .i64 b.y0.s, .int .i64 b.x1.m, .int .i64 b.x1.s, .int .i64 b.y1.m, .int .i64 b.y1.s]), (g, 40, #[.int .i64 a.x0.m, .int .i64 a.x0.s, .int .i64 a.y0.m, .int .i64 a.y0.s, .int .i64 a.x1.m, .int .i64 a.x1.s, .int .i64 a.y1.m, .int .i64 a.y1.s])]) :
    v.cell? ⟨g, 0, none⟩ = some (.int .i64 a.x0.m) ∧ v.cell? ⟨g, 1, none⟩ = some (.int .i64 a.x0.s) ∧ v.cell? ⟨g, 2, none⟩ = some (.int .i64 a.y0.m) ∧ v.cell? ⟨g, 3, none⟩ = some (.int .i64 a.y0.s) ∧ v.cell? ⟨g, 4, none⟩ = some (.int .i64 a.x1.m) ∧ v.cell? ⟨g, 5, none⟩ = some (.int .i64 a.x1.s) ∧ v.cell? ⟨g, 6, none⟩ = some (.int .i64 a.y1.m) ∧ v.cell? ⟨g, 7, none⟩ = some (.int .i64 a.y1.s) ∧ v.cell? ⟨c1, 0, none⟩ = some (.int .i64 r1.x0.m) ∧ v.cell? ⟨c1, 1, none⟩ = some (.int .i64 r1.x0.s) ∧ v.cell? ⟨c1, 2, none⟩ = some (.int .i64 r1.y0.m) ∧ v.cell? ⟨c1, 3, none⟩ = some (.int .i64 r1.y0.s) ∧ v.cell? ⟨c1, 4, none⟩ = some (.int .i64 r1.x1.m) ∧ v.cell? ⟨c1, 5, none⟩ = some (.int .i64 r1.x1.s) ∧ v.cell? ⟨c1, 6, none⟩ = some (.int .i64 r1.y1.m) ∧ v.cell? ⟨c1, 7, none⟩ = some (.int .i64 r1.y1.s) ∧ v.cell? ⟨c2, 0, none⟩ = some (.int .i64 r1.x0.m) ∧ v.cell? ⟨c2, 1, none⟩ = some (.int .i64 r1.x0.s) ∧ v.cell? ⟨c2, 2, none⟩ = some (.int .i64 r1.y0.m) ∧ v.cell? ⟨c2, 3, none⟩ = some (.int .i64 r1.y0.s) ∧ v.cell? ⟨c2, 4, none⟩ = some (.int .i64 r1.x1.m) ∧ v.cell? ⟨c2, 5, none⟩ = some (.int .i64 r1.x1.s) ∧ v.cell? ⟨c2, 6, none⟩ = some (.int .i64 r1.y1.m) ∧ v.cell? ⟨c2, 7, none⟩ = some (.int .i64 r1.y1.s) ∧ v.cell? ⟨c3, 0, none⟩ = some (.int .i64 r3.x0.m) ∧ v.cell? ⟨c3, 1, none⟩ = some (.int .i64 r3.x0.s) ∧ v.cell? ⟨c3, 2, none⟩ = some (.int .i64 r3.y0.m) ∧ v.cell? ⟨c3, 3, none⟩ = some (.int .i64 r3.y0.s) ∧ v.cell? ⟨c3, 4, none⟩ = some (.int .i64 r3.x1.m) ∧ v.cell? ⟨c3, 5, none⟩ = some (.int .i64 r3.x1.s) ∧ v.cell? ⟨c3, 6, none⟩ = some (.int .i64 r3.y1.m) ∧ v.cell? ⟨c3, 7, none⟩ = some (.int .i64 r3.y1.s) ∧ v.cell? ⟨c4, 0, none⟩ = some (.int .i64 r3.x0.m) ∧ v.cell? ⟨c4, 1, none⟩ = some (.int .i64 r3.x0.s) ∧ v.cell? ⟨c4, 2, none⟩ = some (.int .i64 r3.y0.m) ∧ v.cell? ⟨c4, 3, none⟩ = some (.int .i64 r3.y0.s) ∧ v.cell? ⟨c4, 4, none⟩ = some (.int .i64 r3.x1.m) ∧ v.cell? ⟨c4, 5, none⟩ = some (.int .i64 r3.x1.s) ∧ v.cell? ⟨c4, 6, none⟩ = some (.int .i64 r3.y1.m) ∧ v.cell? ⟨c4, 7, none⟩ = some (.int .i64 r3.y1.s) ∧ v.cell? ⟨c5, 0, none⟩ = some (.int .i64 r4.x0.m) ∧ v.cell? ⟨c5, 1, none⟩ = some (.int .i64 r4.x0.s) ∧ v.cell? ⟨c5, 2, none⟩ = some (.int .i64 r4.y0.m) ∧ v.cell? ⟨c5, 3, none⟩ = some (.int .i64 r4.y0.s) ∧ v.cell? ⟨c5, 4, none⟩ = some (.int .i64 r4.x1.m) ∧ v.cell? ⟨c5, 5, none⟩ = some (.int .i64 r4.x1.s) ∧ v.cell? ⟨c5, 6, none⟩ = some (.int .i64 r4.y1.m) ∧ v.cell? ⟨c5, 7, none⟩ = some (.int .i64 r4.y1.s) ∧ v.cell? ⟨c6, 0, none⟩ = some (.int .i64 r4.x0.m) ∧ v.cell? ⟨c6, 1, none⟩ = some (.int .i64 r4.x0.s) ∧ v.cell? ⟨c6, 2, none⟩ = some (.int .i64 r4.y0.m) ∧ v.cell? ⟨c6, 3, none⟩ = some (.int .i64 r4.y0.s) ∧ v.cell? ⟨c6, 4, none⟩ = some (.int .i64 r4.x1.m) ∧ v.cell? ⟨c6, 5, none⟩ = some (.int .i64 r4.x1.s) ∧ v.cell? ⟨c6, 6, none⟩ = some (.int .i64 r4.y1.m) ∧ v.cell? ⟨c6, 7, none⟩ = some (.int .i64 r4.y1.s) := by
  have e0 := hh.get (x := (g, 40, #[.int .i64 a.x0.m, .int .i64 a.x0.s, .int .i64 a.y0.m, .int .i64 a.y0.s, .int .i64 a.x1.m, .int .i64 a.x1.s, .int .i64 a.y1.m, .int .i64 a.y1.s])) (by simp)
  have e1 := hh.get (x := (c1, 40, #[.int .i64 r1.x0.m, .int .i64 r1.x0.s, .int .i64 r1.y0.m, .int .i64 r1.y0.s, .int .i64 r1.x1.m, .int .i64 r1.x1.s, .int .i64 r1.y1.m, .int .i64 r1.y1.s])) (by simp)
  have e2 := hh.get (x := (c2, 40, #[.int .i64 r1.x0.m, .int .i64 r1.x0.s, .int .i64 r1.y0.m, .int .i64 r1.y0.s, .int .i64 r1.x1.m, .int .i64 r1.x1.s, .int .i64 r1.y1.m, .int .i64 r1.y1.s])) (by simp)
  have e3 := hh.get (x := (c3, 40, #[.int .i64 r3.x0.m, .int .i64 r3.x0.s, .int .i64 r3.y0.m, .int .i64 r3.y0.s, .int .i64 r3.x1.m, .int .i64 r3.x1.s, .int .i64 r3.y1.m, .int .i64 r3.y1.s])) (by simp)
  have e4 := hh.get (x := (c4, 40, #[.int .i64 r3.x0.m, .int .i64 r3.x0.s, .int .i64 r3.y0.m, .int .i64 r3.y0.s, .int .i64 r3.x1.m, .int .i64 r3.x1.s, .int .i64 r3.y1.m, .int .i64 r3.y1.s])) (by simp)
  have e5 := hh.get (x := (c5, 40, #[.int .i64 r4.x0.m, .int .i64 r4.x0.s, .int .i64 r4.y0.m, .int .i64 r4.y0.s, .int .i64 r4.x1.m, .int .i64 r4.x1.s, .int .i64 r4.y1.m, .int .i64 r4.y1.s])) (by simp)
  have e6 := hh.get (x := (c6, 40, #[.int .i64 r4.x0.m, .int .i64 r4.x0.s, .int .i64 r4.y0.m, .int .i64 r4.y0.s, .int .i64 r4.x1.m, .int .i64 r4.x1.s, .int .i64 r4.y1.m, .int .i64 r4.y1.s])) (by simp)
  exact ⟨e0.reads 0, e0.reads 1, e0.reads 2, e0.reads 3, e0.reads 4, e0.reads 5, e0.reads 6, e0.reads 7, e1.reads 0, e1.reads 1, e1.reads 2, e1.reads 3, e1.reads 4, e1.reads 5, e1.reads 6, e1.reads 7, e2.reads 0, e2.reads 1, e2.reads 2, e2.reads 3, e2.reads 4, e2.reads 5, e2.reads 6, e2.reads 7, e3.reads 0, e3.reads 1, e3.reads 2, e3.reads 3, e3.reads 4, e3.reads 5, e3.reads 6, e3.reads 7, e4.reads 0, e4.reads 1, e4.reads 2, e4.reads 3, e4.reads 4, e4.reads 5, e4.reads 6, e4.reads 7, e5.reads 0, e5.reads 1, e5.reads 2, e5.reads 3, e5.reads 4, e5.reads 5, e5.reads 6, e5.reads 7, e6.reads 0, e6.reads 1, e6.reads 2, e6.reads 3, e6.reads 4, e6.reads 5, e6.reads 6, e6.reads 7⟩
set_option maxRecDepth 100000 in
set_option maxHeartbeats 16000000 in
theorem bdoes_any (a b : BV) (m : MV) (A : Option Addr) (n c : Nat) (F : Nat → PV) (w : World) (hA : PtsAt w A n F) (hz : A = none → n = 0 ∧ c = 0) :
    Calls Try.prog 4 #[a.val, b.val, m.val, .slice A n c] w fun e w' => e = .returned (.bool true) ∧ Below w.heap.size w w' := by
  by_cases h100 : 100 < n
  · have d1 : decide (100 < (n : Int)) = true := by simp; omega
    go_enter Try.func4, Try.ntmps4
    go_wp2_with fail
    go_ret
    exact ⟨rfl, by (repeat (first | with_reducible exact Below.refl _ _ | with_reducible refine Below.drew ?_ | with_reducible refine bdrewN ?_ _ | (with_reducible refine Below.setCell ?_ ?_ _; rotate_left; focus (first | exact Nat.le_refl _ | omega | (simp; omega) | (simp; done))) | (with_reducible refine Below.alloc ?_ ?_ _; rotate_left; focus (first | exact Nat.le_refl _ | omega | (simp; omega) | (simp; done))) | (with_reducible refine Below.trans ?_ (Below.mono (by assumption) ?_); rotate_left; focus (first | exact Nat.le_refl _ | omega | (simp; omega) | (simp; done)))))⟩
  have d1 : decide (100 < (n : Int)) = false := by simp; omega
  have hn : n ≤ 100 := by omega
  obtain ⟨r1, E1, h1⟩ := OfIs.total F n
  obtain ⟨r2, E2, h2⟩ := MeetIs.total a b
  obtain ⟨r3, E3, h3⟩ := BothIs.total a b
  obtain ⟨r4, E4, h4⟩ := BMapIs.total m a
  have G1 := Lib.hid h1
  have G2 := Lib.hid h2
  have G3 := Lib.hid h3
  have G4 := Lib.hid h4
  have HA := Lib.hid hA
  have HZ := Lib.hid hz
  clear h1 h2 h3 h4 hA hz h100
  have H0 := Lib.hid (Ws.abm w a b m)
  go_enter Try.func4, Try.ntmps4
  go_wp2_with (refine wpList_app_pts (o := ⟨some 32, _, _, _, _, _⟩) rfl (.tmp 30) (.tmp 31) rfl (w.heap.size + 1 + 1 + 1) n c A F ?z1 ?z2 ?z3 ?z4 HZ.out hn ?z5)
  case z1 => rfl
  case z2 => have := Whole.made (((w.alloc (.cells #[.int .i64 a.x0.m, .int .i64 a.x0.s, .int .i64 a.y0.m, .int .i64 a.y0.s, .int .i64 a.x1.m, .int .i64 a.x1.s, .int .i64 a.y1.m, .int .i64 a.y1.s] 40)).alloc (.cells #[.int .i64 b.x0.m, .int .i64 b.x0.s, .int .i64 b.y0.m, .int .i64 b.y0.s, .int .i64 b.x1.m, .int .i64 b.x1.s, .int .i64 b.y1.m, .int .i64 b.y1.s] 40)).alloc (.cells #[.int .i64 m.a.m, .int .i64 m.a.s, .int .i64 m.b.m, .int .i64 m.b.s, .int .i64 m.c.m, .int .i64 m.c.s, .int .i64 m.d.m, .int .i64 m.d.s, .int .i64 m.e.m, .int .i64 m.e.s, .int .i64 m.f.m, .int .i64 m.f.s] 25)) 27 #[]; simpa using this
  case z3 => rfl
  case z4 => exact HA.out.later (((H0.out).1.alloc H0.out.1.size (.cells #[] 27)))
  case z5 =>
  intro A' c' w0 hOwn hb
  have HO := Lib.hid hOwn
  have hb2 : Below (((w.alloc (.cells #[.int .i64 a.x0.m, .int .i64 a.x0.s, .int .i64 a.y0.m, .int .i64 a.y0.s, .int .i64 a.x1.m, .int .i64 a.x1.s, .int .i64 a.y1.m, .int .i64 a.y1.s] 40)).alloc (.cells #[.int .i64 b.x0.m, .int .i64 b.x0.s, .int .i64 b.y0.m, .int .i64 b.y0.s, .int .i64 b.x1.m, .int .i64 b.x1.s, .int .i64 b.y1.m, .int .i64 b.y1.s] 40)).alloc (.cells #[.int .i64 m.a.m, .int .i64 m.a.s, .int .i64 m.b.m, .int .i64 m.b.s, .int .i64 m.c.m, .int .i64 m.c.s, .int .i64 m.d.m, .int .i64 m.d.s, .int .i64 m.e.m, .int .i64 m.e.s, .int .i64 m.f.m, .int .i64 m.f.s] 25)).heap.size (((w.alloc (.cells #[.int .i64 a.x0.m, .int .i64 a.x0.s, .int .i64 a.y0.m, .int .i64 a.y0.s, .int .i64 a.x1.m, .int .i64 a.x1.s, .int .i64 a.y1.m, .int .i64 a.y1.s] 40)).alloc (.cells #[.int .i64 b.x0.m, .int .i64 b.x0.s, .int .i64 b.y0.m, .int .i64 b.y0.s, .int .i64 b.x1.m, .int .i64 b.x1.s, .int .i64 b.y1.m, .int .i64 b.y1.s] 40)).alloc (.cells #[.int .i64 m.a.m, .int .i64 m.a.s, .int .i64 m.b.m, .int .i64 m.b.s, .int .i64 m.c.m, .int .i64 m.c.s, .int .i64 m.d.m, .int .i64 m.d.s, .int .i64 m.e.m, .int .i64 m.e.s, .int .i64 m.f.m, .int .i64 m.f.s] 25)) w0 := ((Below.refl _ _).alloc (Nat.le_refl _) (.cells #[] 27)).trans (by simpa using hb)
  have HW := Lib.hid (H0.out.here hb2)
  clear hOwn hb hb2 H0
  have H0 := HW
  clear HW
  go_wp2_with fail
  refine (ofall_any A' n c' F _ r1 E1 hn HO.out G1.out).mono ?_
  rintro e w1 ⟨rfl, hb⟩
  have H1 := Lib.hid (((H0.out).here hb).add 40 #[.int .i64 r1.x0.m, .int .i64 r1.x0.s, .int .i64 r1.y0.m, .int .i64 r1.y0.s, .int .i64 r1.x1.m, .int .i64 r1.x1.s, .int .i64 r1.y1.m, .int .i64 r1.y1.s])
  have K1 := Lib.hid ((H0.out).here hb)
  have HO1 := Lib.hid ((HO.out.later hb).later ((Below.refl _ _).alloc (Nat.le_refl _) (.cells #[.int .i64 r1.x0.m, .int .i64 r1.x0.s, .int .i64 r1.y0.m, .int .i64 r1.y0.s, .int .i64 r1.x1.m, .int .i64 r1.x1.s, .int .i64 r1.y1.m, .int .i64 r1.y1.s] 40)))
  clear HO
  clear hb H0 
  clear K1
  go_wp2_with fail
  refine (refofall_any A n c F _ r1 E1 hn (HA.out.later H1.out.1) G1.out).mono ?_
  rintro e w2 ⟨rfl, hb⟩
  have H2 := Lib.hid (((H1.out).here hb).add 40 #[.int .i64 r1.x0.m, .int .i64 r1.x0.s, .int .i64 r1.y0.m, .int .i64 r1.y0.s, .int .i64 r1.x1.m, .int .i64 r1.x1.s, .int .i64 r1.y1.m, .int .i64 r1.y1.s])
  have K2 := Lib.hid ((H1.out).here hb)
  have HO2 := Lib.hid ((HO1.out.later hb).later ((Below.refl _ _).alloc (Nat.le_refl _) (.cells #[.int .i64 r1.x0.m, .int .i64 r1.x0.s, .int .i64 r1.y0.m, .int .i64 r1.y0.s, .int .i64 r1.x1.m, .int .i64 r1.x1.s, .int .i64 r1.y1.m, .int .i64 r1.y1.s] 40)))
  clear HO1
  clear hb H1 
  have qa := K2.out.get (x := (w.heap.size, 40, #[.int .i64 a.x0.m, .int .i64 a.x0.s, .int .i64 a.y0.m, .int .i64 a.y0.s, .int .i64 a.x1.m, .int .i64 a.x1.s, .int .i64 a.y1.m, .int .i64 a.y1.s])) (by simp)
  have a0 : w2.cell? ⟨w.heap.size, 0, none⟩ = some (.int .i64 a.x0.m) := qa.reads 0
  have a1 : w2.cell? ⟨w.heap.size, 1, none⟩ = some (.int .i64 a.x0.s) := qa.reads 1
  have a2 : w2.cell? ⟨w.heap.size, 2, none⟩ = some (.int .i64 a.y0.m) := qa.reads 2
  have a3 : w2.cell? ⟨w.heap.size, 3, none⟩ = some (.int .i64 a.y0.s) := qa.reads 3
  have a4 : w2.cell? ⟨w.heap.size, 4, none⟩ = some (.int .i64 a.x1.m) := qa.reads 4
  have a5 : w2.cell? ⟨w.heap.size, 5, none⟩ = some (.int .i64 a.x1.s) := qa.reads 5
  have a6 : w2.cell? ⟨w.heap.size, 6, none⟩ = some (.int .i64 a.y1.m) := qa.reads 6
  have a7 : w2.cell? ⟨w.heap.size, 7, none⟩ = some (.int .i64 a.y1.s) := qa.reads 7
  have la := qa.lt
  clear qa
  have qb := K2.out.get (x := (w.heap.size + 1, 40, #[.int .i64 b.x0.m, .int .i64 b.x0.s, .int .i64 b.y0.m, .int .i64 b.y0.s, .int .i64 b.x1.m, .int .i64 b.x1.s, .int .i64 b.y1.m, .int .i64 b.y1.s])) (by simp)
  have b0 : w2.cell? ⟨w.heap.size + 1, 0, none⟩ = some (.int .i64 b.x0.m) := qb.reads 0
  have b1 : w2.cell? ⟨w.heap.size + 1, 1, none⟩ = some (.int .i64 b.x0.s) := qb.reads 1
  have b2 : w2.cell? ⟨w.heap.size + 1, 2, none⟩ = some (.int .i64 b.y0.m) := qb.reads 2
  have b3 : w2.cell? ⟨w.heap.size + 1, 3, none⟩ = some (.int .i64 b.y0.s) := qb.reads 3
  have b4 : w2.cell? ⟨w.heap.size + 1, 4, none⟩ = some (.int .i64 b.x1.m) := qb.reads 4
  have b5 : w2.cell? ⟨w.heap.size + 1, 5, none⟩ = some (.int .i64 b.x1.s) := qb.reads 5
  have b6 : w2.cell? ⟨w.heap.size + 1, 6, none⟩ = some (.int .i64 b.y1.m) := qb.reads 6
  have b7 : w2.cell? ⟨w.heap.size + 1, 7, none⟩ = some (.int .i64 b.y1.s) := qb.reads 7
  have lb := qb.lt
  clear qb
  clear K2
  go_wp2_with fail
  refine (meets_any a b _ r2 E2 G2.out).mono ?_
  rintro e w3 ⟨rfl, hb⟩
  have H3 := Lib.hid ((H2.out).here hb)
  have K3 := Lib.hid ((H2.out).here hb)
  have HO3 := Lib.hid (HO2.out.later hb)
  clear HO2
  clear hb H2 a0 a1 a2 a3 a4 a5 a6 a7 la b0 b1 b2 b3 b4 b5 b6 b7 lb
  have qa := K3.out.get (x := (w.heap.size, 40, #[.int .i64 a.x0.m, .int .i64 a.x0.s, .int .i64 a.y0.m, .int .i64 a.y0.s, .int .i64 a.x1.m, .int .i64 a.x1.s, .int .i64 a.y1.m, .int .i64 a.y1.s])) (by simp)
  have a0 : w3.cell? ⟨w.heap.size, 0, none⟩ = some (.int .i64 a.x0.m) := qa.reads 0
  have a1 : w3.cell? ⟨w.heap.size, 1, none⟩ = some (.int .i64 a.x0.s) := qa.reads 1
  have a2 : w3.cell? ⟨w.heap.size, 2, none⟩ = some (.int .i64 a.y0.m) := qa.reads 2
  have a3 : w3.cell? ⟨w.heap.size, 3, none⟩ = some (.int .i64 a.y0.s) := qa.reads 3
  have a4 : w3.cell? ⟨w.heap.size, 4, none⟩ = some (.int .i64 a.x1.m) := qa.reads 4
  have a5 : w3.cell? ⟨w.heap.size, 5, none⟩ = some (.int .i64 a.x1.s) := qa.reads 5
  have a6 : w3.cell? ⟨w.heap.size, 6, none⟩ = some (.int .i64 a.y1.m) := qa.reads 6
  have a7 : w3.cell? ⟨w.heap.size, 7, none⟩ = some (.int .i64 a.y1.s) := qa.reads 7
  have la := qa.lt
  clear qa
  have qb := K3.out.get (x := (w.heap.size + 1, 40, #[.int .i64 b.x0.m, .int .i64 b.x0.s, .int .i64 b.y0.m, .int .i64 b.y0.s, .int .i64 b.x1.m, .int .i64 b.x1.s, .int .i64 b.y1.m, .int .i64 b.y1.s])) (by simp)
  have b0 : w3.cell? ⟨w.heap.size + 1, 0, none⟩ = some (.int .i64 b.x0.m) := qb.reads 0
  have b1 : w3.cell? ⟨w.heap.size + 1, 1, none⟩ = some (.int .i64 b.x0.s) := qb.reads 1
  have b2 : w3.cell? ⟨w.heap.size + 1, 2, none⟩ = some (.int .i64 b.y0.m) := qb.reads 2
  have b3 : w3.cell? ⟨w.heap.size + 1, 3, none⟩ = some (.int .i64 b.y0.s) := qb.reads 3
  have b4 : w3.cell? ⟨w.heap.size + 1, 4, none⟩ = some (.int .i64 b.x1.m) := qb.reads 4
  have b5 : w3.cell? ⟨w.heap.size + 1, 5, none⟩ = some (.int .i64 b.x1.s) := qb.reads 5
  have b6 : w3.cell? ⟨w.heap.size + 1, 6, none⟩ = some (.int .i64 b.y1.m) := qb.reads 6
  have b7 : w3.cell? ⟨w.heap.size + 1, 7, none⟩ = some (.int .i64 b.y1.s) := qb.reads 7
  have lb := qb.lt
  clear qb
  clear K3
  go_wp2_with fail
  refine (refmeets_any a b _ r2 E2 G2.out).mono ?_
  rintro e w4 ⟨rfl, hb⟩
  have H4 := Lib.hid ((H3.out).here hb)
  have K4 := Lib.hid ((H3.out).here hb)
  have HO4 := Lib.hid (HO3.out.later hb)
  clear HO3
  clear hb H3 a0 a1 a2 a3 a4 a5 a6 a7 la b0 b1 b2 b3 b4 b5 b6 b7 lb
  have qa := K4.out.get (x := (w.heap.size, 40, #[.int .i64 a.x0.m, .int .i64 a.x0.s, .int .i64 a.y0.m, .int .i64 a.y0.s, .int .i64 a.x1.m, .int .i64 a.x1.s, .int .i64 a.y1.m, .int .i64 a.y1.s])) (by simp)
  have a0 : w4.cell? ⟨w.heap.size, 0, none⟩ = some (.int .i64 a.x0.m) := qa.reads 0
  have a1 : w4.cell? ⟨w.heap.size, 1, none⟩ = some (.int .i64 a.x0.s) := qa.reads 1
  have a2 : w4.cell? ⟨w.heap.size, 2, none⟩ = some (.int .i64 a.y0.m) := qa.reads 2
  have a3 : w4.cell? ⟨w.heap.size, 3, none⟩ = some (.int .i64 a.y0.s) := qa.reads 3
  have a4 : w4.cell? ⟨w.heap.size, 4, none⟩ = some (.int .i64 a.x1.m) := qa.reads 4
  have a5 : w4.cell? ⟨w.heap.size, 5, none⟩ = some (.int .i64 a.x1.s) := qa.reads 5
  have a6 : w4.cell? ⟨w.heap.size, 6, none⟩ = some (.int .i64 a.y1.m) := qa.reads 6
  have a7 : w4.cell? ⟨w.heap.size, 7, none⟩ = some (.int .i64 a.y1.s) := qa.reads 7
  have la := qa.lt
  clear qa
  have qb := K4.out.get (x := (w.heap.size + 1, 40, #[.int .i64 b.x0.m, .int .i64 b.x0.s, .int .i64 b.y0.m, .int .i64 b.y0.s, .int .i64 b.x1.m, .int .i64 b.x1.s, .int .i64 b.y1.m, .int .i64 b.y1.s])) (by simp)
  have b0 : w4.cell? ⟨w.heap.size + 1, 0, none⟩ = some (.int .i64 b.x0.m) := qb.reads 0
  have b1 : w4.cell? ⟨w.heap.size + 1, 1, none⟩ = some (.int .i64 b.x0.s) := qb.reads 1
  have b2 : w4.cell? ⟨w.heap.size + 1, 2, none⟩ = some (.int .i64 b.y0.m) := qb.reads 2
  have b3 : w4.cell? ⟨w.heap.size + 1, 3, none⟩ = some (.int .i64 b.y0.s) := qb.reads 3
  have b4 : w4.cell? ⟨w.heap.size + 1, 4, none⟩ = some (.int .i64 b.x1.m) := qb.reads 4
  have b5 : w4.cell? ⟨w.heap.size + 1, 5, none⟩ = some (.int .i64 b.x1.s) := qb.reads 5
  have b6 : w4.cell? ⟨w.heap.size + 1, 6, none⟩ = some (.int .i64 b.y1.m) := qb.reads 6
  have b7 : w4.cell? ⟨w.heap.size + 1, 7, none⟩ = some (.int .i64 b.y1.s) := qb.reads 7
  have lb := qb.lt
  clear qb
  clear K4
  go_wp2_with fail
  refine (both_any a b r3 E3 _ G3.out).mono ?_
  rintro e w5 ⟨rfl, hb⟩
  have H5 := Lib.hid (((H4.out).here hb).add 40 #[.int .i64 r3.x0.m, .int .i64 r3.x0.s, .int .i64 r3.y0.m, .int .i64 r3.y0.s, .int .i64 r3.x1.m, .int .i64 r3.x1.s, .int .i64 r3.y1.m, .int .i64 r3.y1.s])
  have K5 := Lib.hid ((H4.out).here hb)
  have HO5 := Lib.hid ((HO4.out.later hb).later ((Below.refl _ _).alloc (Nat.le_refl _) (.cells #[.int .i64 r3.x0.m, .int .i64 r3.x0.s, .int .i64 r3.y0.m, .int .i64 r3.y0.s, .int .i64 r3.x1.m, .int .i64 r3.x1.s, .int .i64 r3.y1.m, .int .i64 r3.y1.s] 40)))
  clear HO4
  clear hb H4 a0 a1 a2 a3 a4 a5 a6 a7 la b0 b1 b2 b3 b4 b5 b6 b7 lb
  have qa := K5.out.get (x := (w.heap.size, 40, #[.int .i64 a.x0.m, .int .i64 a.x0.s, .int .i64 a.y0.m, .int .i64 a.y0.s, .int .i64 a.x1.m, .int .i64 a.x1.s, .int .i64 a.y1.m, .int .i64 a.y1.s])) (by simp)
  have a0 : w5.cell? ⟨w.heap.size, 0, none⟩ = some (.int .i64 a.x0.m) := qa.reads 0
  have a1 : w5.cell? ⟨w.heap.size, 1, none⟩ = some (.int .i64 a.x0.s) := qa.reads 1
  have a2 : w5.cell? ⟨w.heap.size, 2, none⟩ = some (.int .i64 a.y0.m) := qa.reads 2
  have a3 : w5.cell? ⟨w.heap.size, 3, none⟩ = some (.int .i64 a.y0.s) := qa.reads 3
  have a4 : w5.cell? ⟨w.heap.size, 4, none⟩ = some (.int .i64 a.x1.m) := qa.reads 4
  have a5 : w5.cell? ⟨w.heap.size, 5, none⟩ = some (.int .i64 a.x1.s) := qa.reads 5
  have a6 : w5.cell? ⟨w.heap.size, 6, none⟩ = some (.int .i64 a.y1.m) := qa.reads 6
  have a7 : w5.cell? ⟨w.heap.size, 7, none⟩ = some (.int .i64 a.y1.s) := qa.reads 7
  have la := qa.lt
  clear qa
  have qb := K5.out.get (x := (w.heap.size + 1, 40, #[.int .i64 b.x0.m, .int .i64 b.x0.s, .int .i64 b.y0.m, .int .i64 b.y0.s, .int .i64 b.x1.m, .int .i64 b.x1.s, .int .i64 b.y1.m, .int .i64 b.y1.s])) (by simp)
  have b0 : w5.cell? ⟨w.heap.size + 1, 0, none⟩ = some (.int .i64 b.x0.m) := qb.reads 0
  have b1 : w5.cell? ⟨w.heap.size + 1, 1, none⟩ = some (.int .i64 b.x0.s) := qb.reads 1
  have b2 : w5.cell? ⟨w.heap.size + 1, 2, none⟩ = some (.int .i64 b.y0.m) := qb.reads 2
  have b3 : w5.cell? ⟨w.heap.size + 1, 3, none⟩ = some (.int .i64 b.y0.s) := qb.reads 3
  have b4 : w5.cell? ⟨w.heap.size + 1, 4, none⟩ = some (.int .i64 b.x1.m) := qb.reads 4
  have b5 : w5.cell? ⟨w.heap.size + 1, 5, none⟩ = some (.int .i64 b.x1.s) := qb.reads 5
  have b6 : w5.cell? ⟨w.heap.size + 1, 6, none⟩ = some (.int .i64 b.y1.m) := qb.reads 6
  have b7 : w5.cell? ⟨w.heap.size + 1, 7, none⟩ = some (.int .i64 b.y1.s) := qb.reads 7
  have lb := qb.lt
  clear qb
  clear K5
  go_wp2_with fail
  refine (refboth_any a b r3 E3 _ G3.out).mono ?_
  rintro e w6 ⟨rfl, hb⟩
  have H6 := Lib.hid (((H5.out).here hb).add 40 #[.int .i64 r3.x0.m, .int .i64 r3.x0.s, .int .i64 r3.y0.m, .int .i64 r3.y0.s, .int .i64 r3.x1.m, .int .i64 r3.x1.s, .int .i64 r3.y1.m, .int .i64 r3.y1.s])
  have K6 := Lib.hid ((H5.out).here hb)
  have HO6 := Lib.hid ((HO5.out.later hb).later ((Below.refl _ _).alloc (Nat.le_refl _) (.cells #[.int .i64 r3.x0.m, .int .i64 r3.x0.s, .int .i64 r3.y0.m, .int .i64 r3.y0.s, .int .i64 r3.x1.m, .int .i64 r3.x1.s, .int .i64 r3.y1.m, .int .i64 r3.y1.s] 40)))
  clear HO5
  clear hb H5 a0 a1 a2 a3 a4 a5 a6 a7 la b0 b1 b2 b3 b4 b5 b6 b7 lb
  have qa := K6.out.get (x := (w.heap.size, 40, #[.int .i64 a.x0.m, .int .i64 a.x0.s, .int .i64 a.y0.m, .int .i64 a.y0.s, .int .i64 a.x1.m, .int .i64 a.x1.s, .int .i64 a.y1.m, .int .i64 a.y1.s])) (by simp)
  have a0 : w6.cell? ⟨w.heap.size, 0, none⟩ = some (.int .i64 a.x0.m) := qa.reads 0
  have a1 : w6.cell? ⟨w.heap.size, 1, none⟩ = some (.int .i64 a.x0.s) := qa.reads 1
  have a2 : w6.cell? ⟨w.heap.size, 2, none⟩ = some (.int .i64 a.y0.m) := qa.reads 2
  have a3 : w6.cell? ⟨w.heap.size, 3, none⟩ = some (.int .i64 a.y0.s) := qa.reads 3
  have a4 : w6.cell? ⟨w.heap.size, 4, none⟩ = some (.int .i64 a.x1.m) := qa.reads 4
  have a5 : w6.cell? ⟨w.heap.size, 5, none⟩ = some (.int .i64 a.x1.s) := qa.reads 5
  have a6 : w6.cell? ⟨w.heap.size, 6, none⟩ = some (.int .i64 a.y1.m) := qa.reads 6
  have a7 : w6.cell? ⟨w.heap.size, 7, none⟩ = some (.int .i64 a.y1.s) := qa.reads 7
  have la := qa.lt
  clear qa
  have qm := K6.out.get (x := (w.heap.size + 1 + 1, 25, #[.int .i64 m.a.m, .int .i64 m.a.s, .int .i64 m.b.m, .int .i64 m.b.s, .int .i64 m.c.m, .int .i64 m.c.s, .int .i64 m.d.m, .int .i64 m.d.s, .int .i64 m.e.m, .int .i64 m.e.s, .int .i64 m.f.m, .int .i64 m.f.s])) (by simp)
  have m0 : w6.cell? ⟨w.heap.size + 1 + 1, 0, none⟩ = some (.int .i64 m.a.m) := qm.reads 0
  have m1 : w6.cell? ⟨w.heap.size + 1 + 1, 1, none⟩ = some (.int .i64 m.a.s) := qm.reads 1
  have m2 : w6.cell? ⟨w.heap.size + 1 + 1, 2, none⟩ = some (.int .i64 m.b.m) := qm.reads 2
  have m3 : w6.cell? ⟨w.heap.size + 1 + 1, 3, none⟩ = some (.int .i64 m.b.s) := qm.reads 3
  have m4 : w6.cell? ⟨w.heap.size + 1 + 1, 4, none⟩ = some (.int .i64 m.c.m) := qm.reads 4
  have m5 : w6.cell? ⟨w.heap.size + 1 + 1, 5, none⟩ = some (.int .i64 m.c.s) := qm.reads 5
  have m6 : w6.cell? ⟨w.heap.size + 1 + 1, 6, none⟩ = some (.int .i64 m.d.m) := qm.reads 6
  have m7 : w6.cell? ⟨w.heap.size + 1 + 1, 7, none⟩ = some (.int .i64 m.d.s) := qm.reads 7
  have m8 : w6.cell? ⟨w.heap.size + 1 + 1, 8, none⟩ = some (.int .i64 m.e.m) := qm.reads 8
  have m9 : w6.cell? ⟨w.heap.size + 1 + 1, 9, none⟩ = some (.int .i64 m.e.s) := qm.reads 9
  have m10 : w6.cell? ⟨w.heap.size + 1 + 1, 10, none⟩ = some (.int .i64 m.f.m) := qm.reads 10
  have m11 : w6.cell? ⟨w.heap.size + 1 + 1, 11, none⟩ = some (.int .i64 m.f.s) := qm.reads 11
  have lm := qm.lt
  clear qm
  clear K6
  go_wp2_with fail
  refine (bmap_any m a r4 E4 _ G4.out).mono ?_
  rintro e w7 ⟨rfl, hb⟩
  have H7 := Lib.hid (((H6.out).here hb).add 40 #[.int .i64 r4.x0.m, .int .i64 r4.x0.s, .int .i64 r4.y0.m, .int .i64 r4.y0.s, .int .i64 r4.x1.m, .int .i64 r4.x1.s, .int .i64 r4.y1.m, .int .i64 r4.y1.s])
  have K7 := Lib.hid ((H6.out).here hb)
  have HO7 := Lib.hid ((HO6.out.later hb).later ((Below.refl _ _).alloc (Nat.le_refl _) (.cells #[.int .i64 r4.x0.m, .int .i64 r4.x0.s, .int .i64 r4.y0.m, .int .i64 r4.y0.s, .int .i64 r4.x1.m, .int .i64 r4.x1.s, .int .i64 r4.y1.m, .int .i64 r4.y1.s] 40)))
  clear HO6
  clear hb H6 a0 a1 a2 a3 a4 a5 a6 a7 la m0 m1 m2 m3 m4 m5 m6 m7 m8 m9 m10 m11 lm
  have qa := K7.out.get (x := (w.heap.size, 40, #[.int .i64 a.x0.m, .int .i64 a.x0.s, .int .i64 a.y0.m, .int .i64 a.y0.s, .int .i64 a.x1.m, .int .i64 a.x1.s, .int .i64 a.y1.m, .int .i64 a.y1.s])) (by simp)
  have a0 : w7.cell? ⟨w.heap.size, 0, none⟩ = some (.int .i64 a.x0.m) := qa.reads 0
  have a1 : w7.cell? ⟨w.heap.size, 1, none⟩ = some (.int .i64 a.x0.s) := qa.reads 1
  have a2 : w7.cell? ⟨w.heap.size, 2, none⟩ = some (.int .i64 a.y0.m) := qa.reads 2
  have a3 : w7.cell? ⟨w.heap.size, 3, none⟩ = some (.int .i64 a.y0.s) := qa.reads 3
  have a4 : w7.cell? ⟨w.heap.size, 4, none⟩ = some (.int .i64 a.x1.m) := qa.reads 4
  have a5 : w7.cell? ⟨w.heap.size, 5, none⟩ = some (.int .i64 a.x1.s) := qa.reads 5
  have a6 : w7.cell? ⟨w.heap.size, 6, none⟩ = some (.int .i64 a.y1.m) := qa.reads 6
  have a7 : w7.cell? ⟨w.heap.size, 7, none⟩ = some (.int .i64 a.y1.s) := qa.reads 7
  have la := qa.lt
  clear qa
  have qm := K7.out.get (x := (w.heap.size + 1 + 1, 25, #[.int .i64 m.a.m, .int .i64 m.a.s, .int .i64 m.b.m, .int .i64 m.b.s, .int .i64 m.c.m, .int .i64 m.c.s, .int .i64 m.d.m, .int .i64 m.d.s, .int .i64 m.e.m, .int .i64 m.e.s, .int .i64 m.f.m, .int .i64 m.f.s])) (by simp)
  have m0 : w7.cell? ⟨w.heap.size + 1 + 1, 0, none⟩ = some (.int .i64 m.a.m) := qm.reads 0
  have m1 : w7.cell? ⟨w.heap.size + 1 + 1, 1, none⟩ = some (.int .i64 m.a.s) := qm.reads 1
  have m2 : w7.cell? ⟨w.heap.size + 1 + 1, 2, none⟩ = some (.int .i64 m.b.m) := qm.reads 2
  have m3 : w7.cell? ⟨w.heap.size + 1 + 1, 3, none⟩ = some (.int .i64 m.b.s) := qm.reads 3
  have m4 : w7.cell? ⟨w.heap.size + 1 + 1, 4, none⟩ = some (.int .i64 m.c.m) := qm.reads 4
  have m5 : w7.cell? ⟨w.heap.size + 1 + 1, 5, none⟩ = some (.int .i64 m.c.s) := qm.reads 5
  have m6 : w7.cell? ⟨w.heap.size + 1 + 1, 6, none⟩ = some (.int .i64 m.d.m) := qm.reads 6
  have m7 : w7.cell? ⟨w.heap.size + 1 + 1, 7, none⟩ = some (.int .i64 m.d.s) := qm.reads 7
  have m8 : w7.cell? ⟨w.heap.size + 1 + 1, 8, none⟩ = some (.int .i64 m.e.m) := qm.reads 8
  have m9 : w7.cell? ⟨w.heap.size + 1 + 1, 9, none⟩ = some (.int .i64 m.e.s) := qm.reads 9
  have m10 : w7.cell? ⟨w.heap.size + 1 + 1, 10, none⟩ = some (.int .i64 m.f.m) := qm.reads 10
  have m11 : w7.cell? ⟨w.heap.size + 1 + 1, 11, none⟩ = some (.int .i64 m.f.s) := qm.reads 11
  have lm := qm.lt
  clear qm
  clear K7
  go_wp2_with fail
  refine (refbmapx m a r4 E4 _ G4.out).mono ?_
  rintro e w8 ⟨rfl, hb⟩
  have H8 := Lib.hid (((H7.out).here hb).add 40 #[.int .i64 r4.x0.m, .int .i64 r4.x0.s, .int .i64 r4.y0.m, .int .i64 r4.y0.s, .int .i64 r4.x1.m, .int .i64 r4.x1.s, .int .i64 r4.y1.m, .int .i64 r4.y1.s])
  have K8 := Lib.hid ((H7.out).here hb)
  have HO8 := Lib.hid ((HO7.out.later hb).later ((Below.refl _ _).alloc (Nat.le_refl _) (.cells #[.int .i64 r4.x0.m, .int .i64 r4.x0.s, .int .i64 r4.y0.m, .int .i64 r4.y0.s, .int .i64 r4.x1.m, .int .i64 r4.x1.s, .int .i64 r4.y1.m, .int .i64 r4.y1.s] 40)))
  clear HO7
  clear hb H7 a0 a1 a2 a3 a4 a5 a6 a7 la m0 m1 m2 m3 m4 m5 m6 m7 m8 m9 m10 m11 lm
  clear K8
  go_wp2_with fail
  have HH := H8.out
  have HOW := HO8
  clear H8 HO8
  generalize w8.alloc (.cells #[.int .i64 r4.x0.m, .int .i64 r4.x0.s, .int .i64 r4.y0.m, .int .i64 r4.y0.s, .int .i64 r4.x1.m, .int .i64 r4.x1.s, .int .i64 r4.y1.m, .int .i64 r4.y1.s] 40) = W at *
  have hd0 : True := trivial
  go_loopw [26] (fun s26 wx => ∃ k : Nat, k ≤ n ∧ s26 = .int .i64 k ∧ Hid (Below W.heap.size W wx)) (fun s26 _ => n - (intOf s26).toNat)
  case atStart => exact ⟨0, by omega, rfl, Lib.hid (Below.refl _ _)⟩
  case round =>
    obtain ⟨k, hk, rfl, hbx⟩ := hrel
    by_cases hlt : k < n
    · have d2 : decide ((k : Int) < (n : Int)) = true := by simp; omega
      have d3 : decide (k < n) = true := by simp; omega
      have hk0 : (0 : Int) ≤ (k : Int) := by omega
      have hk1 : (k : Int) < (n : Int) := by omega
      have hp1 := HOW.out.later hbx.out
      have hp2 := HA.out.later (HH.1.trans (hbx.out.mono HH.1.size))
      have HH2 := Lib.hid HH
      have HOW2 := HOW
      have HA2 := HA
      clear HH HOW HA
      rcases hp1 with h0 | ⟨R1, o1, e1, hP1⟩
      · omega
      rcases hp2 with h0 | ⟨R2, o2, e2, hP2⟩
      · omega
      obtain ⟨p0, p1, p2, p3⟩ := hP1 k hlt
      obtain ⟨q0, q1, q2, q3⟩ := hP2 k hlt
      clear hP1 hP2
      subst e1 e2
      go_wp2_with fail
      go_region
      all_goals
        go_wp2_with fail
        go_roundw
        case rel => exact ⟨k + 1, by omega, by go_num, Lib.hid hbx.out.drew⟩
        case measure => simp [intOf]; omega
    · have d2 : decide ((k : Int) < (n : Int)) = false := by simp; omega
      have d3 : decide (k < n) = false := by simp; omega
      have HH := HH.here hbx.out
      clear HOW hbx
      go_wp2_with fail
      go_region_held3 (fun v => v.cell? ⟨w.heap.size, 0, none⟩ = some (.int .i64 a.x0.m) ∧ v.cell? ⟨w.heap.size, 1, none⟩ = some (.int .i64 a.x0.s) ∧ v.cell? ⟨w.heap.size, 2, none⟩ = some (.int .i64 a.y0.m) ∧ v.cell? ⟨w.heap.size, 3, none⟩ = some (.int .i64 a.y0.s) ∧ v.cell? ⟨w.heap.size, 4, none⟩ = some (.int .i64 a.x1.m) ∧ v.cell? ⟨w.heap.size, 5, none⟩ = some (.int .i64 a.x1.s) ∧ v.cell? ⟨w.heap.size, 6, none⟩ = some (.int .i64 a.y1.m) ∧ v.cell? ⟨w.heap.size, 7, none⟩ = some (.int .i64 a.y1.s) ∧ v.cell? ⟨w1.heap.size, 0, none⟩ = some (.int .i64 r1.x0.m) ∧ v.cell? ⟨w1.heap.size, 1, none⟩ = some (.int .i64 r1.x0.s) ∧ v.cell? ⟨w1.heap.size, 2, none⟩ = some (.int .i64 r1.y0.m) ∧ v.cell? ⟨w1.heap.size, 3, none⟩ = some (.int .i64 r1.y0.s) ∧ v.cell? ⟨w1.heap.size, 4, none⟩ = some (.int .i64 r1.x1.m) ∧ v.cell? ⟨w1.heap.size, 5, none⟩ = some (.int .i64 r1.x1.s) ∧ v.cell? ⟨w1.heap.size, 6, none⟩ = some (.int .i64 r1.y1.m) ∧ v.cell? ⟨w1.heap.size, 7, none⟩ = some (.int .i64 r1.y1.s) ∧ v.cell? ⟨w2.heap.size, 0, none⟩ = some (.int .i64 r1.x0.m) ∧ v.cell? ⟨w2.heap.size, 1, none⟩ = some (.int .i64 r1.x0.s) ∧ v.cell? ⟨w2.heap.size, 2, none⟩ = some (.int .i64 r1.y0.m) ∧ v.cell? ⟨w2.heap.size, 3, none⟩ = some (.int .i64 r1.y0.s) ∧ v.cell? ⟨w2.heap.size, 4, none⟩ = some (.int .i64 r1.x1.m) ∧ v.cell? ⟨w2.heap.size, 5, none⟩ = some (.int .i64 r1.x1.s) ∧ v.cell? ⟨w2.heap.size, 6, none⟩ = some (.int .i64 r1.y1.m) ∧ v.cell? ⟨w2.heap.size, 7, none⟩ = some (.int .i64 r1.y1.s) ∧ v.cell? ⟨w5.heap.size, 0, none⟩ = some (.int .i64 r3.x0.m) ∧ v.cell? ⟨w5.heap.size, 1, none⟩ = some (.int .i64 r3.x0.s) ∧ v.cell? ⟨w5.heap.size, 2, none⟩ = some (.int .i64 r3.y0.m) ∧ v.cell? ⟨w5.heap.size, 3, none⟩ = some (.int .i64 r3.y0.s) ∧ v.cell? ⟨w5.heap.size, 4, none⟩ = some (.int .i64 r3.x1.m) ∧ v.cell? ⟨w5.heap.size, 5, none⟩ = some (.int .i64 r3.x1.s) ∧ v.cell? ⟨w5.heap.size, 6, none⟩ = some (.int .i64 r3.y1.m) ∧ v.cell? ⟨w5.heap.size, 7, none⟩ = some (.int .i64 r3.y1.s) ∧ v.cell? ⟨w6.heap.size, 0, none⟩ = some (.int .i64 r3.x0.m) ∧ v.cell? ⟨w6.heap.size, 1, none⟩ = some (.int .i64 r3.x0.s) ∧ v.cell? ⟨w6.heap.size, 2, none⟩ = some (.int .i64 r3.y0.m) ∧ v.cell? ⟨w6.heap.size, 3, none⟩ = some (.int .i64 r3.y0.s) ∧ v.cell? ⟨w6.heap.size, 4, none⟩ = some (.int .i64 r3.x1.m) ∧ v.cell? ⟨w6.heap.size, 5, none⟩ = some (.int .i64 r3.x1.s) ∧ v.cell? ⟨w6.heap.size, 6, none⟩ = some (.int .i64 r3.y1.m) ∧ v.cell? ⟨w6.heap.size, 7, none⟩ = some (.int .i64 r3.y1.s) ∧ v.cell? ⟨w7.heap.size, 0, none⟩ = some (.int .i64 r4.x0.m) ∧ v.cell? ⟨w7.heap.size, 1, none⟩ = some (.int .i64 r4.x0.s) ∧ v.cell? ⟨w7.heap.size, 2, none⟩ = some (.int .i64 r4.y0.m) ∧ v.cell? ⟨w7.heap.size, 3, none⟩ = some (.int .i64 r4.y0.s) ∧ v.cell? ⟨w7.heap.size, 4, none⟩ = some (.int .i64 r4.x1.m) ∧ v.cell? ⟨w7.heap.size, 5, none⟩ = some (.int .i64 r4.x1.s) ∧ v.cell? ⟨w7.heap.size, 6, none⟩ = some (.int .i64 r4.y1.m) ∧ v.cell? ⟨w7.heap.size, 7, none⟩ = some (.int .i64 r4.y1.s) ∧ v.cell? ⟨w8.heap.size, 0, none⟩ = some (.int .i64 r4.x0.m) ∧ v.cell? ⟨w8.heap.size, 1, none⟩ = some (.int .i64 r4.x0.s) ∧ v.cell? ⟨w8.heap.size, 2, none⟩ = some (.int .i64 r4.y0.m) ∧ v.cell? ⟨w8.heap.size, 3, none⟩ = some (.int .i64 r4.y0.s) ∧ v.cell? ⟨w8.heap.size, 4, none⟩ = some (.int .i64 r4.x1.m) ∧ v.cell? ⟨w8.heap.size, 5, none⟩ = some (.int .i64 r4.x1.s) ∧ v.cell? ⟨w8.heap.size, 6, none⟩ = some (.int .i64 r4.y1.m) ∧ v.cell? ⟨w8.heap.size, 7, none⟩ = some (.int .i64 r4.y1.s))
        (first | with_reducible exact Ws.allB HH | with_reducible exact Ws.allB (Ws.drew HH))
        (first
          | (go_at_call 24; refine (bawake_any _).mono ?_; rintro e v ⟨rfl, kk⟩; (first | (with_reducible have HH := Ws.here (Ws.drew HH) kk) | (with_reducible have HH := Ws.here HH kk)))
          | (go_at_call 25; (with_reducible refine (bcheck_said a _).mono ?_); rintro e v ⟨EC, hEC, rfl, kk⟩; (first | (with_reducible have HH := Ws.here (Ws.drew HH) kk) | (with_reducible have HH := Ws.here HH kk)))
          | (go_at_call 26; (with_reducible refine (bright_any a _ (decide a.Ok) rfl).mono ?_); rintro e v ⟨rfl, kk⟩; (first | (with_reducible have HH := Ws.here (Ws.drew HH) kk) | (with_reducible have HH := Ws.here HH kk))))
      all_goals
        go_wp2_with fail
        go_ret
        first | exact ⟨rfl, HH.1⟩ | exact ⟨rfl, HH.1.drew⟩
end Go.Proofs.Ytpdjooeogpidhaa
