/- The walk of matrix's Then. -/
import Derived.Test.YtpdjooeogpidhaaMatMapB
import Derived.Test.YtpdjooeogpidhaaMatStep
namespace Go.Proofs.Ytpdjooeogpidhaa
open Go.RowKit Dec

/-- Six elements. -/
def six (x0 x1 x2 x3 x4 x5 : El) (i : Nat) : El := match i with | 0 => x0 | 1 => x1 | 2 => x2 | 3 => x3 | 4 => x4 | _ => x5
def AllOk (x0 x1 x2 x3 x4 x5 : El) : Prop := x0.E = 0 ∧ x1.E = 0 ∧ x2.E = 0 ∧ x3.E = 0 ∧ x4.E = 0 ∧ x5.E = 0
def AllSay (x0 x1 x2 x3 x4 x5 : El) : Prop := x0.Says ∧ x1.Says ∧ x2.Says ∧ x3.Says ∧ x4.Says ∧ x5.Says
def AllLie (x0 x1 x2 x3 x4 x5 : El) (w : World) : Prop := x0.Lies w ∧ x1.Lies w ∧ x2.Lies w ∧ x3.Lies w ∧ x4.Lies w ∧ x5.Lies w
theorem six_all {P : El → Prop} {x0 x1 x2 x3 x4 x5 : El} (h0 : P x0) (h1 : P x1) (h2 : P x2) (h3 : P x3) (h4 : P x4) (h5 : P x5) : ∀ i < 6, P (six x0 x1 x2 x3 x4 x5 i) := fun i hi => by
  match i, hi with
  | 0, _ => exact h0
  | 1, _ => exact h1
  | 2, _ => exact h2
  | 3, _ => exact h3
  | 4, _ => exact h4
  | 5, _ => exact h5
theorem six_of (x0 x1 x2 x3 x4 x5 : El) (w : World) (T : TypeId) (R : Nat) (hR : R = w.heap.size) (hS : AllSay x0 x1 x2 x3 x4 x5) (hL : AllLie x0 x1 x2 x3 x4 x5 w) :
    Calls Try.prog 28 #[.slice (some ⟨R, 0, none⟩) 6 6] (w.alloc (.cells #[elemV x0.B, elemV x1.B, elemV x2.B, elemV x3.B, elemV x4.B, elemV x5.B] T)) (Computed (six x0 x1 x2 x3 x4 x5) 6 (w.alloc (.cells #[elemV x0.B, elemV x1.B, elemV x2.B, elemV x3.B, elemV x4.B, elemV x5.B] T))) := by
  subst hR
  have hb : Below w.heap.size w (w.alloc (.cells #[elemV x0.B, elemV x1.B, elemV x2.B, elemV x3.B, elemV x4.B, elemV x5.B] T)) := (Below.refl _ _).alloc (Nat.le_refl _) _
  obtain ⟨s0, s1, s2, s3, s4, s5⟩ := hS
  obtain ⟨l0, l1, l2, l3, l4, l5⟩ := hL
  refine compute_any 6 (six x0 x1 x2 x3 x4 x5) _ _ (by omega) (fun i hi => ?_) (six_all s0 s1 s2 s3 s4 s5)
  rw [World.cell?_alloc_new]
  match i, hi with
  | 0, _ => exact ⟨rfl, l0.later hb⟩
  | 1, _ => exact ⟨rfl, l1.later hb⟩
  | 2, _ => exact ⟨rfl, l2.later hb⟩
  | 3, _ => exact ⟨rfl, l3.later hb⟩
  | 4, _ => exact ⟨rfl, l4.later hb⟩
  | 5, _ => exact ⟨rfl, l5.later hb⟩
/-- compute at six elements that all answer; and where one of them does not. -/
def SixOk (r : MV) (w : World) (e : Ending) (w' : World) : Prop :=
  Below w.heap.size w w' ∧ ∃ L, e = .returned (.tuple #[.slice (some ⟨L, 0, none⟩) 6 6, .int .i64 0]) ∧ w.heap.size < L ∧ MIn w' L r
theorem six_ok (x0 x1 x2 x3 x4 x5 : El) (r : MV) (w : World) (T : TypeId) (R : Nat) (hR : R = w.heap.size) (hS : AllSay x0 x1 x2 x3 x4 x5) (hL : AllLie x0 x1 x2 x3 x4 x5 w) (hE : AllOk x0 x1 x2 x3 x4 x5) (hr : r = ⟨x0.r, x1.r, x2.r, x3.r, x4.r, x5.r⟩) :
    Calls Try.prog 28 #[.slice (some ⟨R, 0, none⟩) 6 6] (w.alloc (.cells #[elemV x0.B, elemV x1.B, elemV x2.B, elemV x3.B, elemV x4.B, elemV x5.B] T)) (SixOk r w) := by
  subst hr
  refine (six_of x0 x1 x2 x3 x4 x5 w T R hR hS hL).mono ?_
  obtain ⟨e0, e1, e2, e3, e4, e5⟩ := hE
  have hE := six_all (P := fun x => x.E = 0) e0 e1 e2 e3 e4 e5
  rintro e w' ⟨hb, ⟨⟨i, hi, h⟩, -⟩ | ⟨-, L, rfl, hL, cs, hw, hs, hf⟩⟩
  · have := hE i hi
    omega
  · obtain ⟨a0, a1⟩ := hf 0 (by omega)
    obtain ⟨b0, b1⟩ := hf 1 (by omega)
    obtain ⟨c0, c1⟩ := hf 2 (by omega)
    obtain ⟨d0, d1⟩ := hf 3 (by omega)
    obtain ⟨g0, g1⟩ := hf 4 (by omega)
    obtain ⟨f0, f1⟩ := hf 5 (by omega)
    exact ⟨((Below.refl _ _).alloc (Nat.le_refl _) _).trans (hb.mono (by simp)), L, rfl, by simp at hL; omega,
      (hw.reads 0).trans a0, (hw.reads 1).trans a1, (hw.reads 2).trans b0, (hw.reads 3).trans b1, (hw.reads 4).trans c0, (hw.reads 5).trans c1, (hw.reads 6).trans d0, (hw.reads 7).trans d1, (hw.reads 8).trans g0, (hw.reads 9).trans g1, (hw.reads 10).trans f0, (hw.reads 11).trans f1⟩
theorem six_bad (x0 x1 x2 x3 x4 x5 : El) (w : World) (T : TypeId) (R : Nat) (hR : R = w.heap.size) (hS : AllSay x0 x1 x2 x3 x4 x5) (hL : AllLie x0 x1 x2 x3 x4 x5 w) (hE : ¬ AllOk x0 x1 x2 x3 x4 x5) :
    Calls Try.prog 28 #[.slice (some ⟨R, 0, none⟩) 6 6] (w.alloc (.cells #[elemV x0.B, elemV x1.B, elemV x2.B, elemV x3.B, elemV x4.B, elemV x5.B] T)) fun e w' => e = .returned (.tuple #[.slice none 0 0, .int .i64 5]) ∧ Below w.heap.size w w' := by
  refine (six_of x0 x1 x2 x3 x4 x5 w T R hR hS hL).mono ?_
  rintro e w' ⟨hb, ⟨-, rfl⟩ | ⟨h', -⟩⟩
  · exact ⟨rfl, ((Below.refl _ _).alloc (Nat.le_refl _) _).trans (hb.mono (by simp))⟩
  · exact (hE ⟨h' 0 (by omega), h' 1 (by omega), h' 2 (by omega), h' 3 (by omega), h' 4 (by omega), h' 5 (by omega)⟩).elim

theorem sumz_any (a b c d : DV) (w : World) :
    Calls Try.prog 29 #[.agg #[.int .i64 a.m, .int .i64 a.s], .agg #[.int .i64 b.m, .int .i64 b.s], .agg #[.int .i64 c.m, .int .i64 c.s], .agg #[.int .i64 d.m, .int .i64 d.s], .agg #[.int .i64 0, .int .i64 0]] w
      fun e w' => ∃ B, e = .returned (elemV B) ∧ Caught w' B a b c d .zero ∧ Below w.heap.size w w' := sum_any a b c d .zero w
def SixAns (r : MV) (E : Int) (w : World) (e : Ending) (w' : World) : Prop :=
  Below w.heap.size w w' ∧ ∃ V, e = .returned (.tuple #[V, .int .i64 E]) ∧ Hid ((E = 5 ∧ V = .slice none 0 0) ∨ (E = 0 ∧ ∃ L, V = .slice (some ⟨L, 0, none⟩) 6 6 ∧ w.heap.size < L ∧ MIn w' L r))
theorem six_any2 (x0 x1 x2 x3 x4 x5 : El) (r : MV) (E : Int) (w : World) (T : TypeId) (R : Nat) (hR : R = w.heap.size) (hS : AllSay x0 x1 x2 x3 x4 x5) (hL : AllLie x0 x1 x2 x3 x4 x5 w) (hr : r = ⟨x0.r, x1.r, x2.r, x3.r, x4.r, x5.r⟩) (hE : (AllOk x0 x1 x2 x3 x4 x5 ∧ E = 0) ∨ (¬ AllOk x0 x1 x2 x3 x4 x5 ∧ E = 5)) :
    Calls Try.prog 28 #[.slice (some ⟨R, 0, none⟩) 6 6] (w.alloc (.cells #[elemV x0.B, elemV x1.B, elemV x2.B, elemV x3.B, elemV x4.B, elemV x5.B] T)) (SixAns r E w) := by
  rcases hE with ⟨h, rfl⟩ | ⟨h, rfl⟩
  · refine (six_ok x0 x1 x2 x3 x4 x5 r w T R hR hS hL h hr).mono ?_
    rintro e w' ⟨hb, L, rfl, hL, hm⟩
    exact ⟨hb, _, rfl, .inr ⟨rfl, L, rfl, hL, hm⟩⟩
  · refine (six_bad x0 x1 x2 x3 x4 x5 w T R hR hS hL h).mono ?_
    rintro e w' ⟨rfl, hb⟩
    exact ⟨hb, _, rfl, .inl ⟨rfl, rfl⟩⟩

theorem AllLie.of {x0 x1 x2 x3 x4 x5 : El} {w : World} (h0 : x0.Lies w) (h1 : x1.Lies w) (h2 : x2.Lies w) (h3 : x3.Lies w) (h4 : x4.Lies w) (h5 : x5.Lies w) : AllLie x0 x1 x2 x3 x4 x5 w := ⟨h0, h1, h2, h3, h4, h5⟩
set_option maxRecDepth 100000 in
set_option maxHeartbeats 16000000 in
theorem then_good (m n q : MV) (e1 e2 e3 e4 e5 e6 : Int) (w : World) (hm : m.Ok) (hn : n.Ok) (h1 : SumIs m.a n.a m.b n.c .zero q.a e1) (h2 : SumIs m.a n.b m.b n.d .zero q.b e2) (h3 : SumIs m.c n.a m.d n.c .zero q.c e3) (h4 : SumIs m.c n.b m.d n.d .zero q.d e4) (h5 : SumIs m.e n.a m.f n.c n.e q.e e5) (h6 : SumIs m.e n.b m.f n.d n.f q.f e6) (r : MV) (E : Int) (h : (e1 = 0 ∧ e2 = 0 ∧ e3 = 0 ∧ e4 = 0 ∧ e5 = 0 ∧ e6 = 0 ∧ r = q ∧ E = 0) ∨ (¬ (e1 = 0 ∧ e2 = 0 ∧ e3 = 0 ∧ e4 = 0 ∧ e5 = 0 ∧ e6 = 0) ∧ r = .zero ∧ E = 5)) :
    Calls Try.prog 7 #[m.val, n.val] w (IsM r E w) := by
  have Hm := Lib.hid hm
  have Hn := Lib.hid hn
  have HS : Hid (∀ b3 b4 b5 b6 b7 b8, AllSay ⟨m.a, n.a, m.b, n.c, .zero, q.a, e1, b3⟩ ⟨m.a, n.b, m.b, n.d, .zero, q.b, e2, b4⟩ ⟨m.c, n.a, m.d, n.c, .zero, q.c, e3, b5⟩ ⟨m.c, n.b, m.d, n.d, .zero, q.d, e4, b6⟩ ⟨m.e, n.a, m.f, n.c, n.e, q.e, e5, b7⟩ ⟨m.e, n.b, m.f, n.d, n.f, q.f, e6, b8⟩) := by
    obtain ⟨ma, mb, mc, md, me, mf⟩ := hm
    obtain ⟨na, nb, nc, nd, ne, nf⟩ := hn
    intro b3 b4 b5 b6 b7 b8
    exact ⟨⟨ma, na, mb, nc, DV.zero_ok, h1⟩, ⟨ma, nb, mb, nd, DV.zero_ok, h2⟩, ⟨mc, na, md, nc, DV.zero_ok, h3⟩, ⟨mc, nb, md, nd, DV.zero_ok, h4⟩, ⟨me, na, mf, nc, ne, h5⟩, ⟨me, nb, mf, nd, nf, h6⟩⟩
  have HE : Hid (∀ b3 b4 b5 b6 b7 b8, (AllOk ⟨m.a, n.a, m.b, n.c, .zero, q.a, e1, b3⟩ ⟨m.a, n.b, m.b, n.d, .zero, q.b, e2, b4⟩ ⟨m.c, n.a, m.d, n.c, .zero, q.c, e3, b5⟩ ⟨m.c, n.b, m.d, n.d, .zero, q.d, e4, b6⟩ ⟨m.e, n.a, m.f, n.c, n.e, q.e, e5, b7⟩ ⟨m.e, n.b, m.f, n.d, n.f, q.f, e6, b8⟩ ∧ E = 0) ∨ (¬ AllOk ⟨m.a, n.a, m.b, n.c, .zero, q.a, e1, b3⟩ ⟨m.a, n.b, m.b, n.d, .zero, q.b, e2, b4⟩ ⟨m.c, n.a, m.d, n.c, .zero, q.c, e3, b5⟩ ⟨m.c, n.b, m.d, n.d, .zero, q.d, e4, b6⟩ ⟨m.e, n.a, m.f, n.c, n.e, q.e, e5, b7⟩ ⟨m.e, n.b, m.f, n.d, n.f, q.f, e6, b8⟩ ∧ E = 5)) := by
    intro b3 b4 b5 b6 b7 b8
    rcases h with ⟨a1, a2, a3, a4, a5, a6, -, hE⟩ | ⟨ha, -, hE⟩
    · exact .inl ⟨⟨a1, a2, a3, a4, a5, a6⟩, hE⟩
    · exact .inr ⟨ha, hE⟩
  have HQ : Hid ((E = 5 → r = .zero) ∧ (E = 0 → r = q)) := by
    rcases h with ⟨a1, a2, a3, a4, a5, a6, hr, hE⟩ | ⟨ha, hr, hE⟩
    · exact ⟨fun h => by omega, fun _ => hr⟩
    · exact ⟨fun _ => hr, fun h => by omega⟩
  clear hm hn h1 h2 h3 h4 h5 h6 h
  go_enter Try.func7, Try.ntmps7
  go_wp2_with fail
  refine (mcheck_any m _ 0 (.inl ⟨Hm.out, rfl⟩)).mono ?_
  rintro e w1 ⟨rfl, hb⟩
  have B1 : Hid (Below w.heap.size w w1) := by
    refine Below.trans ?_ (hb.mono (by simp; omega))
    (repeat (first | with_reducible refine Below.drew ?_ | with_reducible refine bdrewN ?_ _ | (with_reducible refine Below.setCell ?_ ?_ _; rotate_left; focus (first | exact Nat.le_refl _ | omega | (simp; omega) | (simp; done))) | (with_reducible refine Below.alloc ?_ ?_ _; rotate_left; focus (first | exact Nat.le_refl _ | omega | (simp; omega) | (simp; done))))); with_reducible exact (Below.refl _ _)
  obtain ⟨hc, hf⟩ := bcell hb
  have hz := hb.size
  simp at hz
  have l0 : w.heap.size < w1.heap.size := (by omega); have l1 : w.heap.size + 1 < w1.heap.size := (by omega); have l2 : w.heap.size + 1 + 1 < w1.heap.size := (by omega)
  go_wp2_with fail
  refine (mcheck_any n _ 0 (.inl ⟨Hn.out, rfl⟩)).mono ?_
  rintro e w2 ⟨rfl, hk⟩
  have hb := hb.trans (hk.mono hb.size)
  have B2 := Lib.hid (B1.out.trans (hk.mono B1.out.size))
  clear hc hf hz hk l0 l1 l2 B1
  have hz := hb.size
  simp at hz
  have l0 : w.heap.size < w2.heap.size := (by omega); have l1 : w.heap.size + 1 < w2.heap.size := (by omega); have l2 : w.heap.size + 1 + 1 < w2.heap.size := (by omega)
  have hM := (((MIn.made w 25 m).old (.cells #[.int .i64 n.a.m, .int .i64 n.a.s, .int .i64 n.b.m, .int .i64 n.b.s, .int .i64 n.c.m, .int .i64 n.c.s, .int .i64 n.d.m, .int .i64 n.d.s, .int .i64 n.e.m, .int .i64 n.e.s, .int .i64 n.f.m, .int .i64 n.f.s] 25)).old (.cells #[.int .i64 0, .int .i64 0, .int .i64 0, .int .i64 0, .int .i64 0, .int .i64 0, .int .i64 0, .int .i64 0, .int .i64 0, .int .i64 0, .int .i64 0, .int .i64 0] 25)).later hb
  have hP := ((MIn.made (w.alloc (.cells #[.int .i64 m.a.m, .int .i64 m.a.s, .int .i64 m.b.m, .int .i64 m.b.s, .int .i64 m.c.m, .int .i64 m.c.s, .int .i64 m.d.m, .int .i64 m.d.s, .int .i64 m.e.m, .int .i64 m.e.s, .int .i64 m.f.m, .int .i64 m.f.s] 25)) 25 n).old (.cells #[.int .i64 0, .int .i64 0, .int .i64 0, .int .i64 0, .int .i64 0, .int .i64 0, .int .i64 0, .int .i64 0, .int .i64 0, .int .i64 0, .int .i64 0, .int .i64 0] 25)).later hb
  have hR := (Whole.made ((w.alloc (.cells #[.int .i64 m.a.m, .int .i64 m.a.s, .int .i64 m.b.m, .int .i64 m.b.s, .int .i64 m.c.m, .int .i64 m.c.s, .int .i64 m.d.m, .int .i64 m.d.s, .int .i64 m.e.m, .int .i64 m.e.s, .int .i64 m.f.m, .int .i64 m.f.s] 25)).alloc (.cells #[.int .i64 n.a.m, .int .i64 n.a.s, .int .i64 n.b.m, .int .i64 n.b.s, .int .i64 n.c.m, .int .i64 n.c.s, .int .i64 n.d.m, .int .i64 n.d.s, .int .i64 n.e.m, .int .i64 n.e.s, .int .i64 n.f.m, .int .i64 n.f.s] 25)) 25 #[.int .i64 0, .int .i64 0, .int .i64 0, .int .i64 0, .int .i64 0, .int .i64 0, .int .i64 0, .int .i64 0, .int .i64 0, .int .i64 0, .int .i64 0, .int .i64 0]).later hb (by simp)
  simp only [World.size_alloc] at hP hR
  have hM := hM.old (.cells #[.int .i64 0, .int .i64 0] 23)
  have hP := hP.old (.cells #[.int .i64 0, .int .i64 0] 23)
  have hR := hR.old (.cells #[.int .i64 0, .int .i64 0] 23)
  have hZ : Var (w2.alloc (.cells #[.int .i64 0, .int .i64 0] 23)) w2.heap.size .zero := Var.new w2 .zero 23
  have B2 := Lib.hid (B2.out.alloc B2.out.size (.cells #[.int .i64 0, .int .i64 0] 23))
  have hS := And.intro hM (And.intro hP hZ)
  clear hM hP hZ
  go_wp2
  simp only [List.append_eq, List.cons_append, List.nil_append]
  clear hz l0 l1 l2
  go_region_held3 (fun v => (v.cell? ⟨w.heap.size, 0, none⟩ = some (.int .i64 m.a.m) ∧ v.cell? ⟨w.heap.size, 1, none⟩ = some (.int .i64 m.a.s) ∧ v.cell? ⟨w.heap.size, 2, none⟩ = some (.int .i64 m.b.m) ∧ v.cell? ⟨w.heap.size, 3, none⟩ = some (.int .i64 m.b.s) ∧ v.cell? ⟨w.heap.size, 4, none⟩ = some (.int .i64 m.c.m) ∧ v.cell? ⟨w.heap.size, 5, none⟩ = some (.int .i64 m.c.s) ∧ v.cell? ⟨w.heap.size, 6, none⟩ = some (.int .i64 m.d.m) ∧ v.cell? ⟨w.heap.size, 7, none⟩ = some (.int .i64 m.d.s) ∧ v.cell? ⟨w.heap.size, 8, none⟩ = some (.int .i64 m.e.m) ∧ v.cell? ⟨w.heap.size, 9, none⟩ = some (.int .i64 m.e.s) ∧ v.cell? ⟨w.heap.size, 10, none⟩ = some (.int .i64 m.f.m) ∧ v.cell? ⟨w.heap.size, 11, none⟩ = some (.int .i64 m.f.s)) ∧ (v.cell? ⟨w.heap.size + 1, 0, none⟩ = some (.int .i64 n.a.m) ∧ v.cell? ⟨w.heap.size + 1, 1, none⟩ = some (.int .i64 n.a.s) ∧ v.cell? ⟨w.heap.size + 1, 2, none⟩ = some (.int .i64 n.b.m) ∧ v.cell? ⟨w.heap.size + 1, 3, none⟩ = some (.int .i64 n.b.s) ∧ v.cell? ⟨w.heap.size + 1, 4, none⟩ = some (.int .i64 n.c.m) ∧ v.cell? ⟨w.heap.size + 1, 5, none⟩ = some (.int .i64 n.c.s) ∧ v.cell? ⟨w.heap.size + 1, 6, none⟩ = some (.int .i64 n.d.m) ∧ v.cell? ⟨w.heap.size + 1, 7, none⟩ = some (.int .i64 n.d.s) ∧ v.cell? ⟨w.heap.size + 1, 8, none⟩ = some (.int .i64 n.e.m) ∧ v.cell? ⟨w.heap.size + 1, 9, none⟩ = some (.int .i64 n.e.s) ∧ v.cell? ⟨w.heap.size + 1, 10, none⟩ = some (.int .i64 n.f.m) ∧ v.cell? ⟨w.heap.size + 1, 11, none⟩ = some (.int .i64 n.f.s)) ∧ (v.cell? ⟨w2.heap.size, 0, none⟩ = some (.int .i64 0) ∧ v.cell? ⟨w2.heap.size, 1, none⟩ = some (.int .i64 0))) (first | assumption | go_keep)
    (first
      | (go_at_call 29; (with_reducible refine (sumz_any m.a n.a m.b n.c _).mono ?_); rintro e w3 ⟨b3, rfl, c3, k3⟩; (first | (have q3 := undrew k3) | (have q3 := Below.mono k3 (Nat.le_refl _))); have hS3 := And.intro (MIn.later hS.1 q3) (And.intro (MIn.later hS.2.1 q3) (Var.later hS.2.2 q3)))
      | (go_at_call 29; (with_reducible refine (sumz_any m.a n.b m.b n.d _).mono ?_); rintro e w4 ⟨b4, rfl, c4, k4⟩; (first | (have q4 := undrew k4) | (have q4 := Below.mono k4 (Nat.le_refl _))); have hS4 := And.intro (MIn.later hS3.1 q4) (And.intro (MIn.later hS3.2.1 q4) (Var.later hS3.2.2 q4)))
      | (go_at_call 29; (with_reducible refine (sumz_any m.c n.a m.d n.c _).mono ?_); rintro e w5 ⟨b5, rfl, c5, k5⟩; (first | (have q5 := undrew k5) | (have q5 := Below.mono k5 (Nat.le_refl _))); have hS5 := And.intro (MIn.later hS4.1 q5) (And.intro (MIn.later hS4.2.1 q5) (Var.later hS4.2.2 q5)))
      | (go_at_call 29; (with_reducible refine (sumz_any m.c n.b m.d n.d _).mono ?_); rintro e w6 ⟨b6, rfl, c6, k6⟩; (first | (have q6 := undrew k6) | (have q6 := Below.mono k6 (Nat.le_refl _))); have hS6 := And.intro (MIn.later hS5.1 q6) (And.intro (MIn.later hS5.2.1 q6) (Var.later hS5.2.2 q6)))
      | (go_at_call 29; (with_reducible refine (sum_any m.e n.a m.f n.c n.e _).mono ?_); rintro e w7 ⟨b7, rfl, c7, k7⟩; (first | (have q7 := undrew k7) | (have q7 := Below.mono k7 (Nat.le_refl _))); have hS7 := And.intro (MIn.later hS6.1 q7) (And.intro (MIn.later hS6.2.1 q7) (Var.later hS6.2.2 q7)))
      | (go_at_call 29; (with_reducible refine (sum_any m.e n.b m.f n.d n.f _).mono ?_); rintro e w8 ⟨b8, rfl, c8, k8⟩; (first | (have q8 := undrew k8) | (have q8 := Below.mono k8 (Nat.le_refl _))); have hS8 := And.intro (MIn.later hS7.1 q8) (And.intro (MIn.later hS7.2.1 q8) (Var.later hS7.2.2 q8)))
      | (go_at_call 28; (with_reducible refine (six_any2 ⟨m.a, n.a, m.b, n.c, .zero, q.a, e1, b3⟩ ⟨m.a, n.b, m.b, n.d, .zero, q.b, e2, b4⟩ ⟨m.c, n.a, m.d, n.c, .zero, q.c, e3, b5⟩ ⟨m.c, n.b, m.d, n.d, .zero, q.d, e4, b6⟩ ⟨m.e, n.a, m.f, n.c, n.e, q.e, e5, b7⟩ ⟨m.e, n.b, m.f, n.d, n.f, q.f, e6, b8⟩ q E w8 _ _ rfl (HS.out _ _ _ _ _ _) (AllLie.of (El.Lies.of (Caught.later (Caught.later (Caught.later (Caught.later (Caught.later c3 q4) q5) q6) q7) q8)) (El.Lies.of (Caught.later (Caught.later (Caught.later (Caught.later c4 q5) q6) q7) q8)) (El.Lies.of (Caught.later (Caught.later (Caught.later c5 q6) q7) q8)) (El.Lies.of (Caught.later (Caught.later c6 q7) q8)) (El.Lies.of (Caught.later c7 q8)) (El.Lies.of c8)) rfl (HE.out _ _ _ _ _ _)).mono ?_); rintro e w9 ⟨k9, V, rfl, hV⟩; have hS9 := And.intro (MIn.later hS8.1 k9) (And.intro (MIn.later hS8.2.1 k9) (Var.later hS8.2.2 k9))))
  have HB : Hid (Below w.heap.size w w9) := by
    have i3 := B2.out.trans (q3.mono B2.out.size)
    have i4 := i3.trans (q4.mono i3.size)
    have i5 := i4.trans (q5.mono i4.size)
    have i6 := i5.trans (q6.mono i5.size)
    have i7 := i6.trans (q7.mono i6.size)
    have i8 := i7.trans (q8.mono i7.size)
    exact i8.trans (k9.mono i8.size)
  have hR9 := ((((((hR.here q3).here q4).here q5).here q6).here q7).here q8).here k9
  have lR := hR9.lt
  have rd := hR9.reads
  have ft := hR9.thawed
  have gW : Hid (∀ L, w8.heap.size < L → w.heap.size + 1 + 1 < L) := by
    intro L hL
    have := (((((hR.here q3).here q4).here q5).here q6).here q7).here q8 |>.lt
    omega
  clear hS hS3 hS4 hS5 hS6 hS7 hS8 hS9
  rcases hV.out with ⟨rfl, rfl⟩ | ⟨rfl, L, rfl, gL, hL⟩
  · have hr := HQ.out.1 rfl
    subst hr
    clear hV HE
    go_wp2
    refine bodyPost_ret (v := .tuple #[MV.zero.val, .int .i64 5]) (by simp [results, Try.results7, go_sem, rd, MV.zero, DV.zero]) rfl ⟨rfl, ?_⟩
    (repeat (first | with_reducible refine Below.drew ?_ | with_reducible refine bdrewN ?_ _ | (with_reducible refine Below.setCell ?_ ?_ _; rotate_left; focus (first | exact Nat.le_refl _ | omega | (simp; omega) | (simp; done))) | (with_reducible refine Below.alloc ?_ ?_ _; rotate_left; focus (first | exact Nat.le_refl _ | omega | (simp; omega) | (simp; done))))); with_reducible exact HB.out
  · have hr := HQ.out.2 rfl
    subst hr
    have gL' := gW.out L gL
    have lL := hL.lt
    obtain ⟨a0, a1, a2, a3, a4, a5, a6, a7, a8, a9, a10, a11⟩ := id hL
    clear hV HE gL hL
    go_wp2
    go_region
    go_wp2
    refine bodyPost_ret (v := .tuple #[r.val, .int .i64 0]) (by simp [results, Try.results7, go_sem, rd]) rfl ⟨rfl, ?_⟩
    (repeat (first | with_reducible refine Below.drew ?_ | with_reducible refine bdrewN ?_ _ | (with_reducible refine Below.setCell ?_ ?_ _; rotate_left; focus (first | exact Nat.le_refl _ | omega | (simp; omega) | (simp; done))) | (with_reducible refine Below.alloc ?_ ?_ _; rotate_left; focus (first | exact Nat.le_refl _ | omega | (simp; omega) | (simp; done))))); with_reducible exact HB.out
end Go.Proofs.Ytpdjooeogpidhaa
