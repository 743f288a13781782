/- The walk of box's Map. -/
import Derived.Test.YtpdjooeogpidhaaBoxMapOk
import Derived.Test.YtpdjooeogpidhaaBoxMapBad
import Derived.Deep.DeepCutAuto
import Derived.Test.YtpdjooeogpidhaaBoxMath
namespace Go.Proofs.Ytpdjooeogpidhaa
open Go.RowKit Dec

theorem uncons {α : Type} {n : Nat} {l : List α} (h : l.length = n + 1) : ∃ a t, l = a :: t ∧ t.length = n := by
  cases l with
  | nil => cases h
  | cons a t => exact ⟨a, t, rfl, by simpa using h⟩
theorem set16 (l : List Value) (hl : l.length = 16) (x0 x1 x2 x3 x4 x5 x6 x7 x8 x9 x10 x11 x12 x13 x14 x15 : Value) : ((((((((((((((((l.toArray.setIfInBounds 0 x0).setIfInBounds 1 x1).setIfInBounds 2 x2).setIfInBounds 3 x3).setIfInBounds 4 x4).setIfInBounds 5 x5).setIfInBounds 6 x6).setIfInBounds 7 x7).setIfInBounds 8 x8).setIfInBounds 9 x9).setIfInBounds 10 x10).setIfInBounds 11 x11).setIfInBounds 12 x12).setIfInBounds 13 x13).setIfInBounds 14 x14).setIfInBounds 15 x15) = #[x0, x1, x2, x3, x4, x5, x6, x7, x8, x9, x10, x11, x12, x13, x14, x15] := by
  obtain ⟨a0, l0, rfl, h0⟩ := uncons hl
  obtain ⟨a1, l1, rfl, h1⟩ := uncons h0
  obtain ⟨a2, l2, rfl, h2⟩ := uncons h1
  obtain ⟨a3, l3, rfl, h3⟩ := uncons h2
  obtain ⟨a4, l4, rfl, h4⟩ := uncons h3
  obtain ⟨a5, l5, rfl, h5⟩ := uncons h4
  obtain ⟨a6, l6, rfl, h6⟩ := uncons h5
  obtain ⟨a7, l7, rfl, h7⟩ := uncons h6
  obtain ⟨a8, l8, rfl, h8⟩ := uncons h7
  obtain ⟨a9, l9, rfl, h9⟩ := uncons h8
  obtain ⟨a10, l10, rfl, h10⟩ := uncons h9
  obtain ⟨a11, l11, rfl, h11⟩ := uncons h10
  obtain ⟨a12, l12, rfl, h12⟩ := uncons h11
  obtain ⟨a13, l13, rfl, h13⟩ := uncons h12
  obtain ⟨a14, l14, rfl, h14⟩ := uncons h13
  obtain ⟨a15, l15, rfl, h15⟩ := uncons h14
  cases l15 with
  | nil => simp only [List.setIfInBounds_toArray, List.set_cons_zero, List.set_cons_succ]
  | cons _ _ => cases h15
theorem Whole.store16 {w : World} {B : Nat} {T : TypeId} {x0 x1 x2 x3 x4 x5 x6 x7 x8 x9 x10 x11 x12 x13 x14 x15 : Value} {cs : Array Value} (h : Whole w B T cs) (hs : cs.size = 16) :
    Whole ((((((((((((((((w.setCell ⟨B, 0, none⟩ x0).setCell ⟨B, 1, none⟩ x1).setCell ⟨B, 2, none⟩ x2).setCell ⟨B, 3, none⟩ x3).setCell ⟨B, 4, none⟩ x4).setCell ⟨B, 5, none⟩ x5).setCell ⟨B, 6, none⟩ x6).setCell ⟨B, 7, none⟩ x7).setCell ⟨B, 8, none⟩ x8).setCell ⟨B, 9, none⟩ x9).setCell ⟨B, 10, none⟩ x10).setCell ⟨B, 11, none⟩ x11).setCell ⟨B, 12, none⟩ x12).setCell ⟨B, 13, none⟩ x13).setCell ⟨B, 14, none⟩ x14).setCell ⟨B, 15, none⟩ x15) B T #[x0, x1, x2, x3, x4, x5, x6, x7, x8, x9, x10, x11, x12, x13, x14, x15] := by
  have h' := ((((((((((((((((h.set 0 x0).set 1 x1).set 2 x2).set 3 x3).set 4 x4).set 5 x5).set 6 x6).set 7 x7).set 8 x8).set 9 x9).set 10 x10).set 11 x11).set 12 x12).set 13 x13).set 14 x14).set 15 x15)
  obtain ⟨l⟩ := cs
  rw [set16 l hs] at h'
  exact h'
theorem Whole.fill16 {w : World} {B : Nat} {T : TypeId} {x0 x1 x2 x3 x4 x5 x6 x7 x8 x9 x10 x11 x12 x13 x14 x15 : Value} (h : Whole w B T #[.int .i64 0, .int .i64 0, .int .i64 0, .int .i64 0, .int .i64 0, .int .i64 0, .int .i64 0, .int .i64 0, .int .i64 0, .int .i64 0, .int .i64 0, .int .i64 0, .int .i64 0, .int .i64 0, .int .i64 0, .int .i64 0]) :
    Whole ((((((((((((((((w.setCell ⟨B, 0, none⟩ x0).setCell ⟨B, 1, none⟩ x1).setCell ⟨B, 2, none⟩ x2).setCell ⟨B, 3, none⟩ x3).setCell ⟨B, 4, none⟩ x4).setCell ⟨B, 5, none⟩ x5).setCell ⟨B, 6, none⟩ x6).setCell ⟨B, 7, none⟩ x7).setCell ⟨B, 8, none⟩ x8).setCell ⟨B, 9, none⟩ x9).setCell ⟨B, 10, none⟩ x10).setCell ⟨B, 11, none⟩ x11).setCell ⟨B, 12, none⟩ x12).setCell ⟨B, 13, none⟩ x13).setCell ⟨B, 14, none⟩ x14).setCell ⟨B, 15, none⟩ x15) B T #[x0, x1, x2, x3, x4, x5, x6, x7, x8, x9, x10, x11, x12, x13, x14, x15] := h.store16 rfl
theorem Whole.away16 {w : World} {g B : Nat} {T : TypeId} {x0 x1 x2 x3 x4 x5 x6 x7 x8 x9 x10 x11 x12 x13 x14 x15 : Value} {cs : Array Value} (h : Whole w g T cs) (hn : g ≠ B) :
    Whole ((((((((((((((((w.setCell ⟨B, 0, none⟩ x0).setCell ⟨B, 1, none⟩ x1).setCell ⟨B, 2, none⟩ x2).setCell ⟨B, 3, none⟩ x3).setCell ⟨B, 4, none⟩ x4).setCell ⟨B, 5, none⟩ x5).setCell ⟨B, 6, none⟩ x6).setCell ⟨B, 7, none⟩ x7).setCell ⟨B, 8, none⟩ x8).setCell ⟨B, 9, none⟩ x9).setCell ⟨B, 10, none⟩ x10).setCell ⟨B, 11, none⟩ x11).setCell ⟨B, 12, none⟩ x12).setCell ⟨B, 13, none⟩ x13).setCell ⟨B, 14, none⟩ x14).setCell ⟨B, 15, none⟩ x15) g T cs := ((((((((((((((((h.away (p := ⟨B, 0, none⟩) hn x0).away (p := ⟨B, 1, none⟩) hn x1).away (p := ⟨B, 2, none⟩) hn x2).away (p := ⟨B, 3, none⟩) hn x3).away (p := ⟨B, 4, none⟩) hn x4).away (p := ⟨B, 5, none⟩) hn x5).away (p := ⟨B, 6, none⟩) hn x6).away (p := ⟨B, 7, none⟩) hn x7).away (p := ⟨B, 8, none⟩) hn x8).away (p := ⟨B, 9, none⟩) hn x9).away (p := ⟨B, 10, none⟩) hn x10).away (p := ⟨B, 11, none⟩) hn x11).away (p := ⟨B, 12, none⟩) hn x12).away (p := ⟨B, 13, none⟩) hn x13).away (p := ⟨B, 14, none⟩) hn x14).away (p := ⟨B, 15, none⟩) hn x15)
theorem B16 {W w : World} {b B : Nat} {x0 x1 x2 x3 x4 x5 x6 x7 x8 x9 x10 x11 x12 x13 x14 x15 : Value} (hB : b ≤ B) (h : Below b W w) : Below b W ((((((((((((((((w.setCell ⟨B, 0, none⟩ x0).setCell ⟨B, 1, none⟩ x1).setCell ⟨B, 2, none⟩ x2).setCell ⟨B, 3, none⟩ x3).setCell ⟨B, 4, none⟩ x4).setCell ⟨B, 5, none⟩ x5).setCell ⟨B, 6, none⟩ x6).setCell ⟨B, 7, none⟩ x7).setCell ⟨B, 8, none⟩ x8).setCell ⟨B, 9, none⟩ x9).setCell ⟨B, 10, none⟩ x10).setCell ⟨B, 11, none⟩ x11).setCell ⟨B, 12, none⟩ x12).setCell ⟨B, 13, none⟩ x13).setCell ⟨B, 14, none⟩ x14).setCell ⟨B, 15, none⟩ x15) := ((((((((((((((((h.setCell hB _).setCell hB _).setCell hB _).setCell hB _).setCell hB _).setCell hB _).setCell hB _).setCell hB _).setCell hB _).setCell hB _).setCell hB _).setCell hB _).setCell hB _).setCell hB _).setCell hB _).setCell hB _)
theorem pat_four {w : World} {B : Nat} {T : TypeId} (g : Nat → PV) (h : Whole w B T (four g)) : ∀ i < 4, PAt w B (0 + i * 4) (g i) := fun i hi => by
  have k := four_at g i hi
  rw [Nat.zero_add]
  exact ⟨(h.reads _).trans k.1, (h.reads _).trans k.2.1, (h.reads _).trans k.2.2.1, (h.reads _).trans k.2.2.2⟩
theorem corn_ok (m : MV) (b : BV) (q : Nat → PV) (w : World) (hq : Hid (∀ i < 4, MapIs m (cornF b i) (q i) 0)) :
    Calls Try.prog 43 #[m.val, cornV b] w fun e w' => e = .returned (.tuple #[.agg (four q), .int .i64 0]) ∧ Below w.heap.size w w' := mapAll_ok m (cornF b) q w hq
theorem corn_bad (m : MV) (b : BV) (q : Nat → PV) (n : Nat) (E : Int) (w : World) (hn : n < 4) (hq : Hid (∀ i < n, MapIs m (cornF b i) (q i) 0)) (hb' : Hid (MapIs m (cornF b n) .zero E)) (he1 : (E != 0) = true) :
    Calls Try.prog 43 #[m.val, cornV b] w fun e w' => e = .returned (.tuple #[.agg (four fun _ => PV.zero), .int .i64 E]) ∧ Below w.heap.size w w' := mapAll_bad m (cornF b) q n E w hn hq hb' he1

def IsB (r : BV) (E : Int) (w : World) (e : Ending) (w' : World) : Prop := e = .returned (.tuple #[r.val, .int .i64 E]) ∧ Below w.heap.size w w'
set_option maxRecDepth 100000 in
set_option maxHeartbeats 8000000 in
theorem bmap_bad1 (m : MV) (b : BV) (w : World) (h : Hid (¬ m.Ok)) :
    Calls Try.prog 22 #[m.val, b.val] w (IsB .zero 1 w) := by
  go_enter Try.func22, Try.ntmps22
  have hM := ((MIn.made w 25 m).old (.cells #[.int .i64 b.x0.m, .int .i64 b.x0.s, .int .i64 b.y0.m, .int .i64 b.y0.s, .int .i64 b.x1.m, .int .i64 b.x1.s, .int .i64 b.y1.m, .int .i64 b.y1.s] 40)).old (.cells #[.int .i64 0, .int .i64 0, .int .i64 0, .int .i64 0, .int .i64 0, .int .i64 0, .int .i64 0, .int .i64 0] 40)
  have hB := (BIn.made (w.alloc (.cells #[.int .i64 m.a.m, .int .i64 m.a.s, .int .i64 m.b.m, .int .i64 m.b.s, .int .i64 m.c.m, .int .i64 m.c.s, .int .i64 m.d.m, .int .i64 m.d.s, .int .i64 m.e.m, .int .i64 m.e.s, .int .i64 m.f.m, .int .i64 m.f.s] 25)) 40 b).old (.cells #[.int .i64 0, .int .i64 0, .int .i64 0, .int .i64 0, .int .i64 0, .int .i64 0, .int .i64 0, .int .i64 0] 40)
  have hR := Whole.made ((w.alloc (.cells #[.int .i64 m.a.m, .int .i64 m.a.s, .int .i64 m.b.m, .int .i64 m.b.s, .int .i64 m.c.m, .int .i64 m.c.s, .int .i64 m.d.m, .int .i64 m.d.s, .int .i64 m.e.m, .int .i64 m.e.s, .int .i64 m.f.m, .int .i64 m.f.s] 25)).alloc (.cells #[.int .i64 b.x0.m, .int .i64 b.x0.s, .int .i64 b.y0.m, .int .i64 b.y0.s, .int .i64 b.x1.m, .int .i64 b.x1.s, .int .i64 b.y1.m, .int .i64 b.y1.s] 40)) 40 #[.int .i64 0, .int .i64 0, .int .i64 0, .int .i64 0, .int .i64 0, .int .i64 0, .int .i64 0, .int .i64 0]
  simp only [World.size_alloc] at hB hR
  have HB : Hid (Below w.heap.size w (((w.alloc (.cells #[.int .i64 m.a.m, .int .i64 m.a.s, .int .i64 m.b.m, .int .i64 m.b.s, .int .i64 m.c.m, .int .i64 m.c.s, .int .i64 m.d.m, .int .i64 m.d.s, .int .i64 m.e.m, .int .i64 m.e.s, .int .i64 m.f.m, .int .i64 m.f.s] 25)).alloc (.cells #[.int .i64 b.x0.m, .int .i64 b.x0.s, .int .i64 b.y0.m, .int .i64 b.y0.s, .int .i64 b.x1.m, .int .i64 b.x1.s, .int .i64 b.y1.m, .int .i64 b.y1.s] 40)).alloc (.cells #[.int .i64 0, .int .i64 0, .int .i64 0, .int .i64 0, .int .i64 0, .int .i64 0, .int .i64 0, .int .i64 0] 40))) := by
    unfold Hid
    (repeat (first | with_reducible exact Below.refl _ _ | with_reducible refine Below.drew ?_ | with_reducible refine bdrewN ?_ _ | (with_reducible refine Below.setCell ?_ ?_ _; rotate_left; focus (first | exact Nat.le_refl _ | omega | (simp; omega) | (simp; done))) | (with_reducible refine Below.alloc ?_ ?_ _; rotate_left; focus (first | exact Nat.le_refl _ | omega | (simp; omega) | (simp; done))) | (with_reducible refine Below.trans ?_ (Below.mono (by assumption) ?_); rotate_left; focus (first | exact Nat.le_refl _ | omega | (simp; omega) | (simp; done)))))
  go_wp2_with fail
  refine (mcheck_any m _ 1 (.inr ⟨h.out, rfl⟩)).mono ?_
  rintro e w1 ⟨rfl, b1⟩
  have HB := Lib.hid (HB.out.trans (b1.mono HB.out.size))
  have hM := hM.later b1
  have hB := hB.later b1
  have hR := hR.here b1
  clear b1
  have rd := hR.reads
  have ft := hR.thawed
  have lR := hR.lt
  go_wp2
  refine bodyPost_ret (v := .tuple #[BV.zero.val, .int .i64 1]) (by simp [results, Try.results22, go_sem, rd, BV.zero, DV.zero]) rfl ⟨rfl, ?_⟩
  (repeat (first | with_reducible refine Below.drew ?_ | with_reducible refine bdrewN ?_ _ | (with_reducible refine Below.setCell ?_ ?_ _; rotate_left; focus (first | exact Nat.le_refl _ | omega | (simp; omega) | (simp; done))) | (with_reducible refine Below.alloc ?_ ?_ _; rotate_left; focus (first | exact Nat.le_refl _ | omega | (simp; omega) | (simp; done))))); with_reducible exact HB.out
set_option maxRecDepth 100000 in
set_option maxHeartbeats 8000000 in
theorem bmap_bad2 (m : MV) (b : BV) (w : World) (h : Hid m.Ok) (h' : Hid (¬ b.Ok)) :
    Calls Try.prog 22 #[m.val, b.val] w (IsB .zero 1 w) := by
  go_enter Try.func22, Try.ntmps22
  have hM := ((MIn.made w 25 m).old (.cells #[.int .i64 b.x0.m, .int .i64 b.x0.s, .int .i64 b.y0.m, .int .i64 b.y0.s, .int .i64 b.x1.m, .int .i64 b.x1.s, .int .i64 b.y1.m, .int .i64 b.y1.s] 40)).old (.cells #[.int .i64 0, .int .i64 0, .int .i64 0, .int .i64 0, .int .i64 0, .int .i64 0, .int .i64 0, .int .i64 0] 40)
  have hB := (BIn.made (w.alloc (.cells #[.int .i64 m.a.m, .int .i64 m.a.s, .int .i64 m.b.m, .int .i64 m.b.s, .int .i64 m.c.m, .int .i64 m.c.s, .int .i64 m.d.m, .int .i64 m.d.s, .int .i64 m.e.m, .int .i64 m.e.s, .int .i64 m.f.m, .int .i64 m.f.s] 25)) 40 b).old (.cells #[.int .i64 0, .int .i64 0, .int .i64 0, .int .i64 0, .int .i64 0, .int .i64 0, .int .i64 0, .int .i64 0] 40)
  have hR := Whole.made ((w.alloc (.cells #[.int .i64 m.a.m, .int .i64 m.a.s, .int .i64 m.b.m, .int .i64 m.b.s, .int .i64 m.c.m, .int .i64 m.c.s, .int .i64 m.d.m, .int .i64 m.d.s, .int .i64 m.e.m, .int .i64 m.e.s, .int .i64 m.f.m, .int .i64 m.f.s] 25)).alloc (.cells #[.int .i64 b.x0.m, .int .i64 b.x0.s, .int .i64 b.y0.m, .int .i64 b.y0.s, .int .i64 b.x1.m, .int .i64 b.x1.s, .int .i64 b.y1.m, .int .i64 b.y1.s] 40)) 40 #[.int .i64 0, .int .i64 0, .int .i64 0, .int .i64 0, .int .i64 0, .int .i64 0, .int .i64 0, .int .i64 0]
  simp only [World.size_alloc] at hB hR
  have HB : Hid (Below w.heap.size w (((w.alloc (.cells #[.int .i64 m.a.m, .int .i64 m.a.s, .int .i64 m.b.m, .int .i64 m.b.s, .int .i64 m.c.m, .int .i64 m.c.s, .int .i64 m.d.m, .int .i64 m.d.s, .int .i64 m.e.m, .int .i64 m.e.s, .int .i64 m.f.m, .int .i64 m.f.s] 25)).alloc (.cells #[.int .i64 b.x0.m, .int .i64 b.x0.s, .int .i64 b.y0.m, .int .i64 b.y0.s, .int .i64 b.x1.m, .int .i64 b.x1.s, .int .i64 b.y1.m, .int .i64 b.y1.s] 40)).alloc (.cells #[.int .i64 0, .int .i64 0, .int .i64 0, .int .i64 0, .int .i64 0, .int .i64 0, .int .i64 0, .int .i64 0] 40))) := by
    unfold Hid
    (repeat (first | with_reducible exact Below.refl _ _ | with_reducible refine Below.drew ?_ | with_reducible refine bdrewN ?_ _ | (with_reducible refine Below.setCell ?_ ?_ _; rotate_left; focus (first | exact Nat.le_refl _ | omega | (simp; omega) | (simp; done))) | (with_reducible refine Below.alloc ?_ ?_ _; rotate_left; focus (first | exact Nat.le_refl _ | omega | (simp; omega) | (simp; done))) | (with_reducible refine Below.trans ?_ (Below.mono (by assumption) ?_); rotate_left; focus (first | exact Nat.le_refl _ | omega | (simp; omega) | (simp; done)))))
  go_wp2_with fail
  refine (mcheck_any m _ 0 (.inl ⟨h.out, rfl⟩)).mono ?_
  rintro e w1 ⟨rfl, b1⟩
  have HB := Lib.hid (HB.out.trans (b1.mono HB.out.size))
  have hM := hM.later b1
  have hB := hB.later b1
  have hR := hR.here b1
  clear b1
  have lM := hM.lt
  have lB := hB.lt
  have lR := hR.lt
  obtain ⟨q0, q1, q2, q3, q4, q5, q6, q7⟩ := id hB
  go_wp2_with fail
  refine (bcheck_any b _ 1 (.inr ⟨h'.out, rfl⟩)).mono ?_
  rintro e w2 ⟨rfl, b1⟩
  have HB := Lib.hid (HB.out.trans (b1.mono HB.out.size))
  have hM := hM.later b1
  have hB := hB.later b1
  have hR := hR.here b1
  clear b1 q0 q1 q2 q3 q4 q5 q6 q7 lM lB lR
  have rd := hR.reads
  have ft := hR.thawed
  have lR := hR.lt
  go_wp2
  refine bodyPost_ret (v := .tuple #[BV.zero.val, .int .i64 1]) (by simp [results, Try.results22, go_sem, rd, BV.zero, DV.zero]) rfl ⟨rfl, ?_⟩
  (repeat (first | with_reducible refine Below.drew ?_ | with_reducible refine bdrewN ?_ _ | (with_reducible refine Below.setCell ?_ ?_ _; rotate_left; focus (first | exact Nat.le_refl _ | omega | (simp; omega) | (simp; done))) | (with_reducible refine Below.alloc ?_ ?_ _; rotate_left; focus (first | exact Nat.le_refl _ | omega | (simp; omega) | (simp; done))))); with_reducible exact HB.out
end Go.Proofs.Ytpdjooeogpidhaa
/- The walk of box's Map, where one corner cannot be told. -/
namespace Go.Proofs.Ytpdjooeogpidhaa
open Go.RowKit Dec

set_option maxRecDepth 100000 in
set_option maxHeartbeats 8000000 in
theorem bmap_bad3 (m : MV) (b : BV) (q : Nat → PV) (n : Nat) (E : Int) (w : World) (h : Hid m.Ok) (h' : Hid b.Ok) (hn : n < 4) (hq : Hid (∀ i < n, MapIs m (cornF b i) (q i) 0)) (hb' : Hid (MapIs m (cornF b n) .zero E)) (he1 : (E != 0) = true) :
    Calls Try.prog 22 #[m.val, b.val] w (IsB .zero E w) := by
  go_enter Try.func22, Try.ntmps22
  have hM := ((MIn.made w 25 m).old (.cells #[.int .i64 b.x0.m, .int .i64 b.x0.s, .int .i64 b.y0.m, .int .i64 b.y0.s, .int .i64 b.x1.m, .int .i64 b.x1.s, .int .i64 b.y1.m, .int .i64 b.y1.s] 40)).old (.cells #[.int .i64 0, .int .i64 0, .int .i64 0, .int .i64 0, .int .i64 0, .int .i64 0, .int .i64 0, .int .i64 0] 40)
  have hB := (BIn.made (w.alloc (.cells #[.int .i64 m.a.m, .int .i64 m.a.s, .int .i64 m.b.m, .int .i64 m.b.s, .int .i64 m.c.m, .int .i64 m.c.s, .int .i64 m.d.m, .int .i64 m.d.s, .int .i64 m.e.m, .int .i64 m.e.s, .int .i64 m.f.m, .int .i64 m.f.s] 25)) 40 b).old (.cells #[.int .i64 0, .int .i64 0, .int .i64 0, .int .i64 0, .int .i64 0, .int .i64 0, .int .i64 0, .int .i64 0] 40)
  have hR := Whole.made ((w.alloc (.cells #[.int .i64 m.a.m, .int .i64 m.a.s, .int .i64 m.b.m, .int .i64 m.b.s, .int .i64 m.c.m, .int .i64 m.c.s, .int .i64 m.d.m, .int .i64 m.d.s, .int .i64 m.e.m, .int .i64 m.e.s, .int .i64 m.f.m, .int .i64 m.f.s] 25)).alloc (.cells #[.int .i64 b.x0.m, .int .i64 b.x0.s, .int .i64 b.y0.m, .int .i64 b.y0.s, .int .i64 b.x1.m, .int .i64 b.x1.s, .int .i64 b.y1.m, .int .i64 b.y1.s] 40)) 40 #[.int .i64 0, .int .i64 0, .int .i64 0, .int .i64 0, .int .i64 0, .int .i64 0, .int .i64 0, .int .i64 0]
  simp only [World.size_alloc] at hB hR
  have HB : Hid (Below w.heap.size w (((w.alloc (.cells #[.int .i64 m.a.m, .int .i64 m.a.s, .int .i64 m.b.m, .int .i64 m.b.s, .int .i64 m.c.m, .int .i64 m.c.s, .int .i64 m.d.m, .int .i64 m.d.s, .int .i64 m.e.m, .int .i64 m.e.s, .int .i64 m.f.m, .int .i64 m.f.s] 25)).alloc (.cells #[.int .i64 b.x0.m, .int .i64 b.x0.s, .int .i64 b.y0.m, .int .i64 b.y0.s, .int .i64 b.x1.m, .int .i64 b.x1.s, .int .i64 b.y1.m, .int .i64 b.y1.s] 40)).alloc (.cells #[.int .i64 0, .int .i64 0, .int .i64 0, .int .i64 0, .int .i64 0, .int .i64 0, .int .i64 0, .int .i64 0] 40))) := by
    unfold Hid
    (repeat (first | with_reducible exact Below.refl _ _ | with_reducible refine Below.drew ?_ | with_reducible refine bdrewN ?_ _ | (with_reducible refine Below.setCell ?_ ?_ _; rotate_left; focus (first | exact Nat.le_refl _ | omega | (simp; omega) | (simp; done))) | (with_reducible refine Below.alloc ?_ ?_ _; rotate_left; focus (first | exact Nat.le_refl _ | omega | (simp; omega) | (simp; done))) | (with_reducible refine Below.trans ?_ (Below.mono (by assumption) ?_); rotate_left; focus (first | exact Nat.le_refl _ | omega | (simp; omega) | (simp; done)))))
  go_wp2_with fail
  refine (mcheck_any m _ 0 (.inl ⟨h.out, rfl⟩)).mono ?_
  rintro e w1 ⟨rfl, b1⟩
  have HB := Lib.hid (HB.out.trans (b1.mono HB.out.size))
  have hM := hM.later b1
  have hB := hB.later b1
  have hR := hR.here b1
  clear b1
  have lM := hM.lt
  have lB := hB.lt
  have lR := hR.lt
  obtain ⟨q0, q1, q2, q3, q4, q5, q6, q7⟩ := id hB
  go_wp2_with fail
  refine (bcheck_any b _ 0 (.inl ⟨h'.out, rfl⟩)).mono ?_
  rintro e w2 ⟨rfl, b1⟩
  have HB := Lib.hid (HB.out.trans (b1.mono HB.out.size))
  have hM := hM.later b1
  have hB := hB.later b1
  have hR := hR.here b1
  clear b1 q0 q1 q2 q3 q4 q5 q6 q7 lM lB lR
  have hS := And.intro hM hB
  go_wp2_with fail
  have gR : w.heap.size ≤ w.heap.size + 1 + 1 := by omega
  generalize w.heap.size + 1 + 1 = bR at *
  generalize w.heap.size + 1 = bB at *
  have lw := HB.out.size
  have lM := hM.lt
  have lB := hB.lt
  have lR := hR.lt
  have HV := Below.refl w2.heap.size w2
  go_cut [8, 9] (fun s8 s9 wx => ∃ g : Nat, s8 = .pointer (some ⟨g, 0, none⟩) ∧ s9 = .int .i64 E ∧ Whole wx g 69 (four (fun _ => PV.zero)) ∧ Whole wx bR 40 #[.int .i64 0, .int .i64 0, .int .i64 0, .int .i64 0, .int .i64 0, .int .i64 0, .int .i64 0, .int .i64 0] ∧ Hid (Below w.heap.size w wx))
  case first =>
    go_region_held3 (fun v => (v.cell? ⟨w.heap.size, 0, none⟩ = some (.int .i64 m.a.m) ∧ v.cell? ⟨w.heap.size, 1, none⟩ = some (.int .i64 m.a.s) ∧ v.cell? ⟨w.heap.size, 2, none⟩ = some (.int .i64 m.b.m) ∧ v.cell? ⟨w.heap.size, 3, none⟩ = some (.int .i64 m.b.s) ∧ v.cell? ⟨w.heap.size, 4, none⟩ = some (.int .i64 m.c.m) ∧ v.cell? ⟨w.heap.size, 5, none⟩ = some (.int .i64 m.c.s) ∧ v.cell? ⟨w.heap.size, 6, none⟩ = some (.int .i64 m.d.m) ∧ v.cell? ⟨w.heap.size, 7, none⟩ = some (.int .i64 m.d.s) ∧ v.cell? ⟨w.heap.size, 8, none⟩ = some (.int .i64 m.e.m) ∧ v.cell? ⟨w.heap.size, 9, none⟩ = some (.int .i64 m.e.s) ∧ v.cell? ⟨w.heap.size, 10, none⟩ = some (.int .i64 m.f.m) ∧ v.cell? ⟨w.heap.size, 11, none⟩ = some (.int .i64 m.f.s)) ∧ (v.cell? ⟨bB, 0, none⟩ = some (.int .i64 b.x0.m) ∧ v.cell? ⟨bB, 1, none⟩ = some (.int .i64 b.x0.s) ∧ v.cell? ⟨bB, 2, none⟩ = some (.int .i64 b.y0.m) ∧ v.cell? ⟨bB, 3, none⟩ = some (.int .i64 b.y0.s) ∧ v.cell? ⟨bB, 4, none⟩ = some (.int .i64 b.x1.m) ∧ v.cell? ⟨bB, 5, none⟩ = some (.int .i64 b.x1.s) ∧ v.cell? ⟨bB, 6, none⟩ = some (.int .i64 b.y1.m) ∧ v.cell? ⟨bB, 7, none⟩ = some (.int .i64 b.y1.s))) (first | with_reducible assumption | with_reducible exact And.intro (MIn.later hS.1 HV) (BIn.later hS.2 HV) | with_reducible exact And.intro (MIn.later hS.1 (Below.drew HV)) (BIn.later hS.2 (Below.drew HV)) | with_reducible exact And.intro (MIn.later hS.1 (HV.alloc HV.size _)) (BIn.later hS.2 (HV.alloc HV.size _)) | with_reducible exact And.intro (MIn.later hS.1 (Below.drew (HV.alloc HV.size _))) (BIn.later hS.2 (Below.drew (HV.alloc HV.size _))) | with_reducible exact And.intro (MIn.later hS.1 (B16 gB HV)) (BIn.later hS.2 (B16 gB HV)) | with_reducible exact And.intro (MIn.later hS.1 (B16 gB (Below.drew HV))) (BIn.later hS.2 (B16 gB (Below.drew HV))) | go_keep)
      (first
        | (go_at_call 42; (with_reducible refine (corners_any b _).mono ?_); rintro e v ⟨rfl, k⟩; (first | (with_reducible have k := undrew k) | skip); (first | (with_reducible have HN := Below.trans HV (k.mono HV.size); have HV := HN; clear HN; (first | (with_reducible have hG := Whole.here hG k; have lG := Whole.lt hG; have rg := Whole.reads hG; have fg := Whole.thawed hG) | skip)) | (with_reducible have HN := Below.trans (HV.alloc HV.size _) (k.mono (HV.alloc HV.size _).size); have gB := HV.size; have HV := HN; clear HN; have hG := (Whole.made _ 69 #[.int .i64 0, .int .i64 0, .int .i64 0, .int .i64 0, .int .i64 0, .int .i64 0, .int .i64 0, .int .i64 0, .int .i64 0, .int .i64 0, .int .i64 0, .int .i64 0, .int .i64 0, .int .i64 0, .int .i64 0, .int .i64 0]).here k; have lG := Whole.lt hG; have rg := Whole.reads hG; have fg := Whole.thawed hG)))
        | (go_at_call 43; (with_reducible refine (corn_bad m b q n E _ hn hq hb' he1).mono ?_); rintro e v ⟨rfl, k⟩; (first | (with_reducible have k := undrew k) | skip); (first | (with_reducible have HN := Below.trans HV (k.mono HV.size); have HV := HN; clear HN; (first | (with_reducible have hG := Whole.here hG k; have lG := Whole.lt hG; have rg := Whole.reads hG; have fg := Whole.thawed hG) | skip)) | (with_reducible have HN := Below.trans (HV.alloc HV.size _) (k.mono (HV.alloc HV.size _).size); have gB := HV.size; have HV := HN; clear HN; have hG := (Whole.made _ 69 #[.int .i64 0, .int .i64 0, .int .i64 0, .int .i64 0, .int .i64 0, .int .i64 0, .int .i64 0, .int .i64 0, .int .i64 0, .int .i64 0, .int .i64 0, .int .i64 0, .int .i64 0, .int .i64 0, .int .i64 0, .int .i64 0]).here k; have lG := Whole.lt hG; have rg := Whole.reads hG; have fg := Whole.thawed hG))))
    all_goals
      go_wp2_with fail
      go_meet
      refine ⟨_, rfl, rfl, ?_, ?_, ?_⟩
      · first
          | with_reducible exact Whole.fill16 hG
          | with_reducible exact Whole.made _ _ _
          | (trace "1"; sorry)
      · first
          | with_reducible exact (hR.here HV).away16 (Nat.ne_of_lt (Nat.lt_of_lt_of_le lR gB))
          | with_reducible exact (hR.here HV).old _
          | (trace "2"; sorry)
      · first
          | with_reducible exact Lib.hid (B16 (Nat.le_trans lw gB) (HB.out.trans (HV.mono HB.out.size)))
          | with_reducible exact Lib.hid ((HB.out.trans (HV.mono HB.out.size)).alloc (Nat.le_trans lw HV.size) _)
          | (trace "3"; sorry)
  case rest =>
    clear hS HB HV hM hB hR lM lB lR lw
    obtain ⟨g, rfl, rfl, hG, hR, HB⟩ := hcut
    have lG := hG.lt
    have lR := hR.lt
    have rd := hR.reads
    have ft := hR.thawed
    have lR := hR.lt
    go_wp2
    refine bodyPost_ret (v := .tuple #[BV.zero.val, .int .i64 E]) (by simp [results, Try.results22, go_sem, rd, BV.zero, DV.zero]) rfl ⟨rfl, ?_⟩
    (repeat (first | with_reducible refine Below.drew ?_ | with_reducible refine bdrewN ?_ _ | (with_reducible refine Below.setCell ?_ ?_ _; rotate_left; focus (first | exact Nat.le_refl _ | omega | (simp; omega) | (simp; done))) | (with_reducible refine Below.alloc ?_ ?_ _; rotate_left; focus (first | exact Nat.le_refl _ | omega | (simp; omega) | (simp; done))))); with_reducible exact HB.out
end Go.Proofs.Ytpdjooeogpidhaa
/- The walk of box's Map, where all can. -/
namespace Go.Proofs.Ytpdjooeogpidhaa
open Go.RowKit Dec

set_option maxRecDepth 100000 in
set_option maxHeartbeats 8000000 in
theorem bmap_ok (m : MV) (b r : BV) (q : Nat → PV) (w : World) (h : Hid m.Ok) (h' : Hid b.Ok) (hq : Hid (∀ i < 4, MapIs m (cornF b i) (q i) 0)) (hr : Hid (OfIs q 4 r 0)) :
    Calls Try.prog 22 #[m.val, b.val] w (IsB r 0 w) := by
  go_enter Try.func22, Try.ntmps22
  have hM := ((MIn.made w 25 m).old (.cells #[.int .i64 b.x0.m, .int .i64 b.x0.s, .int .i64 b.y0.m, .int .i64 b.y0.s, .int .i64 b.x1.m, .int .i64 b.x1.s, .int .i64 b.y1.m, .int .i64 b.y1.s] 40)).old (.cells #[.int .i64 0, .int .i64 0, .int .i64 0, .int .i64 0, .int .i64 0, .int .i64 0, .int .i64 0, .int .i64 0] 40)
  have hB := (BIn.made (w.alloc (.cells #[.int .i64 m.a.m, .int .i64 m.a.s, .int .i64 m.b.m, .int .i64 m.b.s, .int .i64 m.c.m, .int .i64 m.c.s, .int .i64 m.d.m, .int .i64 m.d.s, .int .i64 m.e.m, .int .i64 m.e.s, .int .i64 m.f.m, .int .i64 m.f.s] 25)) 40 b).old (.cells #[.int .i64 0, .int .i64 0, .int .i64 0, .int .i64 0, .int .i64 0, .int .i64 0, .int .i64 0, .int .i64 0] 40)
  have hR := Whole.made ((w.alloc (.cells #[.int .i64 m.a.m, .int .i64 m.a.s, .int .i64 m.b.m, .int .i64 m.b.s, .int .i64 m.c.m, .int .i64 m.c.s, .int .i64 m.d.m, .int .i64 m.d.s, .int .i64 m.e.m, .int .i64 m.e.s, .int .i64 m.f.m, .int .i64 m.f.s] 25)).alloc (.cells #[.int .i64 b.x0.m, .int .i64 b.x0.s, .int .i64 b.y0.m, .int .i64 b.y0.s, .int .i64 b.x1.m, .int .i64 b.x1.s, .int .i64 b.y1.m, .int .i64 b.y1.s] 40)) 40 #[.int .i64 0, .int .i64 0, .int .i64 0, .int .i64 0, .int .i64 0, .int .i64 0, .int .i64 0, .int .i64 0]
  simp only [World.size_alloc] at hB hR
  have HB : Hid (Below w.heap.size w (((w.alloc (.cells #[.int .i64 m.a.m, .int .i64 m.a.s, .int .i64 m.b.m, .int .i64 m.b.s, .int .i64 m.c.m, .int .i64 m.c.s, .int .i64 m.d.m, .int .i64 m.d.s, .int .i64 m.e.m, .int .i64 m.e.s, .int .i64 m.f.m, .int .i64 m.f.s] 25)).alloc (.cells #[.int .i64 b.x0.m, .int .i64 b.x0.s, .int .i64 b.y0.m, .int .i64 b.y0.s, .int .i64 b.x1.m, .int .i64 b.x1.s, .int .i64 b.y1.m, .int .i64 b.y1.s] 40)).alloc (.cells #[.int .i64 0, .int .i64 0, .int .i64 0, .int .i64 0, .int .i64 0, .int .i64 0, .int .i64 0, .int .i64 0] 40))) := by
    unfold Hid
    (repeat (first | with_reducible exact Below.refl _ _ | with_reducible refine Below.drew ?_ | with_reducible refine bdrewN ?_ _ | (with_reducible refine Below.setCell ?_ ?_ _; rotate_left; focus (first | exact Nat.le_refl _ | omega | (simp; omega) | (simp; done))) | (with_reducible refine Below.alloc ?_ ?_ _; rotate_left; focus (first | exact Nat.le_refl _ | omega | (simp; omega) | (simp; done))) | (with_reducible refine Below.trans ?_ (Below.mono (by assumption) ?_); rotate_left; focus (first | exact Nat.le_refl _ | omega | (simp; omega) | (simp; done)))))
  go_wp2_with fail
  refine (mcheck_any m _ 0 (.inl ⟨h.out, rfl⟩)).mono ?_
  rintro e w1 ⟨rfl, b1⟩
  have HB := Lib.hid (HB.out.trans (b1.mono HB.out.size))
  have hM := hM.later b1
  have hB := hB.later b1
  have hR := hR.here b1
  clear b1
  have lM := hM.lt
  have lB := hB.lt
  have lR := hR.lt
  obtain ⟨q0, q1, q2, q3, q4, q5, q6, q7⟩ := id hB
  go_wp2_with fail
  refine (bcheck_any b _ 0 (.inl ⟨h'.out, rfl⟩)).mono ?_
  rintro e w2 ⟨rfl, b1⟩
  have HB := Lib.hid (HB.out.trans (b1.mono HB.out.size))
  have hM := hM.later b1
  have hB := hB.later b1
  have hR := hR.here b1
  clear b1 q0 q1 q2 q3 q4 q5 q6 q7 lM lB lR
  have hS := And.intro hM hB
  go_wp2_with fail
  have gR : w.heap.size ≤ w.heap.size + 1 + 1 := by omega
  generalize w.heap.size + 1 + 1 = bR at *
  generalize w.heap.size + 1 = bB at *
  have lw := HB.out.size
  have lM := hM.lt
  have lB := hB.lt
  have lR := hR.lt
  have HV := Below.refl w2.heap.size w2
  go_cut [8, 9] (fun s8 s9 wx => ∃ g : Nat, s8 = .pointer (some ⟨g, 0, none⟩) ∧ s9 = .int .i64 0 ∧ Whole wx g 69 (four q) ∧ Whole wx bR 40 #[.int .i64 0, .int .i64 0, .int .i64 0, .int .i64 0, .int .i64 0, .int .i64 0, .int .i64 0, .int .i64 0] ∧ Hid (Below w.heap.size w wx))
  case first =>
    go_region_held3 (fun v => (v.cell? ⟨w.heap.size, 0, none⟩ = some (.int .i64 m.a.m) ∧ v.cell? ⟨w.heap.size, 1, none⟩ = some (.int .i64 m.a.s) ∧ v.cell? ⟨w.heap.size, 2, none⟩ = some (.int .i64 m.b.m) ∧ v.cell? ⟨w.heap.size, 3, none⟩ = some (.int .i64 m.b.s) ∧ v.cell? ⟨w.heap.size, 4, none⟩ = some (.int .i64 m.c.m) ∧ v.cell? ⟨w.heap.size, 5, none⟩ = some (.int .i64 m.c.s) ∧ v.cell? ⟨w.heap.size, 6, none⟩ = some (.int .i64 m.d.m) ∧ v.cell? ⟨w.heap.size, 7, none⟩ = some (.int .i64 m.d.s) ∧ v.cell? ⟨w.heap.size, 8, none⟩ = some (.int .i64 m.e.m) ∧ v.cell? ⟨w.heap.size, 9, none⟩ = some (.int .i64 m.e.s) ∧ v.cell? ⟨w.heap.size, 10, none⟩ = some (.int .i64 m.f.m) ∧ v.cell? ⟨w.heap.size, 11, none⟩ = some (.int .i64 m.f.s)) ∧ (v.cell? ⟨bB, 0, none⟩ = some (.int .i64 b.x0.m) ∧ v.cell? ⟨bB, 1, none⟩ = some (.int .i64 b.x0.s) ∧ v.cell? ⟨bB, 2, none⟩ = some (.int .i64 b.y0.m) ∧ v.cell? ⟨bB, 3, none⟩ = some (.int .i64 b.y0.s) ∧ v.cell? ⟨bB, 4, none⟩ = some (.int .i64 b.x1.m) ∧ v.cell? ⟨bB, 5, none⟩ = some (.int .i64 b.x1.s) ∧ v.cell? ⟨bB, 6, none⟩ = some (.int .i64 b.y1.m) ∧ v.cell? ⟨bB, 7, none⟩ = some (.int .i64 b.y1.s))) (first | with_reducible assumption | with_reducible exact And.intro (MIn.later hS.1 HV) (BIn.later hS.2 HV) | with_reducible exact And.intro (MIn.later hS.1 (Below.drew HV)) (BIn.later hS.2 (Below.drew HV)) | with_reducible exact And.intro (MIn.later hS.1 (HV.alloc HV.size _)) (BIn.later hS.2 (HV.alloc HV.size _)) | with_reducible exact And.intro (MIn.later hS.1 (Below.drew (HV.alloc HV.size _))) (BIn.later hS.2 (Below.drew (HV.alloc HV.size _))) | with_reducible exact And.intro (MIn.later hS.1 (B16 gB HV)) (BIn.later hS.2 (B16 gB HV)) | with_reducible exact And.intro (MIn.later hS.1 (B16 gB (Below.drew HV))) (BIn.later hS.2 (B16 gB (Below.drew HV))) | go_keep)
      (first
        | (go_at_call 42; (with_reducible refine (corners_any b _).mono ?_); rintro e v ⟨rfl, k⟩; (first | (with_reducible have k := undrew k) | skip); (first | (with_reducible have HN := Below.trans HV (k.mono HV.size); have HV := HN; clear HN; (first | (with_reducible have hG := Whole.here hG k; have lG := Whole.lt hG; have rg := Whole.reads hG; have fg := Whole.thawed hG) | skip)) | (with_reducible have HN := Below.trans (HV.alloc HV.size _) (k.mono (HV.alloc HV.size _).size); have gB := HV.size; have HV := HN; clear HN; have hG := (Whole.made _ 69 #[.int .i64 0, .int .i64 0, .int .i64 0, .int .i64 0, .int .i64 0, .int .i64 0, .int .i64 0, .int .i64 0, .int .i64 0, .int .i64 0, .int .i64 0, .int .i64 0, .int .i64 0, .int .i64 0, .int .i64 0, .int .i64 0]).here k; have lG := Whole.lt hG; have rg := Whole.reads hG; have fg := Whole.thawed hG)))
        | (go_at_call 43; (with_reducible refine (corn_ok m b q _ hq).mono ?_); rintro e v ⟨rfl, k⟩; (first | (with_reducible have k := undrew k) | skip); (first | (with_reducible have HN := Below.trans HV (k.mono HV.size); have HV := HN; clear HN; (first | (with_reducible have hG := Whole.here hG k; have lG := Whole.lt hG; have rg := Whole.reads hG; have fg := Whole.thawed hG) | skip)) | (with_reducible have HN := Below.trans (HV.alloc HV.size _) (k.mono (HV.alloc HV.size _).size); have gB := HV.size; have HV := HN; clear HN; have hG := (Whole.made _ 69 #[.int .i64 0, .int .i64 0, .int .i64 0, .int .i64 0, .int .i64 0, .int .i64 0, .int .i64 0, .int .i64 0, .int .i64 0, .int .i64 0, .int .i64 0, .int .i64 0, .int .i64 0, .int .i64 0, .int .i64 0, .int .i64 0]).here k; have lG := Whole.lt hG; have rg := Whole.reads hG; have fg := Whole.thawed hG))))
    all_goals
      go_wp2_with fail
      go_meet
      refine ⟨_, rfl, rfl, ?_, ?_, ?_⟩
      · first
          | with_reducible exact Whole.fill16 hG
          | with_reducible exact Whole.made _ _ _
          | (trace "1"; sorry)
      · first
          | with_reducible exact (hR.here HV).away16 (Nat.ne_of_lt (Nat.lt_of_lt_of_le lR gB))
          | with_reducible exact (hR.here HV).old _
          | (trace "2"; sorry)
      · first
          | with_reducible exact Lib.hid (B16 (Nat.le_trans lw gB) (HB.out.trans (HV.mono HB.out.size)))
          | with_reducible exact Lib.hid ((HB.out.trans (HV.mono HB.out.size)).alloc (Nat.le_trans lw HV.size) _)
          | (trace "3"; sorry)
  case rest =>
    clear hS HB HV hM hB hR lM lB lR lw
    obtain ⟨g, rfl, rfl, hG, hR, HB⟩ := hcut
    have lG := hG.lt
    have lR := hR.lt
    go_wp2_with fail
    refine (of_any q 4 4 g 0 _ r 0 (by omega) (by omega) (Lib.hid (pat_four q hG)) hr).mono ?_
    rintro e w3 ⟨rfl, b1⟩
    have HB := Lib.hid (HB.out.trans (b1.mono HB.out.size))
    have hR := hR.here b1
    clear b1 lG hG lR
    have rd := hR.reads
    have ft := hR.thawed
    have lR := hR.lt
    go_wp2
    refine bodyPost_ret (v := .tuple #[r.val, .int .i64 0]) (by simp [results, Try.results22, go_sem, rd]) rfl ⟨rfl, ?_⟩
    (repeat (first | with_reducible refine Below.drew ?_ | with_reducible refine bdrewN ?_ _ | (with_reducible refine Below.setCell ?_ ?_ _; rotate_left; focus (first | exact Nat.le_refl _ | omega | (simp; omega) | (simp; done))) | (with_reducible refine Below.alloc ?_ ?_ _; rotate_left; focus (first | exact Nat.le_refl _ | omega | (simp; omega) | (simp; done))))); with_reducible exact HB.out
end Go.Proofs.Ytpdjooeogpidhaa
/- The plain mathematics of BoxHolds: a point of a box is mapped into the box that it is mapped to; a point's box within a box. No program stands in it. -/
namespace Go.Proofs.Ytpdjooeogpidhaa
open Go.RowKit Dec

/-- What is linear in x and y lies, for x and y between their ends, between what it is at two of the corners. -/
theorem lin_low (a c x y x0 x1 y0 y1 : Int) (h0 : x0 ≤ x) (h1 : x ≤ x1) (h2 : y0 ≤ y) (h3 : y ≤ y1) :
    ∃ u v, (u = x0 ∨ u = x1) ∧ (v = y0 ∨ v = y1) ∧ a * u + c * v ≤ a * x + c * y := by
  have pa : ∃ u, (u = x0 ∨ u = x1) ∧ a * u ≤ a * x := by
    by_cases ha : 0 ≤ a
    · exact ⟨x0, .inl rfl, Int.mul_le_mul_of_nonneg_left h0 ha⟩
    · exact ⟨x1, .inr rfl, Int.mul_le_mul_of_nonpos_left (by omega) h1⟩
  have pc : ∃ v, (v = y0 ∨ v = y1) ∧ c * v ≤ c * y := by
    by_cases hc : 0 ≤ c
    · exact ⟨y0, .inl rfl, Int.mul_le_mul_of_nonneg_left h2 hc⟩
    · exact ⟨y1, .inr rfl, Int.mul_le_mul_of_nonpos_left (by omega) h3⟩
  obtain ⟨u, hu, h⟩ := pa
  obtain ⟨v, hv, h'⟩ := pc
  exact ⟨u, v, hu, hv, by omega⟩
theorem lin_high (a c x y x0 x1 y0 y1 : Int) (h0 : x0 ≤ x) (h1 : x ≤ x1) (h2 : y0 ≤ y) (h3 : y ≤ y1) :
    ∃ u v, (u = x0 ∨ u = x1) ∧ (v = y0 ∨ v = y1) ∧ a * x + c * y ≤ a * u + c * v := by
  obtain ⟨u, v, hu, hv, h⟩ := lin_low (-a) (-c) x y x0 x1 y0 y1 h0 h1 h2 h3
  refine ⟨u, v, hu, hv, ?_⟩
  simp only [Int.neg_mul] at h
  omega
/-- Which corner it is. -/
theorem corner_of (b : BV) (u v : Int) (hu : u = b.x0.v ∨ u = b.x1.v) (hv : v = b.y0.v ∨ v = b.y1.v) : ∃ i < 4, (cornF b i).x.v = u ∧ (cornF b i).y.v = v := by
  rcases hu with rfl | rfl <;> rcases hv with rfl | rfl
  · exact ⟨0, by omega, rfl, rfl⟩
  · exact ⟨2, by omega, rfl, rfl⟩
  · exact ⟨1, by omega, rfl, rfl⟩
  · exact ⟨3, by omega, rfl, rfl⟩
/-- A point lies in a box. -/
def InB (b : BV) (p : PV) : Prop := b.x0.v ≤ p.x.v ∧ p.x.v ≤ b.x1.v ∧ b.y0.v ≤ p.y.v ∧ p.y.v ≤ b.y1.v
theorem maps_in {m : MV} {b : BV} {p r : PV} {q : Nat → PV} (hp : InB b p) (hq : ∀ i < 4, MapIs m (cornF b i) (q i) 0) (hr : MapIs m p r 0) : InB (ofN q 4) r := by
  obtain ⟨h0, h1, h2, h3⟩ := hp
  obtain ⟨-, -, rx, ry⟩ := hr.val
  have hok : ∀ i < 4, (q i).Ok := fun i hi => (hq i hi).ok.1
  obtain ⟨-, hle, -, -, -, -⟩ := ofN_ok q 4 (by omega) hok
  have key : ∀ u v, (u = b.x0.v ∨ u = b.x1.v) → (v = b.y0.v ∨ v = b.y1.v) →
      ∃ i < 4, (q i).x.v * 1000000000 = m.a.v * u + m.c.v * v + m.e.v * 1000000000 ∧ (q i).y.v * 1000000000 = m.b.v * u + m.d.v * v + m.f.v * 1000000000 := by
    intro u v hu hv
    obtain ⟨i, hi, e1, e2⟩ := corner_of b u v hu hv
    obtain ⟨-, -, qx, qy⟩ := (hq i hi).val
    rw [e1, e2] at qx qy
    exact ⟨i, hi, qx, qy⟩
  refine ⟨?_, ?_, ?_, ?_⟩
  · obtain ⟨u, v, hu, hv, h⟩ := lin_low m.a.v m.c.v p.x.v p.y.v _ _ _ _ h0 h1 h2 h3
    obtain ⟨i, hi, qx, -⟩ := key u v hu hv
    have := (hle i hi).1
    omega
  · obtain ⟨u, v, hu, hv, h⟩ := lin_high m.a.v m.c.v p.x.v p.y.v _ _ _ _ h0 h1 h2 h3
    obtain ⟨i, hi, qx, -⟩ := key u v hu hv
    have := (hle i hi).2.2.1
    omega
  · obtain ⟨u, v, hu, hv, h⟩ := lin_low m.b.v m.d.v p.x.v p.y.v _ _ _ _ h0 h1 h2 h3
    obtain ⟨i, hi, -, qy⟩ := key u v hu hv
    have := (hle i hi).2.1
    omega
  · obtain ⟨u, v, hu, hv, h⟩ := lin_high m.b.v m.d.v p.x.v p.y.v _ _ _ _ h0 h1 h2 h3
    obtain ⟨i, hi, -, qy⟩ := key u v hu hv
    have := (hle i hi).2.2.2
    omega
/-- A point's own box. -/
def dotB (p : PV) : BV := ⟨p.x, p.y, p.x, p.y⟩
theorem dotB_ok {p : PV} (h : p.Ok) : (dotB p).Ok := ⟨leB_self h.1, leB_self h.2⟩
theorem ofN_dot {p : PV} (h : p.Ok) : ofN (fun _ => p) 1 = dotB p :=
  BV.ext' (lesD_yes (leB_self h.1)) (lesD_yes (leB_self h.2)) (greD_yes (leB_self h.1)) (greD_yes (leB_self h.2))
theorem of_dot {p : PV} (h : p.Ok) : OfIs (fun _ => p) 1 (dotB p) 0 := .inr (.inr ⟨by omega, fun _ _ => h, (ofN_dot h).symm, rfl⟩)
/-- A box of points is a box. -/
theorem ofN_box (f : Nat → PV) (n : Nat) (hn : 0 < n) (h : ∀ i < n, (f i).Ok) : (ofN f n).Ok := by
  obtain ⟨⟨o0, o1, o2, o3⟩, hle, -⟩ := ofN_ok f n hn h
  have := hle 0 hn
  exact ⟨leB_iff.2 ⟨o0, o2, by omega⟩, leB_iff.2 ⟨o1, o3, by omega⟩⟩
/-- The least box around a box and a point within it is that box. -/
theorem join_dot {b : BV} {p : PV} (hb : b.Ok) (hp : p.Ok) (h : InB b p) : joinB b (dotB p) = b := by
  have hx := leB_iff.1 hb.1
  have hy := leB_iff.1 hb.2
  obtain ⟨h0, h1, h2, h3⟩ := h
  refine BV.ext' (lesD_yes (leB_iff.2 ⟨hx.1, hp.1, h0⟩)) (lesD_yes (leB_iff.2 ⟨hy.1, hp.2, h2⟩)) ?_ ?_
  · exact (greD_is hx.2.1 hp.1 hx.2.1 (Int.le_refl _) h1 (.inl (Int.le_refl _))).symm
  · exact (greD_is hy.2.1 hp.2 hy.2.1 (Int.le_refl _) h3 (.inl (Int.le_refl _))).symm
theorem ofN_in (f : Nat → PV) (n : Nat) (h : ∀ i < n, (f i).Ok) (i : Nat) (hi : i < n) : InB (ofN f n) (f i) := by
  obtain ⟨-, hle, -⟩ := ofN_ok f n (by omega) h
  have := hle i hi
  exact ⟨this.1, this.2.2.1, this.2.1, this.2.2.2⟩
end Go.Proofs.Ytpdjooeogpidhaa
/- What box's Map answers, whatever its arguments; Of at no points. -/
namespace Go.Proofs.Ytpdjooeogpidhaa
open Go.RowKit Dec

theorem MapIs.void {m : MV} {p r : PV} {E : Int} (h : MapIs m p r E) (hE : E ≠ 0) : r = .zero := by
  rcases h with ⟨-, -, x, y, ex, ey, hx, hy, h⟩ | ⟨-, h, -⟩
  · rcases h with ⟨-, h, -⟩ | ⟨-, -, h, -⟩ | ⟨-, -, -, h⟩
    · exact h
    · exact h
    · exact absurd h hE
  · exact h
/-- What Map answers of a box. -/
def BMapIs (m : MV) (b r : BV) (E : Int) : Prop :=
  (¬ m.Ok ∧ r = .zero ∧ E = 1) ∨ (m.Ok ∧ ¬ b.Ok ∧ r = .zero ∧ E = 1) ∨
  (m.Ok ∧ b.Ok ∧ ∃ (q : Nat → PV) (n : Nat), n < 4 ∧ (∀ i < n, MapIs m (cornF b i) (q i) 0) ∧ MapIs m (cornF b n) .zero E ∧ E ≠ 0 ∧ r = .zero) ∨
  (m.Ok ∧ b.Ok ∧ ∃ q : Nat → PV, (∀ i < 4, MapIs m (cornF b i) (q i) 0) ∧ r = ofN q 4 ∧ E = 0)
theorem BMapIs.total (m : MV) (b : BV) : ∃ r E, BMapIs m b r E := by
  by_cases hm : m.Ok
  · by_cases hb : b.Ok
    · obtain ⟨q0, e0, h0⟩ := MapIs.total m (cornF b 0)
      obtain ⟨q1, e1, h1⟩ := MapIs.total m (cornF b 1)
      obtain ⟨q2, e2, h2⟩ := MapIs.total m (cornF b 2)
      obtain ⟨q3, e3, h3⟩ := MapIs.total m (cornF b 3)
      let q : Nat → PV := fun i => match i with | 0 => q0 | 1 => q1 | 2 => q2 | _ => q3
      by_cases k0 : e0 = 0
      · subst k0
        by_cases k1 : e1 = 0
        · subst k1
          by_cases k2 : e2 = 0
          · subst k2
            by_cases k3 : e3 = 0
            · subst k3
              refine ⟨_, _, .inr (.inr (.inr ⟨hm, hb, q, fun i hi => ?_, rfl, rfl⟩))⟩
              rcases (by omega : i = 0 ∨ i = 1 ∨ i = 2 ∨ i = 3) with rfl | rfl | rfl | rfl
              · exact h0
              · exact h1
              · exact h2
              · exact h3
            · refine ⟨_, _, .inr (.inr (.inl ⟨hm, hb, q, 3, by omega, fun i hi => ?_, h3.void k3 ▸ h3, k3, rfl⟩))⟩
              rcases (by omega : i = 0 ∨ i = 1 ∨ i = 2) with rfl | rfl | rfl
              · exact h0
              · exact h1
              · exact h2
          · refine ⟨_, _, .inr (.inr (.inl ⟨hm, hb, q, 2, by omega, fun i hi => ?_, h2.void k2 ▸ h2, k2, rfl⟩))⟩
            rcases (by omega : i = 0 ∨ i = 1) with rfl | rfl
            · exact h0
            · exact h1
        · refine ⟨_, _, .inr (.inr (.inl ⟨hm, hb, q, 1, by omega, fun i hi => ?_, h1.void k1 ▸ h1, k1, rfl⟩))⟩
          obtain rfl : i = 0 := by omega
          exact h0
      · exact ⟨_, _, .inr (.inr (.inl ⟨hm, hb, q, 0, by omega, fun i hi => absurd hi (by omega), h0.void k0 ▸ h0, k0, rfl⟩))⟩
    · exact ⟨_, _, .inr (.inl ⟨hm, hb, rfl, rfl⟩)⟩
  · exact ⟨_, _, .inl ⟨hm, rfl, rfl⟩⟩
theorem bmap_any (m : MV) (b r : BV) (E : Int) (w : World) (h : BMapIs m b r E) :
    Calls Try.prog 22 #[m.val, b.val] w (IsB r E w) := by
  rcases h with ⟨hm, rfl, rfl⟩ | ⟨hm, hb, rfl, rfl⟩ | ⟨hm, hb, q, n, hn, hq, hx, hE, rfl⟩ | ⟨hm, hb, q, hq, rfl, rfl⟩
  · exact bmap_bad1 m b w hm
  · exact bmap_bad2 m b w hm hb
  · exact bmap_bad3 m b q n E w hm hb hn hq hx (by rw [bne_iff_ne]; exact hE)
  · exact bmap_ok m b _ q w hm hb hq (.inr (.inr ⟨by omega, fun i hi => (hq i hi).ok.1, rfl, rfl⟩))
/-- A point of the box is mapped into what Map answers. -/
theorem BMapIs.holds {m : MV} {b r : BV} {p s : PV} (h : BMapIs m b r 0) (hp : InB b p) (hs : MapIs m p s 0) : r.Ok ∧ InB r s := by
  rcases h with ⟨-, -, h⟩ | ⟨-, -, -, h⟩ | ⟨-, -, q, n, -, -, -, h, -⟩ | ⟨hm, hb, q, hq, rfl, -⟩
  · cases h
  · cases h
  · exact absurd rfl h
  · exact ⟨ofN_box q 4 (by omega) (fun i hi => (hq i hi).ok.1), maps_in hp hq hs⟩

theorem of_none (p : Option Addr) (c : Nat) (w : World) :
    Calls Try.prog 16 #[.slice p 0 c] w (IsB .zero 8 w) := by
  go_enter Try.func16, Try.ntmps16
  go_wp2
  exact bodyPost_ret (v := .tuple #[BV.zero.val, .int .i64 8]) (by simp [results, Try.results16, go_sem, BV.zero, DV.zero]) rfl ⟨rfl, by (repeat (first | with_reducible exact Below.refl _ _ | with_reducible refine Below.drew ?_ | with_reducible refine bdrewN ?_ _ | (with_reducible refine Below.setCell ?_ ?_ _; rotate_left; focus (first | exact Nat.le_refl _ | omega | (simp; omega) | (simp; done))) | (with_reducible refine Below.alloc ?_ ?_ _; rotate_left; focus (first | exact Nat.le_refl _ | omega | (simp; omega) | (simp; done))) | (with_reducible refine Below.trans ?_ (Below.mono (by assumption) ?_); rotate_left; focus (first | exact Nat.le_refl _ | omega | (simp; omega) | (simp; done)))))⟩
end Go.Proofs.Ytpdjooeogpidhaa
