/- The walk of matrix's Map. -/
import Derived.Test.YtpdjooeogpidhaaMatMap
namespace Go.Proofs.Ytpdjooeogpidhaa
open Go.RowKit Dec

/-- A matrix, a point in a block of its own. -/
abbrev MIn (w : World) (B : Nat) (m : MV) : Prop := w.cell? ⟨B, 0, none⟩ = some (.int .i64 m.a.m) ∧ w.cell? ⟨B, 1, none⟩ = some (.int .i64 m.a.s) ∧ w.cell? ⟨B, 2, none⟩ = some (.int .i64 m.b.m) ∧ w.cell? ⟨B, 3, none⟩ = some (.int .i64 m.b.s) ∧ w.cell? ⟨B, 4, none⟩ = some (.int .i64 m.c.m) ∧ w.cell? ⟨B, 5, none⟩ = some (.int .i64 m.c.s) ∧ w.cell? ⟨B, 6, none⟩ = some (.int .i64 m.d.m) ∧ w.cell? ⟨B, 7, none⟩ = some (.int .i64 m.d.s) ∧ w.cell? ⟨B, 8, none⟩ = some (.int .i64 m.e.m) ∧ w.cell? ⟨B, 9, none⟩ = some (.int .i64 m.e.s) ∧ w.cell? ⟨B, 10, none⟩ = some (.int .i64 m.f.m) ∧ w.cell? ⟨B, 11, none⟩ = some (.int .i64 m.f.s)
abbrev PIn (w : World) (B : Nat) (p : PV) : Prop := w.cell? ⟨B, 0, none⟩ = some (.int .i64 p.x.m) ∧ w.cell? ⟨B, 1, none⟩ = some (.int .i64 p.x.s) ∧ w.cell? ⟨B, 2, none⟩ = some (.int .i64 p.y.m) ∧ w.cell? ⟨B, 3, none⟩ = some (.int .i64 p.y.s)
theorem MIn.later {w w' : World} {B : Nat} {m : MV} (h : MIn w B m) (hb : Below w.heap.size w w') : MIn w' B m := by
  obtain ⟨a0, a1, a2, a3, a4, a5, a6, a7, a8, a9, a10, a11⟩ := h
  exact ⟨cell_later hb a0, cell_later hb a1, cell_later hb a2, cell_later hb a3, cell_later hb a4, cell_later hb a5, cell_later hb a6, cell_later hb a7, cell_later hb a8, cell_later hb a9, cell_later hb a10, cell_later hb a11⟩
theorem PIn.later {w w' : World} {B : Nat} {p : PV} (h : PIn w B p) (hb : Below w.heap.size w w') : PIn w' B p := by
  obtain ⟨a0, a1, a2, a3⟩ := h
  exact ⟨cell_later hb a0, cell_later hb a1, cell_later hb a2, cell_later hb a3⟩
theorem MIn.made (w : World) (T : TypeId) (m : MV) : MIn (w.alloc (.cells #[.int .i64 m.a.m, .int .i64 m.a.s, .int .i64 m.b.m, .int .i64 m.b.s, .int .i64 m.c.m, .int .i64 m.c.s, .int .i64 m.d.m, .int .i64 m.d.s, .int .i64 m.e.m, .int .i64 m.e.s, .int .i64 m.f.m, .int .i64 m.f.s] T)) w.heap.size m := by
  have h := Whole.made w T #[.int .i64 m.a.m, .int .i64 m.a.s, .int .i64 m.b.m, .int .i64 m.b.s, .int .i64 m.c.m, .int .i64 m.c.s, .int .i64 m.d.m, .int .i64 m.d.s, .int .i64 m.e.m, .int .i64 m.e.s, .int .i64 m.f.m, .int .i64 m.f.s]
  exact ⟨h.reads 0, h.reads 1, h.reads 2, h.reads 3, h.reads 4, h.reads 5, h.reads 6, h.reads 7, h.reads 8, h.reads 9, h.reads 10, h.reads 11⟩
theorem PIn.made (w : World) (T : TypeId) (p : PV) : PIn (w.alloc (.cells #[.int .i64 p.x.m, .int .i64 p.x.s, .int .i64 p.y.m, .int .i64 p.y.s] T)) w.heap.size p := by
  have h := Whole.made w T #[.int .i64 p.x.m, .int .i64 p.x.s, .int .i64 p.y.m, .int .i64 p.y.s]
  exact ⟨h.reads 0, h.reads 1, h.reads 2, h.reads 3⟩
theorem MIn.lt {w : World} {B : Nat} {m : MV} (h : MIn w B m) : B < w.heap.size := World.block_lt_of_cell? _ _ h.1
theorem PIn.lt {w : World} {B : Nat} {m : PV} (h : PIn w B m) : B < w.heap.size := World.block_lt_of_cell? _ _ h.1
theorem MIn.old {w : World} {B : Nat} {m : MV} (h : MIn w B m) (o : Obj) : MIn (w.alloc o) B m := h.later ((Below.refl _ _).alloc (Nat.le_refl _) o)
theorem PIn.old {w : World} {B : Nat} {m : PV} (h : PIn w B m) (o : Obj) : PIn (w.alloc o) B m := h.later ((Below.refl _ _).alloc (Nat.le_refl _) o)

theorem El.Lies.of {x : El} {w : World} (h : Caught w x.B x.a x.b x.c x.d x.l) : x.Lies w := h
theorem undrew {w w' : World} (h : Below w.drew.heap.size w.drew w') : Below w.heap.size w w' := (Below.refl _ _).drew.trans h

set_option maxRecDepth 100000 in
set_option maxHeartbeats 2000000 in
theorem map_five (m : MV) (p : PV) (x y : DV) (ex ey : Int) (w : World) (hm : m.Ok) (hp : p.Ok) (hx : SumIs m.a p.x m.c p.y m.e x ex) (hy : SumIs m.b p.x m.d p.y m.f y ey) (h : ex = 5 ∨ ey = 5) :
    Calls Try.prog 5 #[m.val, p.val] w (IsP .zero 5 w) := by
  have Hm := Lib.hid hm
  have Hp := Lib.hid hp
  have HX : Hid (∀ B, El.Says ⟨m.a, p.x, m.c, p.y, m.e, x, ex, B⟩) := fun B => ⟨hm.1, hp.1, hm.2.2.1, hp.2, hm.2.2.2.2.1, hx⟩
  have HY : Hid (∀ B, El.Says ⟨m.b, p.x, m.d, p.y, m.f, y, ey, B⟩) := fun B => ⟨hm.2.1, hp.1, hm.2.2.2.1, hp.2, hm.2.2.2.2.2, hy⟩
  have HE := Lib.hid h
  clear hm hp hx hy h
  go_enter Try.func5, Try.ntmps5
  go_wp2_with fail
  refine (mcheck_any m _ 0 (.inl ⟨Hm.out, rfl⟩)).mono ?_
  rintro e w1 ⟨rfl, hb⟩
  have B1 : Hid (Below w.heap.size w w1) := by
    refine Below.trans ?_ (hb.mono (by simp; omega))
    (repeat (first | with_reducible refine Below.drew ?_ | with_reducible refine bdrewN ?_ _ | (with_reducible refine Below.setCell ?_ ?_ _; rotate_left; focus (first | exact Nat.le_refl _ | omega | (simp; omega) | (simp; done))) | (with_reducible refine Below.alloc ?_ ?_ _; rotate_left; focus (first | exact Nat.le_refl _ | omega | (simp; omega) | (simp; done))))); with_reducible exact (Below.refl _ _)
  obtain ⟨hc, hf⟩ := bcell hb
  have hz := hb.size
  simp at hz
  have l0 : w.heap.size < w1.heap.size := (by omega); have l1 : w.heap.size + 1 < w1.heap.size := (by omega); have l2 : w.heap.size + 1 + 1 < w1.heap.size := (by omega)
  go_wp2_with fail
  refine (two_any p _ _ 0 (.inl ⟨Hp.out, rfl⟩) _ (by simp)).mono ?_
  rintro e w2 ⟨rfl, hk⟩
  have hb := hb.trans (hk.mono hb.size)
  have B2 := Lib.hid (B1.out.trans (hk.mono B1.out.size))
  clear hc hf hz hk l0 l1 l2 B1
  obtain ⟨hc, hf⟩ := bcell hb
  have hz := hb.size
  simp at hz
  have l0 : w.heap.size < w2.heap.size := (by omega); have l1 : w.heap.size + 1 < w2.heap.size := (by omega); have l2 : w.heap.size + 1 + 1 < w2.heap.size := (by omega)
  go_wp2
  have hM := (((MIn.made w 25 m).old (.cells #[.int .i64 p.x.m, .int .i64 p.x.s, .int .i64 p.y.m, .int .i64 p.y.s] 27)).old (.cells #[.int .i64 0, .int .i64 0, .int .i64 0, .int .i64 0] 27)).later hb
  have hP := ((PIn.made (w.alloc (.cells #[.int .i64 m.a.m, .int .i64 m.a.s, .int .i64 m.b.m, .int .i64 m.b.s, .int .i64 m.c.m, .int .i64 m.c.s, .int .i64 m.d.m, .int .i64 m.d.s, .int .i64 m.e.m, .int .i64 m.e.s, .int .i64 m.f.m, .int .i64 m.f.s] 25)) 27 p).old (.cells #[.int .i64 0, .int .i64 0, .int .i64 0, .int .i64 0] 27)).later hb
  have hR := (Whole.made ((w.alloc (.cells #[.int .i64 m.a.m, .int .i64 m.a.s, .int .i64 m.b.m, .int .i64 m.b.s, .int .i64 m.c.m, .int .i64 m.c.s, .int .i64 m.d.m, .int .i64 m.d.s, .int .i64 m.e.m, .int .i64 m.e.s, .int .i64 m.f.m, .int .i64 m.f.s] 25)).alloc (.cells #[.int .i64 p.x.m, .int .i64 p.x.s, .int .i64 p.y.m, .int .i64 p.y.s] 27)) 27 #[.int .i64 0, .int .i64 0, .int .i64 0, .int .i64 0]).later hb (by simp)
  simp only [World.size_alloc] at hP hR
  have hS := And.intro hM hP
  clear hM hP
  go_region_held3 (fun v => (v.cell? ⟨w.heap.size, 0, none⟩ = some (.int .i64 m.a.m) ∧ v.cell? ⟨w.heap.size, 1, none⟩ = some (.int .i64 m.a.s) ∧ v.cell? ⟨w.heap.size, 2, none⟩ = some (.int .i64 m.b.m) ∧ v.cell? ⟨w.heap.size, 3, none⟩ = some (.int .i64 m.b.s) ∧ v.cell? ⟨w.heap.size, 4, none⟩ = some (.int .i64 m.c.m) ∧ v.cell? ⟨w.heap.size, 5, none⟩ = some (.int .i64 m.c.s) ∧ v.cell? ⟨w.heap.size, 6, none⟩ = some (.int .i64 m.d.m) ∧ v.cell? ⟨w.heap.size, 7, none⟩ = some (.int .i64 m.d.s) ∧ v.cell? ⟨w.heap.size, 8, none⟩ = some (.int .i64 m.e.m) ∧ v.cell? ⟨w.heap.size, 9, none⟩ = some (.int .i64 m.e.s) ∧ v.cell? ⟨w.heap.size, 10, none⟩ = some (.int .i64 m.f.m) ∧ v.cell? ⟨w.heap.size, 11, none⟩ = some (.int .i64 m.f.s)) ∧ (v.cell? ⟨w.heap.size + 1, 0, none⟩ = some (.int .i64 p.x.m) ∧ v.cell? ⟨w.heap.size + 1, 1, none⟩ = some (.int .i64 p.x.s) ∧ v.cell? ⟨w.heap.size + 1, 2, none⟩ = some (.int .i64 p.y.m) ∧ v.cell? ⟨w.heap.size + 1, 3, none⟩ = some (.int .i64 p.y.s))) (first | assumption | go_keep)
    (first
      | (go_at_call 29; (with_reducible refine (sum_any m.a p.x m.c p.y m.e _).mono ?_); rintro e w3 ⟨b3, rfl, c3, k3⟩; (first | (have q3 := undrew k3) | (have q3 := Below.mono k3 (Nat.le_refl _))); have hS3 := And.intro (MIn.later hS.1 q3) (PIn.later hS.2 q3))
      | (go_at_call 29; (with_reducible refine (sum_any m.b p.x m.d p.y m.f _).mono ?_); rintro e w4 ⟨b4, rfl, c4, k4⟩; (first | (have q4 := undrew k4) | (have q4 := Below.mono k4 (Nat.le_refl _))); have hS4 := And.intro (MIn.later hS3.1 q4) (PIn.later hS3.2 q4))
      | (go_at_call 28; (with_reducible refine (pair_bad ⟨m.a, p.x, m.c, p.y, m.e, x, ex, b3⟩ ⟨m.b, p.x, m.d, p.y, m.f, y, ey, b4⟩ w4 _ _ rfl (HX.out _) (HY.out _) (El.Lies.of (Caught.later c3 q4)) (El.Lies.of c4) HE.out).mono ?_); rintro e w5 ⟨rfl, k5⟩; have hS5 := And.intro (MIn.later hS4.1 k5) (PIn.later hS4.2 k5)))
  have HB := Lib.hid ((B2.out.trans (q3.mono B2.out.size)).trans ((q4.mono (B2.out.trans (q3.mono B2.out.size)).size).trans (k5.mono ((B2.out.trans (q3.mono B2.out.size)).trans (q4.mono (B2.out.trans (q3.mono B2.out.size)).size)).size)))
  have hR5 := ((hR.here q3).here q4).here k5
  have lR := hR5.lt
  have rd := hR5.reads
  have ft := hR5.thawed
  go_wp2
  refine bodyPost_ret (v := .tuple #[PV.zero.val, .int .i64 5]) (by simp [results, Try.results5, go_sem, rd, PV.zero, DV.zero]) rfl ⟨rfl, ?_⟩
  (repeat (first | with_reducible refine Below.drew ?_ | with_reducible refine bdrewN ?_ _ | (with_reducible refine Below.setCell ?_ ?_ _; rotate_left; focus (first | exact Nat.le_refl _ | omega | (simp; omega) | (simp; done))) | (with_reducible refine Below.alloc ?_ ?_ _; rotate_left; focus (first | exact Nat.le_refl _ | omega | (simp; omega) | (simp; done))))); with_reducible exact HB.out

set_option maxRecDepth 100000 in
set_option maxHeartbeats 2000000 in
theorem map_zero (m : MV) (p : PV) (x y : DV) (ex ey : Int) (w : World) (hm : m.Ok) (hp : p.Ok) (hx : SumIs m.a p.x m.c p.y m.e x ex) (hy : SumIs m.b p.x m.d p.y m.f y ey) (h : ex = 0 ∧ ey = 0) :
    Calls Try.prog 5 #[m.val, p.val] w (IsP ⟨x, y⟩ 0 w) := by
  have Hm := Lib.hid hm
  have Hp := Lib.hid hp
  have HX : Hid (∀ B, El.Says ⟨m.a, p.x, m.c, p.y, m.e, x, ex, B⟩) := fun B => ⟨hm.1, hp.1, hm.2.2.1, hp.2, hm.2.2.2.2.1, hx⟩
  have HY : Hid (∀ B, El.Says ⟨m.b, p.x, m.d, p.y, m.f, y, ey, B⟩) := fun B => ⟨hm.2.1, hp.1, hm.2.2.2.1, hp.2, hm.2.2.2.2.2, hy⟩
  have HE := Lib.hid h
  clear hm hp hx hy h
  go_enter Try.func5, Try.ntmps5
  go_wp2_with fail
  refine (mcheck_any m _ 0 (.inl ⟨Hm.out, rfl⟩)).mono ?_
  rintro e w1 ⟨rfl, hb⟩
  have B1 : Hid (Below w.heap.size w w1) := by
    refine Below.trans ?_ (hb.mono (by simp; omega))
    (repeat (first | with_reducible refine Below.drew ?_ | with_reducible refine bdrewN ?_ _ | (with_reducible refine Below.setCell ?_ ?_ _; rotate_left; focus (first | exact Nat.le_refl _ | omega | (simp; omega) | (simp; done))) | (with_reducible refine Below.alloc ?_ ?_ _; rotate_left; focus (first | exact Nat.le_refl _ | omega | (simp; omega) | (simp; done))))); with_reducible exact (Below.refl _ _)
  obtain ⟨hc, hf⟩ := bcell hb
  have hz := hb.size
  simp at hz
  have l0 : w.heap.size < w1.heap.size := (by omega); have l1 : w.heap.size + 1 < w1.heap.size := (by omega); have l2 : w.heap.size + 1 + 1 < w1.heap.size := (by omega)
  go_wp2_with fail
  refine (two_any p _ _ 0 (.inl ⟨Hp.out, rfl⟩) _ (by simp)).mono ?_
  rintro e w2 ⟨rfl, hk⟩
  have hb := hb.trans (hk.mono hb.size)
  have B2 := Lib.hid (B1.out.trans (hk.mono B1.out.size))
  clear hc hf hz hk l0 l1 l2 B1
  obtain ⟨hc, hf⟩ := bcell hb
  have hz := hb.size
  simp at hz
  have l0 : w.heap.size < w2.heap.size := (by omega); have l1 : w.heap.size + 1 < w2.heap.size := (by omega); have l2 : w.heap.size + 1 + 1 < w2.heap.size := (by omega)
  go_wp2
  have hM := (((MIn.made w 25 m).old (.cells #[.int .i64 p.x.m, .int .i64 p.x.s, .int .i64 p.y.m, .int .i64 p.y.s] 27)).old (.cells #[.int .i64 0, .int .i64 0, .int .i64 0, .int .i64 0] 27)).later hb
  have hP := ((PIn.made (w.alloc (.cells #[.int .i64 m.a.m, .int .i64 m.a.s, .int .i64 m.b.m, .int .i64 m.b.s, .int .i64 m.c.m, .int .i64 m.c.s, .int .i64 m.d.m, .int .i64 m.d.s, .int .i64 m.e.m, .int .i64 m.e.s, .int .i64 m.f.m, .int .i64 m.f.s] 25)) 27 p).old (.cells #[.int .i64 0, .int .i64 0, .int .i64 0, .int .i64 0] 27)).later hb
  have hR := (Whole.made ((w.alloc (.cells #[.int .i64 m.a.m, .int .i64 m.a.s, .int .i64 m.b.m, .int .i64 m.b.s, .int .i64 m.c.m, .int .i64 m.c.s, .int .i64 m.d.m, .int .i64 m.d.s, .int .i64 m.e.m, .int .i64 m.e.s, .int .i64 m.f.m, .int .i64 m.f.s] 25)).alloc (.cells #[.int .i64 p.x.m, .int .i64 p.x.s, .int .i64 p.y.m, .int .i64 p.y.s] 27)) 27 #[.int .i64 0, .int .i64 0, .int .i64 0, .int .i64 0]).later hb (by simp)
  simp only [World.size_alloc] at hP hR
  have hS := And.intro hM hP
  clear hM hP
  go_region_held3 (fun v => (v.cell? ⟨w.heap.size, 0, none⟩ = some (.int .i64 m.a.m) ∧ v.cell? ⟨w.heap.size, 1, none⟩ = some (.int .i64 m.a.s) ∧ v.cell? ⟨w.heap.size, 2, none⟩ = some (.int .i64 m.b.m) ∧ v.cell? ⟨w.heap.size, 3, none⟩ = some (.int .i64 m.b.s) ∧ v.cell? ⟨w.heap.size, 4, none⟩ = some (.int .i64 m.c.m) ∧ v.cell? ⟨w.heap.size, 5, none⟩ = some (.int .i64 m.c.s) ∧ v.cell? ⟨w.heap.size, 6, none⟩ = some (.int .i64 m.d.m) ∧ v.cell? ⟨w.heap.size, 7, none⟩ = some (.int .i64 m.d.s) ∧ v.cell? ⟨w.heap.size, 8, none⟩ = some (.int .i64 m.e.m) ∧ v.cell? ⟨w.heap.size, 9, none⟩ = some (.int .i64 m.e.s) ∧ v.cell? ⟨w.heap.size, 10, none⟩ = some (.int .i64 m.f.m) ∧ v.cell? ⟨w.heap.size, 11, none⟩ = some (.int .i64 m.f.s)) ∧ (v.cell? ⟨w.heap.size + 1, 0, none⟩ = some (.int .i64 p.x.m) ∧ v.cell? ⟨w.heap.size + 1, 1, none⟩ = some (.int .i64 p.x.s) ∧ v.cell? ⟨w.heap.size + 1, 2, none⟩ = some (.int .i64 p.y.m) ∧ v.cell? ⟨w.heap.size + 1, 3, none⟩ = some (.int .i64 p.y.s))) (first | assumption | go_keep)
    (first
      | (go_at_call 29; (with_reducible refine (sum_any m.a p.x m.c p.y m.e _).mono ?_); rintro e w3 ⟨b3, rfl, c3, k3⟩; (first | (have q3 := undrew k3) | (have q3 := Below.mono k3 (Nat.le_refl _))); have hS3 := And.intro (MIn.later hS.1 q3) (PIn.later hS.2 q3))
      | (go_at_call 29; (with_reducible refine (sum_any m.b p.x m.d p.y m.f _).mono ?_); rintro e w4 ⟨b4, rfl, c4, k4⟩; (first | (have q4 := undrew k4) | (have q4 := Below.mono k4 (Nat.le_refl _))); have hS4 := And.intro (MIn.later hS3.1 q4) (PIn.later hS3.2 q4))
      | (go_at_call 28; (with_reducible refine (pair_ok ⟨m.a, p.x, m.c, p.y, m.e, x, ex, b3⟩ ⟨m.b, p.x, m.d, p.y, m.f, y, ey, b4⟩ w4 _ _ rfl (HX.out _) (HY.out _) (El.Lies.of (Caught.later c3 q4)) (El.Lies.of c4) HE.out.1 HE.out.2).mono ?_); rintro e w5 ⟨k5, L, rfl, gL, pa, pb⟩; have hS5 := And.intro (MIn.later hS4.1 k5) (PIn.later hS4.2 k5)))
  have HB := Lib.hid ((B2.out.trans (q3.mono B2.out.size)).trans ((q4.mono (B2.out.trans (q3.mono B2.out.size)).size).trans (k5.mono ((B2.out.trans (q3.mono B2.out.size)).trans (q4.mono (B2.out.trans (q3.mono B2.out.size)).size)).size)))
  have hR5 := ((hR.here q3).here q4).here k5
  have lR := hR5.lt
  have rd := hR5.reads
  have ft := hR5.thawed
  have gW : w.heap.size + 1 + 1 < L := by have := q3.size; have := q4.size; omega
  have lL := pa.lt
  obtain ⟨pa0, pa1⟩ := id pa
  obtain ⟨pb0, pb1⟩ := id pb
  simp only [Nat.zero_add] at pa1
  go_wp2
  go_region
  go_wp2
  refine bodyPost_ret (v := .tuple #[PV.val ⟨x, y⟩, .int .i64 0]) (by simp [results, Try.results5, go_sem, rd]) rfl ⟨rfl, ?_⟩
  (repeat (first | with_reducible refine Below.drew ?_ | with_reducible refine bdrewN ?_ _ | (with_reducible refine Below.setCell ?_ ?_ _; rotate_left; focus (first | exact Nat.le_refl _ | omega | (simp; omega) | (simp; done))) | (with_reducible refine Below.alloc ?_ ?_ _; rotate_left; focus (first | exact Nat.le_refl _ | omega | (simp; omega) | (simp; done))))); with_reducible exact HB.out

set_option maxHeartbeats 1000000 in
theorem map_one (m : MV) (p : PV) (w : World) (h : ¬ (m.Ok ∧ p.Ok)) :
    Calls Try.prog 5 #[m.val, p.val] w (IsP .zero 1 w) := by
  by_cases hm : m.Ok
  · have hp : ¬ p.Ok := fun hp => h ⟨hm, hp⟩
    have Hm := Lib.hid hm
    have Hp := Lib.hid hp
    clear hm hp h
    go_enter Try.func5, Try.ntmps5
    go_wp2_with fail
    refine (mcheck_any m _ 0 (.inl ⟨Hm.out, rfl⟩)).mono ?_
    rintro e w1 ⟨rfl, hb⟩
    have B1 : Hid (Below w.heap.size w w1) := by
      refine Below.trans ?_ (hb.mono (by simp; omega))
      (repeat (first | with_reducible refine Below.drew ?_ | with_reducible refine bdrewN ?_ _ | (with_reducible refine Below.setCell ?_ ?_ _; rotate_left; focus (first | exact Nat.le_refl _ | omega | (simp; omega) | (simp; done))) | (with_reducible refine Below.alloc ?_ ?_ _; rotate_left; focus (first | exact Nat.le_refl _ | omega | (simp; omega) | (simp; done))))); with_reducible exact (Below.refl _ _)
    obtain ⟨hc, hf⟩ := bcell hb
    have hz := hb.size
    simp at hz
    have l0 : w.heap.size < w1.heap.size := (by omega); have l1 : w.heap.size + 1 < w1.heap.size := (by omega); have l2 : w.heap.size + 1 + 1 < w1.heap.size := (by omega)
    go_wp2_with fail
    refine (two_any p _ _ 1 (.inr ⟨Hp.out, rfl⟩) _ (by simp)).mono ?_
    rintro e w2 ⟨rfl, hk⟩
    have hb := hb.trans (hk.mono hb.size)
    have B2 := Lib.hid (B1.out.trans (hk.mono B1.out.size))
    have hR := (Whole.made ((w.alloc (.cells #[.int .i64 m.a.m, .int .i64 m.a.s, .int .i64 m.b.m, .int .i64 m.b.s, .int .i64 m.c.m, .int .i64 m.c.s, .int .i64 m.d.m, .int .i64 m.d.s, .int .i64 m.e.m, .int .i64 m.e.s, .int .i64 m.f.m, .int .i64 m.f.s] 25)).alloc (.cells #[.int .i64 p.x.m, .int .i64 p.x.s, .int .i64 p.y.m, .int .i64 p.y.s] 27)) 27 #[.int .i64 0, .int .i64 0, .int .i64 0, .int .i64 0]).later hb (by simp)
    clear hc hf hz hk l0 l1 l2 B1
    simp only [World.size_alloc] at hR
    have lR := hR.lt
    have rd := hR.reads
    have ft := hR.thawed
    go_wp2
    refine bodyPost_ret (v := .tuple #[PV.zero.val, .int .i64 1]) (by simp [results, Try.results5, go_sem, rd, PV.zero, DV.zero]) rfl ⟨rfl, ?_⟩
    (repeat (first | with_reducible refine Below.drew ?_ | with_reducible refine bdrewN ?_ _ | (with_reducible refine Below.setCell ?_ ?_ _; rotate_left; focus (first | exact Nat.le_refl _ | omega | (simp; omega) | (simp; done))) | (with_reducible refine Below.alloc ?_ ?_ _; rotate_left; focus (first | exact Nat.le_refl _ | omega | (simp; omega) | (simp; done))))); with_reducible exact B2.out
  · have Hm := Lib.hid hm
    clear hm h
    go_enter Try.func5, Try.ntmps5
    go_wp2_with fail
    refine (mcheck_any m _ 1 (.inr ⟨Hm.out, rfl⟩)).mono ?_
    rintro e w1 ⟨rfl, hb⟩
    have B1 : Hid (Below w.heap.size w w1) := by
      refine Below.trans ?_ (hb.mono (by simp; omega))
      (repeat (first | with_reducible refine Below.drew ?_ | with_reducible refine bdrewN ?_ _ | (with_reducible refine Below.setCell ?_ ?_ _; rotate_left; focus (first | exact Nat.le_refl _ | omega | (simp; omega) | (simp; done))) | (with_reducible refine Below.alloc ?_ ?_ _; rotate_left; focus (first | exact Nat.le_refl _ | omega | (simp; omega) | (simp; done))))); with_reducible exact (Below.refl _ _)
    have hR := (Whole.made ((w.alloc (.cells #[.int .i64 m.a.m, .int .i64 m.a.s, .int .i64 m.b.m, .int .i64 m.b.s, .int .i64 m.c.m, .int .i64 m.c.s, .int .i64 m.d.m, .int .i64 m.d.s, .int .i64 m.e.m, .int .i64 m.e.s, .int .i64 m.f.m, .int .i64 m.f.s] 25)).alloc (.cells #[.int .i64 p.x.m, .int .i64 p.x.s, .int .i64 p.y.m, .int .i64 p.y.s] 27)) 27 #[.int .i64 0, .int .i64 0, .int .i64 0, .int .i64 0]).later hb (by simp)
    simp only [World.size_alloc] at hR
    have lR := hR.lt
    have rd := hR.reads
    have ft := hR.thawed
    go_wp2
    refine bodyPost_ret (v := .tuple #[PV.zero.val, .int .i64 1]) (by simp [results, Try.results5, go_sem, rd, PV.zero, DV.zero]) rfl ⟨rfl, ?_⟩
    (repeat (first | with_reducible refine Below.drew ?_ | with_reducible refine bdrewN ?_ _ | (with_reducible refine Below.setCell ?_ ?_ _; rotate_left; focus (first | exact Nat.le_refl _ | omega | (simp; omega) | (simp; done))) | (with_reducible refine Below.alloc ?_ ?_ _; rotate_left; focus (first | exact Nat.le_refl _ | omega | (simp; omega) | (simp; done))))); with_reducible exact B1.out

theorem map_any (m : MV) (p r : PV) (E : Int) (w : World) (h : MapIs m p r E) :
    Calls Try.prog 5 #[m.val, p.val] w (IsP r E w) := by
  rcases h with ⟨hm, hp, x, y, ex, ey, hx, hy, h⟩ | ⟨h, rfl, rfl⟩
  · rcases h with ⟨h1, rfl, rfl⟩ | ⟨-, h2, rfl, rfl⟩ | ⟨h1, h2, rfl, rfl⟩
    · exact map_five m p x y ex ey w hm hp hx hy (.inl h1)
    · exact map_five m p x y ex ey w hm hp hx hy (.inr h2)
    · exact map_zero m p x y ex ey w hm hp hx hy ⟨h1, h2⟩
  · exact map_one m p w h
end Go.Proofs.Ytpdjooeogpidhaa
