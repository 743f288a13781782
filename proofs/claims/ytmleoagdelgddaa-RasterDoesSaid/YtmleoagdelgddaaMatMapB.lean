/- The walk of matrix's Map. -/
import Derived.Test.YtmleoagdelgddaaMatMap
namespace Go.Proofs.Ytmleoagdelgddaa
open Go.RowKit Dec

/-- A matrix, a point in a block of its own. -/
abbrev MIn (w : World) (B : Nat) (m : MV) : Prop := w.cell? ⟨B, 0, none⟩ = some (.int .i64 m.a.m) ∧ w.cell? ⟨B, 1, none⟩ = some (.int .i64 m.a.s) ∧ w.cell? ⟨B, 2, none⟩ = some (.int .i64 m.b.m) ∧ w.cell? ⟨B, 3, none⟩ = some (.int .i64 m.b.s) ∧ w.cell? ⟨B, 4, none⟩ = some (.int .i64 m.c.m) ∧ w.cell? ⟨B, 5, none⟩ = some (.int .i64 m.c.s) ∧ w.cell? ⟨B, 6, none⟩ = some (.int .i64 m.d.m) ∧ w.cell? ⟨B, 7, none⟩ = some (.int .i64 m.d.s) ∧ w.cell? ⟨B, 8, none⟩ = some (.int .i64 m.e.m) ∧ w.cell? ⟨B, 9, none⟩ = some (.int .i64 m.e.s) ∧ w.cell? ⟨B, 10, none⟩ = some (.int .i64 m.f.m) ∧ w.cell? ⟨B, 11, none⟩ = some (.int .i64 m.f.s)
abbrev PIn (w : World) (B : Nat) (p : PV) : Prop := w.cell? ⟨B, 0, none⟩ = some (.int .i64 p.x.m) ∧ w.cell? ⟨B, 1, none⟩ = some (.int .i64 p.x.s) ∧ w.cell? ⟨B, 2, none⟩ = some (.int .i64 p.y.m) ∧ w.cell? ⟨B, 3, none⟩ = some (.int .i64 p.y.s)
theorem MIn.later {w w' : World} {B : Nat} {m : MV} (h : MIn w B m) (hb : Below w.heap.size w w') : MIn w' B m := by
  obtain ⟨a0, a1, a2, a3, a4, a5, a6, a7, a8, a9, a10, a11⟩ := h
  exact ⟨cell_later hb a0, cell_later hb a1, cell_later hb a2, cell_later hb a3, cell_later hb a4, cell_later hb a5, cell_later hb a6, cell_later hb a7, cell_later hb a8, cell_later hb a9, cell_later hb a10, cell_later hb a11⟩
theorem PIn.later {w w' : World} {B : Nat} {p : PV} (h : PIn w B p) (hb : Below w.heap.size w w') : PIn w' B p := by
  obtain ⟨a0, a1, a2, a3⟩ := h
  exact ⟨cell_later hb a0, cell_later hb a1, cell_later hb a2, cell_later hb a3⟩
theorem MIn.made (w : World) (T : TypeId) (m : MV) : MIn (w.alloc (.cells #[.int .i64 m.a.m, .int .i64 m.a.s, .int .i64 m.b.m, .int .i64 m.b.s, .int .i64 m.c.m, .int .i64 m.c.s, .int .i64 m.d.m, .int .i64 m.d.s, .int .i64 m.e.m, .int .i64 m.e.s, .int .i64 m.f.m, .int .i64 m.f.s] T)) w.heap.size m := by
  have h := Whole.made w T #[.int .i64 m.a.m, .int .i64 m.a.s, .int .i64 m.b.m, .int .i64 m.b.s, .int .i64 m.c.m, .int .i64 m.c.s, .int .i64 m.d.m, .int .i64 m.d.s, .int .i64 m.e.m, .int .i64 m.e.s, .int .i64 m.f.m, .int .i64 m.f.s]
  exact ⟨h.reads 0, h.reads 1, h.reads 2, h.reads 3, h.reads 4, h.reads 5, h.reads 6, h.reads 7, h.reads 8, h.reads 9, h.reads 10, h.reads 11⟩
theorem PIn.made (w : World) (T : TypeId) (p : PV) : PIn (w.alloc (.cells #[.int .i64 p.x.m, .int .i64 p.x.s, .int .i64 p.y.m, .int .i64 p.y.s] T)) w.heap.size p := by
  have h := Whole.made w T #[.int .i64 p.x.m, .int .i64 p.x.s, .int .i64 p.y.m, .int .i64 p.y.s]
  exact ⟨h.reads 0, h.reads 1, h.reads 2, h.reads 3⟩
theorem MIn.lt {w : World} {B : Nat} {m : MV} (h : MIn w B m) : B < w.heap.size := World.block_lt_of_cell? _ _ h.1
theorem PIn.lt {w : World} {B : Nat} {m : PV} (h : PIn w B m) : B < w.heap.size := World.block_lt_of_cell? _ _ h.1
theorem MIn.old {w : World} {B : Nat} {m : MV} (h : MIn w B m) (o : Obj) : MIn (w.alloc o) B m := h.later ((Below.refl _ _).alloc (Nat.le_refl _) o)
theorem PIn.old {w : World} {B : Nat} {m : PV} (h : PIn w B m) (o : Obj) : PIn (w.alloc o) B m := h.later ((Below.refl _ _).alloc (Nat.le_refl _) o)

theorem El.Lies.of {x : El} {w : World} (h : Caught w x.B x.a x.b x.c x.d x.l) : x.Lies w := h
theorem undrew {w w' : World} (h : Below w.drew.heap.size w.drew w') : Below w.heap.size w w' := (Below.refl _ _).drew.trans h

end Go.Proofs.Ytmleoagdelgddaa

