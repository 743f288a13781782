/- raster: what holds within the regions of the scaler's grid. -/
import Derived.Test.YtmleoagdelgddaaRasD
namespace Go.Proofs.Ytmleoagdelgddaa
open Go.RowKit Dec

theorem ScSt.undrew {S : Nat} {e : Int} {w w' : World} (k : ScSt S e w.drew w') : ScSt S e w w' := ⟨k.sc, ⟨k.fr.os, k.fr.tape, k.fr.output, k.fr.size, k.fr.block⟩⟩
/-- Within a region: the scaler's error, the matrix, and what was there. -/
structure GS (W0 v : World) (S : Nat) (e : Int) (P : Nat) (m : MV) : Prop where
  sc : SC v S e
  mat : Whole v P 42 #[.int .i64 m.a.m, .int .i64 m.a.s, .int .i64 m.b.m, .int .i64 m.b.s, .int .i64 m.c.m, .int .i64 m.c.s, .int .i64 m.d.m, .int .i64 m.d.s, .int .i64 m.e.m, .int .i64 m.e.s, .int .i64 m.f.m, .int .i64 m.f.s]
  fr : FrS S W0 v
  low : S < W0.heap.size
  lowP : P < W0.heap.size
  ne : P ≠ S
section
variable {W0 v v' : World} {S P : Nat} {e e' : Int} {m : MV}
theorem GS.drew (h : GS W0 v S e P m) : GS W0 v.drew S e P m := ⟨h.sc, h.mat, h.fr.drewN 1, h.low, h.lowP, h.ne⟩
theorem GS.alloc (h : GS W0 v S e P m) (o : Obj) : GS W0 (v.alloc o) S e P m := ⟨h.sc.old o, h.mat.old o, h.fr.alloc o, h.low, h.lowP, h.ne⟩
theorem GS.step (h : GS W0 v S e P m) (k : ScSt S e' v v') : GS W0 v' S e' P m := ⟨k.sc, k.fr.keeps h.mat h.ne, h.fr.trans k.fr, h.low, h.lowP, h.ne⟩
theorem GS.cells (h : GS W0 v S e P m) : v.cell? ⟨P, 0, none⟩ = some (.int .i64 m.a.m) ∧ v.cell? ⟨P, 1, none⟩ = some (.int .i64 m.a.s) ∧ v.cell? ⟨P, 2, none⟩ = some (.int .i64 m.b.m) ∧ v.cell? ⟨P, 3, none⟩ = some (.int .i64 m.b.s) ∧ v.cell? ⟨P, 4, none⟩ = some (.int .i64 m.c.m) ∧ v.cell? ⟨P, 5, none⟩ = some (.int .i64 m.c.s) ∧ v.cell? ⟨P, 6, none⟩ = some (.int .i64 m.d.m) ∧ v.cell? ⟨P, 7, none⟩ = some (.int .i64 m.d.s) ∧ v.cell? ⟨P, 8, none⟩ = some (.int .i64 m.e.m) ∧ v.cell? ⟨P, 9, none⟩ = some (.int .i64 m.e.s) ∧ v.cell? ⟨P, 10, none⟩ = some (.int .i64 m.f.m) ∧ v.cell? ⟨P, 11, none⟩ = some (.int .i64 m.f.s) := ⟨h.mat.reads 0, h.mat.reads 1, h.mat.reads 2, h.mat.reads 3, h.mat.reads 4, h.mat.reads 5, h.mat.reads 6, h.mat.reads 7, h.mat.reads 8, h.mat.reads 9, h.mat.reads 10, h.mat.reads 11⟩
theorem GS.ef (h : GS W0 v S e P m) : v.cell? ⟨P, 8, none⟩ = some (.int .i64 m.e.m) ∧ v.cell? ⟨P, 9, none⟩ = some (.int .i64 m.e.s) ∧ v.cell? ⟨P, 10, none⟩ = some (.int .i64 m.f.m) ∧ v.cell? ⟨P, 11, none⟩ = some (.int .i64 m.f.s) := ⟨h.mat.reads 8, h.mat.reads 9, h.mat.reads 10, h.mat.reads 11⟩
theorem GS.cd (h : GS W0 v S e P m) : v.cell? ⟨P, 4, none⟩ = some (.int .i64 m.c.m) ∧ v.cell? ⟨P, 5, none⟩ = some (.int .i64 m.c.s) ∧ v.cell? ⟨P, 6, none⟩ = some (.int .i64 m.d.m) ∧ v.cell? ⟨P, 7, none⟩ = some (.int .i64 m.d.s) := ⟨h.mat.reads 4, h.mat.reads 5, h.mat.reads 6, h.mat.reads 7⟩
theorem GS.set2 (h : GS W0 v S e P m) {g : Nat} (hg : W0.heap.size ≤ g) (a b : Value) : GS W0 ((v.setCell ⟨g, 0, none⟩ a).setCell ⟨g, 1, none⟩ b) S e P m :=
  ⟨(h.sc.away (p := ⟨g, 0, none⟩) (by have := h.low; show S ≠ g; omega) a).away (p := ⟨g, 1, none⟩) (by have := h.low; show S ≠ g; omega) b,
   (h.mat.away (p := ⟨g, 0, none⟩) (by have := h.lowP; show P ≠ g; omega) a).away (p := ⟨g, 1, none⟩) (by have := h.lowP; show P ≠ g; omega) b,
   (h.fr.set (p := ⟨g, 0, none⟩) (fun k => by simp at k; omega) a).set (p := ⟨g, 1, none⟩) (fun k => by simp at k; omega) b, h.low, h.lowP, h.ne⟩
theorem GS.size (h : GS W0 v S e P m) : W0.heap.size ≤ v.heap.size := h.fr.size
/-- A new decimal of noughts, S and all else as it was. -/
theorem GS.new (h : GS W0 v S e P m) (k : ScSt S e' (v.alloc (.cells #[.int .i64 0, .int .i64 0] 40)) v') : Whole v' v.heap.size 40 #[.int .i64 0, .int .i64 0] := k.fr.keeps (Whole.made v _ _) (by have := h.size; have := h.low; omega)
theorem GS.new1 (h : GS W0 v S e P m) {o : Obj} (k : ScSt S e' ((v.alloc (.cells #[.int .i64 0, .int .i64 0] 40)).alloc o) v') : Whole v' v.heap.size 40 #[.int .i64 0, .int .i64 0] := k.fr.keeps ((Whole.made v _ _).old _) (by have := h.size; have := h.low; omega)
theorem GS.carry2 (h : GS W0 v S e P m) (k : ScSt S e' v v') {g : Nat} {T : TypeId} {cs : Array Value} (hw : Whole v g T cs) (hT : T ≠ 66) : Whole v' g T cs := k.fr.keeps hw (hw.apart h.sc hT)
/-- What the walk reads of two cells. -/
theorem two_facts {v : World} {g : Nat} {T : TypeId} {a b : Value} {cs : Array Value} (h : Whole v g T cs) (h0 : cs[0]? = some a) (h1 : cs[1]? = some b) : v.cell? ⟨g, 0, none⟩ = some a ∧ v.cell? ⟨g, 1, none⟩ = some b ∧ v.frozen? ⟨g, 0, none⟩ = false ∧ v.frozen? ⟨g, 1, none⟩ = false ∧ g < v.heap.size := ⟨(h.reads 0).trans h0, (h.reads 1).trans h1, h.thawed 0, h.thawed 1, h.lt⟩
end
theorem mat_ef {v : World} {P : Nat} {m : MV} (h : Whole v P 42 #[.int .i64 m.a.m, .int .i64 m.a.s, .int .i64 m.b.m, .int .i64 m.b.s, .int .i64 m.c.m, .int .i64 m.c.s, .int .i64 m.d.m, .int .i64 m.d.s, .int .i64 m.e.m, .int .i64 m.e.s, .int .i64 m.f.m, .int .i64 m.f.s]) : v.cell? ⟨P, 8, none⟩ = some (.int .i64 m.e.m) ∧ v.cell? ⟨P, 9, none⟩ = some (.int .i64 m.e.s) ∧ v.cell? ⟨P, 10, none⟩ = some (.int .i64 m.f.m) ∧ v.cell? ⟨P, 11, none⟩ = some (.int .i64 m.f.s) := ⟨h.reads 8, h.reads 9, h.reads 10, h.reads 11⟩
theorem mat_cd {v : World} {P : Nat} {m : MV} (h : Whole v P 42 #[.int .i64 m.a.m, .int .i64 m.a.s, .int .i64 m.b.m, .int .i64 m.b.s, .int .i64 m.c.m, .int .i64 m.c.s, .int .i64 m.d.m, .int .i64 m.d.s, .int .i64 m.e.m, .int .i64 m.e.s, .int .i64 m.f.m, .int .i64 m.f.s]) : v.cell? ⟨P, 4, none⟩ = some (.int .i64 m.c.m) ∧ v.cell? ⟨P, 5, none⟩ = some (.int .i64 m.c.s) ∧ v.cell? ⟨P, 6, none⟩ = some (.int .i64 m.d.m) ∧ v.cell? ⟨P, 7, none⟩ = some (.int .i64 m.d.s) := ⟨h.reads 4, h.reads 5, h.reads 6, h.reads 7⟩
theorem two_setz {w : World} {g : Nat} {p q : Value} (h : Whole w g 40 #[.int .i64 0, .int .i64 0]) : Whole ((w.setCell ⟨g, 0, none⟩ p).setCell ⟨g, 1, none⟩ q) g 40 #[p, q] := two_set h
theorem Whole.away2 {w : World} {g g' : Nat} {T : TypeId} {cs : Array Value} (h : Whole w g T cs) (ne : g ≠ g') (a b : Value) : Whole ((w.setCell ⟨g', 0, none⟩ a).setCell ⟨g', 1, none⟩ b) g T cs := (h.away (p := ⟨g', 0, none⟩) ne a).away (p := ⟨g', 1, none⟩) ne b
theorem Whole.made' (w : World) (T : TypeId) (cs : Array Value) {g : Nat} (hg : g = w.heap.size) : Whole (w.alloc (.cells cs T)) g T cs := hg ▸ Whole.made w T cs
/-- Two new decimals. -/
def Two (W0 wx : World) (S : Nat) (e : Int) (P : Nat) (m : MV) (s10 s11 : Value) (a b : DV) : Prop :=
  ∃ B10 B11 : Nat, s10 = .pointer (some ⟨B10, 0, none⟩) ∧ s11 = .pointer (some ⟨B11, 0, none⟩) ∧ W0.heap.size ≤ B10 ∧ W0.heap.size ≤ B11 ∧ B10 ≠ B11 ∧ Whole wx B10 40 #[.int .i64 a.m, .int .i64 a.s] ∧ Whole wx B11 40 #[.int .i64 b.m, .int .i64 b.s] ∧ GS W0 wx S e P m
theorem Two.fin {W0 v : World} {S P B10 B11 : Nat} {e : Int} {m : MV} {a b : DV} (h : GS W0 v S e P m) (h10 : Whole v B10 40 #[.int .i64 0, .int .i64 0]) (h11 : Whole v B11 40 #[.int .i64 0, .int .i64 0]) (l10 : W0.heap.size ≤ B10) (l11 : W0.heap.size ≤ B11) (ne : B10 ≠ B11) :
    Two W0 ((((v.setCell ⟨B10, 0, none⟩ (.int .i64 a.m)).setCell ⟨B10, 1, none⟩ (.int .i64 a.s)).setCell ⟨B11, 0, none⟩ (.int .i64 b.m)).setCell ⟨B11, 1, none⟩ (.int .i64 b.s)) S e P m (.pointer (some ⟨B10, 0, none⟩)) (.pointer (some ⟨B11, 0, none⟩)) a b := by
  refine ⟨B10, B11, rfl, rfl, l10, l11, ne, ?_, ?_, (h.set2 l10 _ _).set2 l11 _ _⟩
  · exact ((two_set h10).away (p := ⟨B11, 0, none⟩) ne _).away (p := ⟨B11, 1, none⟩) ne _
  · exact two_set ((h11.away (p := ⟨B10, 0, none⟩) (Ne.symm ne) _).away (p := ⟨B10, 1, none⟩) (Ne.symm ne) _)
end Go.Proofs.Ytmleoagdelgddaa
