/- A block of memory that is known cell for cell: how it is read, and what becomes of it. -/
import Derived.Test.YtgdfdlicfjjfjaaDecMath
import Derived.Below
import Derived.Laws.Rows
import Derived.Laws.MakeOwn
import Derived.Laws.OwnMore
import Derived.OwnWalk
import Derived.Deep.Draws
namespace Go.Proofs.Ytgdfdlicfjjfjaa
open Go.RowKit

/-- Block g holds just these cells, of type T, and none is frozen. -/
def Whole (w : World) (g : Nat) (T : TypeId) (cs : Array Value) : Prop := w.heap[g]? = some (.cells cs T (0, 0))
theorem Whole.lt {w : World} {g : Nat} {T : TypeId} {cs : Array Value} (h : Whole w g T cs) : g < w.heap.size := by
  by_cases hg : g < w.heap.size
  · exact hg
  · exact absurd (h.symm.trans (Array.getElem?_eq_none (by omega))) (by simp)
theorem Whole.reads {w : World} {g : Nat} {T : TypeId} {cs : Array Value} (h : Whole w g T cs) (i : Nat) : w.cell? ⟨g, i, none⟩ = cs[i]? := cell_of_row w g i cs T (0, 0) h
theorem Whole.thawed {w : World} {g : Nat} {T : TypeId} {cs : Array Value} (h : Whole w g T cs) (i : Nat) : w.frozen? ⟨g, i, none⟩ = false := by
  have h' : w.heap[g]? = some (.cells cs T (0, 0)) := h
  simp [World.frozen?, h']
theorem Whole.later {w w' : World} {B g : Nat} {T : TypeId} {cs : Array Value} (h : Whole w g T cs) (hb : Below B w w') (hg : g < B) : Whole w' g T cs := (hb.block g hg).trans h
theorem Whole.here {w w' : World} {g : Nat} {T : TypeId} {cs : Array Value} (h : Whole w g T cs) (hb : Below w.heap.size w w') : Whole w' g T cs := h.later hb h.lt
theorem Whole.made (w : World) (T : TypeId) (cs : Array Value) : Whole (w.alloc (.cells cs T)) w.heap.size T cs := heap_alloc_new w _
theorem Whole.old {w : World} {g : Nat} {T : TypeId} {cs : Array Value} (h : Whole w g T cs) (o : Obj) : Whole (w.alloc o) g T cs := h.here ((Below.refl _ _).alloc (Nat.le_refl _) o)
theorem Whole.drawn {w : World} {g : Nat} {T : TypeId} {cs : Array Value} (h : Whole w g T cs) (n : Nat) : Whole (w.drewN n) g T cs := h
theorem Whole.set {w : World} {g : Nat} {T : TypeId} {cs : Array Value} (h : Whole w g T cs) (i : Nat) (u : Value) : Whole (w.setCell ⟨g, i, none⟩ u) g T (cs.setIfInBounds i u) := by
  have h' : w.heap[g]? = some (.cells cs T (0, 0)) := h
  show (w.setCell ⟨g, i, none⟩ u).heap[g]? = _
  simp [World.setCell, Array.getElem?_modify, h']
theorem Whole.away {w : World} {g : Nat} {T : TypeId} {cs : Array Value} (h : Whole w g T cs) {p : Addr} (hp : g ≠ p.block) (u : Value) : Whole (w.setCell p u) g T cs := (Below.heap_setCell w p u g hp).trans h
end Go.Proofs.Ytgdfdlicfjjfjaa
