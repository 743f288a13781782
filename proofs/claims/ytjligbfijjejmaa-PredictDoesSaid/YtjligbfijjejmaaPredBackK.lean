/- The walk of PredictBack. -/
import Derived.Test.YtjligbfijjejmaaPredX
import Derived.Test.YtjligbfijjejmaaPredBackS
import Derived.Test.YtjligbfijjejmaaLaidGen
namespace Go.Proofs.Ytjligbfijjejmaa
open Go.RowKit

/-- The parameter's box stands; nothing from before has turned. -/
def PK (w : World) (p : PaV) (W : World) : Prop := Whole W w.heap.size 23 #[.int .i64 p.pr, .int .i64 p.co, .int .i64 p.bi, .int .i64 p.cl] ∧ Below w.heap.size w W
theorem PK.made (w : World) (p : PaV) : PK w p (w.alloc (.cells #[.int .i64 p.pr, .int .i64 p.co, .int .i64 p.bi, .int .i64 p.cl] 23)) := ⟨Whole.made _ _ _, (Below.refl _ _).alloc (Nat.le_refl _) _⟩
theorem PK.next {w W W' : World} {p : PaV} (h : PK w p W) (hb : Below W.heap.size W W') : PK w p W' := ⟨h.1.here hb, h.2.trans (hb.mono h.2.size)⟩
theorem PK.cells {w W : World} {p : PaV} (h : PK w p W) : W.cell? ⟨w.heap.size, 0, none⟩ = some (.int .i64 p.pr) ∧ W.cell? ⟨w.heap.size, 1, none⟩ = some (.int .i64 p.co) ∧ W.cell? ⟨w.heap.size, 2, none⟩ = some (.int .i64 p.bi) ∧ W.cell? ⟨w.heap.size, 3, none⟩ = some (.int .i64 p.cl) ∧ w.heap.size < W.heap.size :=
  ⟨h.1.reads 0, h.1.reads 1, h.1.reads 2, h.1.reads 3, h.1.lt⟩
end Go.Proofs.Ytjligbfijjejmaa
