/- Four points as cells; what mapAll answers. -/
import Derived.Test.YtpdjooeogpidhaaBoxOf
namespace Go.Proofs.Ytpdjooeogpidhaa
open Go.RowKit Dec

/-- Four points, as cells. -/
abbrev four (g : Nat → PV) : Array Value := #[.int .i64 (g 0).x.m, .int .i64 (g 0).x.s, .int .i64 (g 0).y.m, .int .i64 (g 0).y.s, .int .i64 (g 1).x.m, .int .i64 (g 1).x.s, .int .i64 (g 1).y.m, .int .i64 (g 1).y.s, .int .i64 (g 2).x.m, .int .i64 (g 2).x.s, .int .i64 (g 2).y.m, .int .i64 (g 2).y.s, .int .i64 (g 3).x.m, .int .i64 (g 3).x.s, .int .i64 (g 3).y.m, .int .i64 (g 3).y.s]
def mix (q g : Nat → PV) (k : Nat) (i : Nat) : PV := if i < k then q i else g i
theorem idx4 (g : Nat → PV) (k : Nat) (hk : k < 4) (w : World) : (Instr.index 69 (.agg (four g)) (.int .i64 k)).run Try.prog w = .ok (.agg #[.int .i64 (g k).x.m, .int .i64 (g k).x.s, .int .i64 (g k).y.m, .int .i64 (g k).y.s]) w := by
  rcases (by omega : k = 0 ∨ k = 1 ∨ k = 2 ∨ k = 3) with rfl | rfl | rfl | rfl
  · kernel_rfl
  · kernel_rfl
  · kernel_rfl
  · kernel_rfl
theorem four_at (f : Nat → PV) (k : Nat) (hk : k < 4) : (four f)[k * 4]? = some (.int .i64 (f k).x.m) ∧ (four f)[k * 4 + 1]? = some (.int .i64 (f k).x.s) ∧ (four f)[k * 4 + 2]? = some (.int .i64 (f k).y.m) ∧ (four f)[k * 4 + 3]? = some (.int .i64 (f k).y.s) := by
  rcases (by omega : k = 0 ∨ k = 1 ∨ k = 2 ∨ k = 3) with rfl | rfl | rfl | rfl
  · exact ⟨rfl, rfl, rfl, rfl⟩
  · exact ⟨rfl, rfl, rfl, rfl⟩
  · exact ⟨rfl, rfl, rfl, rfl⟩
  · exact ⟨rfl, rfl, rfl, rfl⟩
theorem mix_cells (q g : Nat → PV) (k : Nat) (hk : k < 4) : ((((four (mix q g k)).setIfInBounds (k * 4) (.int .i64 (q k).x.m)).setIfInBounds (k * 4 + 1) (.int .i64 (q k).x.s)).setIfInBounds (k * 4 + 2) (.int .i64 (q k).y.m)).setIfInBounds (k * 4 + 3) (.int .i64 (q k).y.s) = four (mix q g (k + 1)) := by
  rcases (by omega : k = 0 ∨ k = 1 ∨ k = 2 ∨ k = 3) with rfl | rfl | rfl | rfl
  · rfl
  · rfl
  · rfl
  · rfl
theorem mix_all (q g : Nat → PV) : four (mix q g 4) = four q := rfl

theorem MIn.away4 {w : World} {g B : Nat} {p : MV} (h : MIn w g p) (hn : ¬ B = g) (i j k l : Nat) (a b c d : Value) :
    MIn ((((w.setCell ⟨B, i, none⟩ a).setCell ⟨B, j, none⟩ b).setCell ⟨B, k, none⟩ c).setCell ⟨B, l, none⟩ d) g p := by
  obtain ⟨a0, a1, a2, a3, a4, a5, a6, a7, a8, a9, a10, a11⟩ := h
  exact ⟨far' hn (far' hn (far' hn (far' hn a0))), far' hn (far' hn (far' hn (far' hn a1))), far' hn (far' hn (far' hn (far' hn a2))), far' hn (far' hn (far' hn (far' hn a3))), far' hn (far' hn (far' hn (far' hn a4))), far' hn (far' hn (far' hn (far' hn a5))), far' hn (far' hn (far' hn (far' hn a6))), far' hn (far' hn (far' hn (far' hn a7))), far' hn (far' hn (far' hn (far' hn a8))), far' hn (far' hn (far' hn (far' hn a9))), far' hn (far' hn (far' hn (far' hn a10))), far' hn (far' hn (far' hn (far' hn a11)))⟩

/-- What mapAll answers. -/
def AllIs (q : Nat → PV) (e : Nat → Int) (r : Nat → PV) (E : Int) : Prop :=
  ((∀ i < 4, e i = 0) ∧ r = q ∧ E = 0) ∨ (∃ k < 4, (∀ i < k, e i = 0) ∧ e k ≠ 0 ∧ r = (fun _ => .zero) ∧ E = e k)
/-- What a round of mapAll knows. -/
def AllSt (m : MV) (q g : Nat → PV) (w wx : World) (k : Nat) : Prop := MIn wx w.heap.size m ∧ Whole wx (w.heap.size + 1) 69 (four (mix q g k)) ∧ Whole wx (w.heap.size + 1 + 1) 69 #[.int .i64 0, .int .i64 0, .int .i64 0, .int .i64 0, .int .i64 0, .int .i64 0, .int .i64 0, .int .i64 0, .int .i64 0, .int .i64 0, .int .i64 0, .int .i64 0, .int .i64 0, .int .i64 0, .int .i64 0, .int .i64 0] ∧ Below w.heap.size w wx

end Go.Proofs.Ytpdjooeogpidhaa
