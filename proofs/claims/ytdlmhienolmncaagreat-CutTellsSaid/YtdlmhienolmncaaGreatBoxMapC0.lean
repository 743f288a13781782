/- Four points as cells; what mapAll answers. -/
import Derived.Test.YtdlmhienolmncaaGreatBoxOf
import Derived.Deep.DeepCutAuto
namespace Go.Proofs.YtdlmhienolmncaaGreat
open Go.RowKit Dec

/-- Four points, as cells. -/
abbrev four (g : Nat → PV) : Array Value := #[.int .i64 (g 0).x.m, .int .i64 (g 0).x.s, .int .i64 (g 0).y.m, .int .i64 (g 0).y.s, .int .i64 (g 1).x.m, .int .i64 (g 1).x.s, .int .i64 (g 1).y.m, .int .i64 (g 1).y.s, .int .i64 (g 2).x.m, .int .i64 (g 2).x.s, .int .i64 (g 2).y.m, .int .i64 (g 2).y.s, .int .i64 (g 3).x.m, .int .i64 (g 3).x.s, .int .i64 (g 3).y.m, .int .i64 (g 3).y.s]
def mix (q g : Nat → PV) (k : Nat) (i : Nat) : PV := if i < k then q i else g i
theorem idx4 (g : Nat → PV) (k : Nat) (hk : k < 4) (w : World) : (Instr.index 164 (.agg (four g)) (.int .i64 k)).run Tryz.prog w = .ok (.agg #[.int .i64 (g k).x.m, .int .i64 (g k).x.s, .int .i64 (g k).y.m, .int .i64 (g k).y.s]) w := by
  rcases (by omega : k = 0 ∨ k = 1 ∨ k = 2 ∨ k = 3) with rfl | rfl | rfl | rfl
  · kernel_rfl
  · kernel_rfl
  · kernel_rfl
  · kernel_rfl
theorem four_at (f : Nat → PV) (k : Nat) (hk : k < 4) : (four f)[k * 4]? = some (.int .i64 (f k).x.m) ∧ (four f)[k * 4 + 1]? = some (.int .i64 (f k).x.s) ∧ (four f)[k * 4 + 2]? = some (.int .i64 (f k).y.m) ∧ (four f)[k * 4 + 3]? = some (.int .i64 (f k).y.s) := by
  rcases (by omega : k = 0 ∨ k = 1 ∨ k = 2 ∨ k = 3) with rfl | rfl | rfl | rfl
  · exact ⟨rfl, rfl, rfl, rfl⟩
  · exact ⟨rfl, rfl, rfl, rfl⟩
  · exact ⟨rfl, rfl, rfl, rfl⟩
  · exact ⟨rfl, rfl, rfl, rfl⟩
theorem mix_cells (q g : Nat → PV) (k : Nat) (hk : k < 4) : ((((four (mix q g k)).setIfInBounds (k * 4) (.int .i64 (q k).x.m)).setIfInBounds (k * 4 + 1) (.int .i64 (q k).x.s)).setIfInBounds (k * 4 + 2) (.int .i64 (q k).y.m)).setIfInBounds (k * 4 + 3) (.int .i64 (q k).y.s) = four (mix q g (k + 1)) := by
  rcases (by omega : k = 0 ∨ k = 1 ∨ k = 2 ∨ k = 3) with rfl | rfl | rfl | rfl
  · rfl
  · rfl
  · rfl
  · rfl
theorem mix_all (q g : Nat → PV) : four (mix q g 4) = four q := rfl

theorem MIn.away4 {w : World} {g B : Nat} {p : MV} (h : MIn w g p) (hn : ¬ B = g) (i j k l : Nat) (a b c d : Value) :
    MIn ((((w.setCell ⟨B, i, none⟩ a).setCell ⟨B, j, none⟩ b).setCell ⟨B, k, none⟩ c).setCell ⟨B, l, none⟩ d) g p := by
  obtain ⟨a0, a1, a2, a3, a4, a5, a6, a7, a8, a9, a10, a11⟩ := h
  exact ⟨far' hn (far' hn (far' hn (far' hn a0))), far' hn (far' hn (far' hn (far' hn a1))), far' hn (far' hn (far' hn (far' hn a2))), far' hn (far' hn (far' hn (far' hn a3))), far' hn (far' hn (far' hn (far' hn a4))), far' hn (far' hn (far' hn (far' hn a5))), far' hn (far' hn (far' hn (far' hn a6))), far' hn (far' hn (far' hn (far' hn a7))), far' hn (far' hn (far' hn (far' hn a8))), far' hn (far' hn (far' hn (far' hn a9))), far' hn (far' hn (far' hn (far' hn a10))), far' hn (far' hn (far' hn (far' hn a11)))⟩

/-- What mapAll answers. -/
def AllIs (q : Nat → PV) (e : Nat → Int) (r : Nat → PV) (E : Int) : Prop :=
  ((∀ i < 4, e i = 0) ∧ r = q ∧ E = 0) ∨ (∃ k < 4, (∀ i < k, e i = 0) ∧ e k ≠ 0 ∧ r = (fun _ => .zero) ∧ E = e k)
/-- What a round of mapAll knows. -/
def AllSt (m : MV) (q g : Nat → PV) (w wx : World) (k : Nat) : Prop := MIn wx w.heap.size m ∧ Whole wx (w.heap.size + 1) 164 (four (mix q g k)) ∧ Whole wx (w.heap.size + 1 + 1) 164 #[.int .i64 0, .int .i64 0, .int .i64 0, .int .i64 0, .int .i64 0, .int .i64 0, .int .i64 0, .int .i64 0, .int .i64 0, .int .i64 0, .int .i64 0, .int .i64 0, .int .i64 0, .int .i64 0, .int .i64 0, .int .i64 0] ∧ Below w.heap.size w wx

end Go.Proofs.YtdlmhienolmncaaGreat
/- The walk of box's mapAll, where all four can be told. -/
namespace Go.Proofs.YtdlmhienolmncaaGreat
open Go.RowKit Dec

end Go.Proofs.YtdlmhienolmncaaGreat

/- The walk of box's mapAll, where one cannot be told. -/
namespace Go.Proofs.YtdlmhienolmncaaGreat
open Go.RowKit Dec

end Go.Proofs.YtdlmhienolmncaaGreat

/- The walk of box's Map. -/
namespace Go.Proofs.YtdlmhienolmncaaGreat
open Go.RowKit Dec

theorem uncons {α : Type} {n : Nat} {l : List α} (h : l.length = n + 1) : ∃ a t, l = a :: t ∧ t.length = n := by
  cases l with
  | nil => cases h
  | cons a t => exact ⟨a, t, rfl, by simpa using h⟩
theorem set16 (l : List Value) (hl : l.length = 16) (x0 x1 x2 x3 x4 x5 x6 x7 x8 x9 x10 x11 x12 x13 x14 x15 : Value) : ((((((((((((((((l.toArray.setIfInBounds 0 x0).setIfInBounds 1 x1).setIfInBounds 2 x2).setIfInBounds 3 x3).setIfInBounds 4 x4).setIfInBounds 5 x5).setIfInBounds 6 x6).setIfInBounds 7 x7).setIfInBounds 8 x8).setIfInBounds 9 x9).setIfInBounds 10 x10).setIfInBounds 11 x11).setIfInBounds 12 x12).setIfInBounds 13 x13).setIfInBounds 14 x14).setIfInBounds 15 x15) = #[x0, x1, x2, x3, x4, x5, x6, x7, x8, x9, x10, x11, x12, x13, x14, x15] := by
  obtain ⟨a0, l0, rfl, h0⟩ := uncons hl
  obtain ⟨a1, l1, rfl, h1⟩ := uncons h0
  obtain ⟨a2, l2, rfl, h2⟩ := uncons h1
  obtain ⟨a3, l3, rfl, h3⟩ := uncons h2
  obtain ⟨a4, l4, rfl, h4⟩ := uncons h3
  obtain ⟨a5, l5, rfl, h5⟩ := uncons h4
  obtain ⟨a6, l6, rfl, h6⟩ := uncons h5
  obtain ⟨a7, l7, rfl, h7⟩ := uncons h6
  obtain ⟨a8, l8, rfl, h8⟩ := uncons h7
  obtain ⟨a9, l9, rfl, h9⟩ := uncons h8
  obtain ⟨a10, l10, rfl, h10⟩ := uncons h9
  obtain ⟨a11, l11, rfl, h11⟩ := uncons h10
  obtain ⟨a12, l12, rfl, h12⟩ := uncons h11
  obtain ⟨a13, l13, rfl, h13⟩ := uncons h12
  obtain ⟨a14, l14, rfl, h14⟩ := uncons h13
  obtain ⟨a15, l15, rfl, h15⟩ := uncons h14
  cases l15 with
  | nil => simp only [List.setIfInBounds_toArray, List.set_cons_zero, List.set_cons_succ]
  | cons _ _ => cases h15
theorem Whole.store16 {w : World} {B : Nat} {T : TypeId} {x0 x1 x2 x3 x4 x5 x6 x7 x8 x9 x10 x11 x12 x13 x14 x15 : Value} {cs : Array Value} (h : Whole w B T cs) (hs : cs.size = 16) :
    Whole ((((((((((((((((w.setCell ⟨B, 0, none⟩ x0).setCell ⟨B, 1, none⟩ x1).setCell ⟨B, 2, none⟩ x2).setCell ⟨B, 3, none⟩ x3).setCell ⟨B, 4, none⟩ x4).setCell ⟨B, 5, none⟩ x5).setCell ⟨B, 6, none⟩ x6).setCell ⟨B, 7, none⟩ x7).setCell ⟨B, 8, none⟩ x8).setCell ⟨B, 9, none⟩ x9).setCell ⟨B, 10, none⟩ x10).setCell ⟨B, 11, none⟩ x11).setCell ⟨B, 12, none⟩ x12).setCell ⟨B, 13, none⟩ x13).setCell ⟨B, 14, none⟩ x14).setCell ⟨B, 15, none⟩ x15) B T #[x0, x1, x2, x3, x4, x5, x6, x7, x8, x9, x10, x11, x12, x13, x14, x15] := by
  have h' := ((((((((((((((((h.set 0 x0).set 1 x1).set 2 x2).set 3 x3).set 4 x4).set 5 x5).set 6 x6).set 7 x7).set 8 x8).set 9 x9).set 10 x10).set 11 x11).set 12 x12).set 13 x13).set 14 x14).set 15 x15)
  obtain ⟨l⟩ := cs
  rw [set16 l hs] at h'
  exact h'
theorem Whole.fill16 {w : World} {B : Nat} {T : TypeId} {x0 x1 x2 x3 x4 x5 x6 x7 x8 x9 x10 x11 x12 x13 x14 x15 : Value} (h : Whole w B T #[.int .i64 0, .int .i64 0, .int .i64 0, .int .i64 0, .int .i64 0, .int .i64 0, .int .i64 0, .int .i64 0, .int .i64 0, .int .i64 0, .int .i64 0, .int .i64 0, .int .i64 0, .int .i64 0, .int .i64 0, .int .i64 0]) :
    Whole ((((((((((((((((w.setCell ⟨B, 0, none⟩ x0).setCell ⟨B, 1, none⟩ x1).setCell ⟨B, 2, none⟩ x2).setCell ⟨B, 3, none⟩ x3).setCell ⟨B, 4, none⟩ x4).setCell ⟨B, 5, none⟩ x5).setCell ⟨B, 6, none⟩ x6).setCell ⟨B, 7, none⟩ x7).setCell ⟨B, 8, none⟩ x8).setCell ⟨B, 9, none⟩ x9).setCell ⟨B, 10, none⟩ x10).setCell ⟨B, 11, none⟩ x11).setCell ⟨B, 12, none⟩ x12).setCell ⟨B, 13, none⟩ x13).setCell ⟨B, 14, none⟩ x14).setCell ⟨B, 15, none⟩ x15) B T #[x0, x1, x2, x3, x4, x5, x6, x7, x8, x9, x10, x11, x12, x13, x14, x15] := h.store16 rfl
theorem Whole.away16 {w : World} {g B : Nat} {T : TypeId} {x0 x1 x2 x3 x4 x5 x6 x7 x8 x9 x10 x11 x12 x13 x14 x15 : Value} {cs : Array Value} (h : Whole w g T cs) (hn : g ≠ B) :
    Whole ((((((((((((((((w.setCell ⟨B, 0, none⟩ x0).setCell ⟨B, 1, none⟩ x1).setCell ⟨B, 2, none⟩ x2).setCell ⟨B, 3, none⟩ x3).setCell ⟨B, 4, none⟩ x4).setCell ⟨B, 5, none⟩ x5).setCell ⟨B, 6, none⟩ x6).setCell ⟨B, 7, none⟩ x7).setCell ⟨B, 8, none⟩ x8).setCell ⟨B, 9, none⟩ x9).setCell ⟨B, 10, none⟩ x10).setCell ⟨B, 11, none⟩ x11).setCell ⟨B, 12, none⟩ x12).setCell ⟨B, 13, none⟩ x13).setCell ⟨B, 14, none⟩ x14).setCell ⟨B, 15, none⟩ x15) g T cs := ((((((((((((((((h.away (p := ⟨B, 0, none⟩) hn x0).away (p := ⟨B, 1, none⟩) hn x1).away (p := ⟨B, 2, none⟩) hn x2).away (p := ⟨B, 3, none⟩) hn x3).away (p := ⟨B, 4, none⟩) hn x4).away (p := ⟨B, 5, none⟩) hn x5).away (p := ⟨B, 6, none⟩) hn x6).away (p := ⟨B, 7, none⟩) hn x7).away (p := ⟨B, 8, none⟩) hn x8).away (p := ⟨B, 9, none⟩) hn x9).away (p := ⟨B, 10, none⟩) hn x10).away (p := ⟨B, 11, none⟩) hn x11).away (p := ⟨B, 12, none⟩) hn x12).away (p := ⟨B, 13, none⟩) hn x13).away (p := ⟨B, 14, none⟩) hn x14).away (p := ⟨B, 15, none⟩) hn x15)
theorem B16 {W w : World} {b B : Nat} {x0 x1 x2 x3 x4 x5 x6 x7 x8 x9 x10 x11 x12 x13 x14 x15 : Value} (hB : b ≤ B) (h : Below b W w) : Below b W ((((((((((((((((w.setCell ⟨B, 0, none⟩ x0).setCell ⟨B, 1, none⟩ x1).setCell ⟨B, 2, none⟩ x2).setCell ⟨B, 3, none⟩ x3).setCell ⟨B, 4, none⟩ x4).setCell ⟨B, 5, none⟩ x5).setCell ⟨B, 6, none⟩ x6).setCell ⟨B, 7, none⟩ x7).setCell ⟨B, 8, none⟩ x8).setCell ⟨B, 9, none⟩ x9).setCell ⟨B, 10, none⟩ x10).setCell ⟨B, 11, none⟩ x11).setCell ⟨B, 12, none⟩ x12).setCell ⟨B, 13, none⟩ x13).setCell ⟨B, 14, none⟩ x14).setCell ⟨B, 15, none⟩ x15) := ((((((((((((((((h.setCell hB _).setCell hB _).setCell hB _).setCell hB _).setCell hB _).setCell hB _).setCell hB _).setCell hB _).setCell hB _).setCell hB _).setCell hB _).setCell hB _).setCell hB _).setCell hB _).setCell hB _).setCell hB _)
theorem pat_four {w : World} {B : Nat} {T : TypeId} (g : Nat → PV) (h : Whole w B T (four g)) : ∀ i < 4, PAt w B (0 + i * 4) (g i) := fun i hi => by
  have k := four_at g i hi
  rw [Nat.zero_add]
  exact ⟨(h.reads _).trans k.1, (h.reads _).trans k.2.1, (h.reads _).trans k.2.2.1, (h.reads _).trans k.2.2.2⟩
def IsB (r : BV) (E : Int) (w : World) (e : Ending) (w' : World) : Prop := e = .returned (.tuple #[r.val, .int .i64 E]) ∧ Below w.heap.size w w'
end Go.Proofs.YtdlmhienolmncaaGreat

