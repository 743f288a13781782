/- A block of memory that is known cell for cell: how it is read, and what becomes of it; worlds in which one block alone has turned. No program stands in it. -/
import Derived.Below
import Derived.Laws.Rows
import Derived.Laws.MakeOwn
import Derived.Laws.OwnMore
import Derived.OwnWalk
import Derived.Deep.Draws
import Derived.Maps.AppendAt
import Derived.Deep.AppendLies
namespace Go.Proofs.Ytnjdnldoopgcpaa
open Go.RowKit

/-- Block g holds just these cells, of type T, and none is frozen. -/
def Whole (w : World) (g : Nat) (T : TypeId) (cs : Array Value) : Prop := w.heap[g]? = some (.cells cs T (0, 0))
section
variable {w w' : World} {g : Nat} {T : TypeId} {cs : Array Value}
theorem Whole.lt (h : Whole w g T cs) : g < w.heap.size := by
  by_cases hg : g < w.heap.size
  · exact hg
  · exact absurd (h.symm.trans (Array.getElem?_eq_none (by omega))) (by simp)
theorem Whole.reads (h : Whole w g T cs) (i : Nat) : w.cell? ⟨g, i, none⟩ = cs[i]? := cell_of_row w g i cs T (0, 0) h
theorem Whole.thawed (h : Whole w g T cs) (i : Nat) : w.frozen? ⟨g, i, none⟩ = false := by
  have h' : w.heap[g]? = some (.cells cs T (0, 0)) := h
  simp [World.frozen?, h']
theorem Whole.made (w : World) (T : TypeId) (cs : Array Value) : Whole (w.alloc (.cells cs T)) w.heap.size T cs := heap_alloc_new w _
theorem Whole.drawn (h : Whole w g T cs) (n : Nat) : Whole (w.drewN n) g T cs := h
theorem Whole.drawn1 (h : Whole w g T cs) : Whole w.drew g T cs := h
theorem Whole.set (h : Whole w g T cs) (i : Nat) (u : Value) : Whole (w.setCell ⟨g, i, none⟩ u) g T (cs.setIfInBounds i u) := by
  have h' : w.heap[g]? = some (.cells cs T (0, 0)) := h
  show (w.setCell ⟨g, i, none⟩ u).heap[g]? = _
  simp [World.setCell, Array.getElem?_modify, h']
theorem Whole.away (h : Whole w g T cs) {p : Addr} (hp : g ≠ p.block) (u : Value) : Whole (w.setCell p u) g T cs := (Below.heap_setCell w p u g hp).trans h
theorem Whole.later {B : Nat} (h : Whole w g T cs) (hb : Below B w w') (hg : g < B) : Whole w' g T cs := (hb.block g hg).trans h
theorem Whole.here (h : Whole w g T cs) (hb : Below w.heap.size w w') : Whole w' g T cs := h.later hb h.lt
theorem Whole.old (h : Whole w g T cs) (o : Obj) : Whole (w.alloc o) g T cs := h.here ((Below.refl _ _).alloc (Nat.le_refl _) o)
theorem Whole.kept {row : Option Nat} (h : Whole w g T cs) (hb : w.grownBy w' row) (hg : some g ≠ row) : Whole w' g T cs := (hb.block g h.lt hg).trans h
theorem Whole.apart {g' : Nat} {T' : TypeId} {cs' : Array Value} (h : Whole w g T cs) (h' : Whole w g' T' cs') (hne : T ≠ T') : g ≠ g' := by
  rintro rfl
  have e := h.symm.trans h'
  injection e with e
  injection e with _ e
  exact hne e
end
section
variable {a w : World} {row : Option Nat} {g : Nat}
theorem only_drewN (h : a.grownBy w row) (n : Nat) : a.grownBy (w.drewN n) row := ⟨h.os, h.tape, h.output, h.size, h.block⟩
theorem only_drew (h : a.grownBy w row) : a.grownBy w.drew row := ⟨h.os, h.tape, h.output, h.size, h.block⟩
theorem only_alloc (h : a.grownBy w row) (o : Obj) : a.grownBy (w.alloc o) row :=
  ⟨h.os, h.tape, h.output, Nat.le_trans h.size (by simp), fun i hi hne => (Below.heap_alloc w o i (Nat.lt_of_lt_of_le hi h.size)).trans (h.block i hi hne)⟩
theorem only_set (h : a.grownBy w (some g)) {p : Addr} (hp : p.block = g ∨ a.heap.size ≤ p.block) (u : Value) : a.grownBy (w.setCell p u) (some g) :=
  ⟨h.os, h.tape, h.output, by simpa [World.setCell] using h.size, fun i hi hne => (Below.heap_setCell w p u i (by
    rintro rfl
    rcases hp with hp | hp
    · exact hne (by rw [hp])
    · omega)).trans (h.block i hi hne)⟩
theorem only_below (h : a.grownBy w (some g)) {B : Nat} (hB : B ≤ g) (hs : B ≤ a.heap.size) : Below B a w := ⟨h.os, h.tape, h.output, h.size, fun i hi => h.block i (by omega) (fun e => by injection e; omega)⟩
theorem below_only (h : Below a.heap.size a w) (row : Option Nat) : a.grownBy w row := ⟨h.os, h.tape, h.output, h.size, fun i hi _ => h.block i hi⟩
theorem below_drewN {B : Nat} (h : Below B a w) (n : Nat) : Below B a (w.drewN n) := ⟨h.os, h.tape, h.output, h.size, h.block⟩
theorem only_join {b c : World} {row' : Option Nat} (h : a.grownBy b row) (k : b.grownBy c row') (hr : ∀ j, row' = some j → a.heap.size ≤ j ∨ row = some j) : a.grownBy c row :=
  ⟨k.os.trans h.os, k.tape.trans h.tape, k.output.trans h.output, Nat.le_trans h.size k.size, fun i hi hne => (k.block i (Nat.lt_of_lt_of_le hi h.size) (fun e => by
    rcases hr i e.symm with hj | hj
    · omega
    · exact hne hj.symm)).trans (h.block i hi hne)⟩
end

/-- Of the blocks that were there none has turned but those of S; the streams are as they were. -/
structure Fr (S : Nat → Prop) (w w' : World) : Prop where
  os : w'.os = w.os
  tape : w'.tape = w.tape
  output : w'.output = w.output
  size : w.heap.size ≤ w'.heap.size
  block : ∀ k, k < w.heap.size → ¬ S k → w'.heap[k]? = w.heap[k]?
section
variable {S T : Nat → Prop} {a b c w : World}
theorem Fr.refl (S : Nat → Prop) (w : World) : Fr S w w := ⟨rfl, rfl, rfl, Nat.le_refl _, fun _ _ _ => rfl⟩
theorem Fr.trans (h : Fr S a b) (k : Fr T b c) (hr : ∀ j, j < a.heap.size → T j → S j) : Fr S a c :=
  ⟨k.os.trans h.os, k.tape.trans h.tape, k.output.trans h.output, Nat.le_trans h.size k.size, fun i hi hn => (k.block i (Nat.lt_of_lt_of_le hi h.size) (fun e => hn (hr i hi e))).trans (h.block i hi hn)⟩
theorem Fr.more (h : Fr S a b) (hr : ∀ j, j < a.heap.size → S j → T j) : Fr T a b := ⟨h.os, h.tape, h.output, h.size, fun i hi hn => h.block i hi (fun e => hn (hr i hi e))⟩
theorem Fr.of_grown {row : Option Nat} (h : a.grownBy b row) : Fr (fun k => some k = row) a b := ⟨h.os, h.tape, h.output, h.size, fun i hi hn => h.block i hi hn⟩
theorem Fr.of_below {B : Nat} (h : Below B a b) : Fr (fun k => B ≤ k) a b := ⟨h.os, h.tape, h.output, h.size, fun i _ hn => h.block i (by omega)⟩
theorem Fr.drewN (h : Fr S a b) (n : Nat) : Fr S a (b.drewN n) := ⟨h.os, h.tape, h.output, h.size, h.block⟩
theorem Fr.drew (h : Fr S a b) : Fr S a b.drew := ⟨h.os, h.tape, h.output, h.size, h.block⟩
theorem Fr.from (n : Nat) (h : Fr S (a.drewN n) b) : Fr S a b := ⟨h.os, h.tape, h.output, h.size, h.block⟩
theorem Fr.alloc (h : Fr S a w) (o : Obj) : Fr S a (w.alloc o) :=
  ⟨h.os, h.tape, h.output, Nat.le_trans h.size (by simp), fun i hi hne => (Below.heap_alloc w o i (Nat.lt_of_lt_of_le hi h.size)).trans (h.block i hi hne)⟩
theorem Fr.set (h : Fr S a w) {p : Addr} (hp : p.block < a.heap.size → S p.block) (u : Value) : Fr S a (w.setCell p u) :=
  ⟨h.os, h.tape, h.output, by simpa [World.setCell] using h.size, fun i hi hne => (Below.heap_setCell w p u i (by
    rintro rfl
    exact hne (hp hi))).trans (h.block i hi hne)⟩
theorem Fr.setB {B : Nat} (h : Fr (fun k => k = B) a w) (i : Nat) (u : Value) : Fr (fun k => k = B) a (w.setCell ⟨B, i, none⟩ u) := h.set (p := ⟨B, i, none⟩) (fun _ => rfl) u
theorem Fr.grown {row : Option Nat} (h : Fr S a b) (k : b.grownBy c row) (hr : ∀ j, row = some j → j < a.heap.size → S j) : Fr S a c :=
  h.trans (Fr.of_grown k) (fun j hj e => hr j e.symm hj)
theorem Fr.below (h : Fr S a b) {B : Nat} (hB : B ≤ a.heap.size) (hS : ∀ j, j < B → ¬ S j) : Below B a b := ⟨h.os, h.tape, h.output, h.size, fun i hi => h.block i (by omega) (hS i hi)⟩
theorem Whole.frame {g : Nat} {U : TypeId} {cs : Array Value} (h : Whole a g U cs) (k : Fr S a b) (hn : ¬ S g) : Whole b g U cs := (k.block g h.lt hn).trans h
theorem own_frame {base size n : Nat} {e : TypeId} {v : Value} {xs : List Value} (h : a.ownsRow base e size v n xs) (k : Fr S a b) (hn : ∀ g, v.ownBlock = some g → ¬ S g) : b.ownsRow base e size v n xs := by
  obtain ⟨hl, h⟩ := h
  refine ⟨hl, ?_⟩
  rcases h with ⟨rfl, rfl⟩ | ⟨g, cap, cur, rfl, hg, hw, r⟩
  · exact .inl ⟨rfl, rfl⟩
  · exact .inr ⟨g, cap, cur, rfl, hg, Whole.frame (U := e) hw k (hn g rfl), r⟩
theorem own_lt {base size n g : Nat} {e : TypeId} {v : Value} {xs : List Value} (h : a.ownsRow base e size v n xs) (hg : v.ownBlock = some g) : base ≤ g ∧ g < a.heap.size ∧ ∃ cs, Whole a g e cs := by
  obtain ⟨hl, h⟩ := h
  rcases h with ⟨rfl, rfl⟩ | ⟨g', cap, cur, rfl, hb, hw, r⟩
  · cases hg
  · have e1 : some g' = some g := hg
    injection e1 with e1
    subst e1
    exact ⟨hb, Whole.lt (T := e) hw, cur, hw⟩
theorem own_base {base base' size n : Nat} {e : TypeId} {v : Value} {xs : List Value} (h : a.ownsRow base e size v n xs) (hg : ∀ g, v.ownBlock = some g → base' ≤ g) : a.ownsRow base' e size v n xs := by
  obtain ⟨hl, h⟩ := h
  refine ⟨hl, ?_⟩
  rcases h with ⟨rfl, rfl⟩ | ⟨g, cap, cur, rfl, _, r⟩
  · exact .inl ⟨rfl, rfl⟩
  · exact .inr ⟨g, cap, cur, rfl, hg g rfl, r⟩
end
end Go.Proofs.Ytnjdnldoopgcpaa
