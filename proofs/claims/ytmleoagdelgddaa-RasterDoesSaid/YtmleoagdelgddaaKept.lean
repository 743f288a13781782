/- What of cells lies as it lay, but in some blocks: for a caller's invariant over a range over a function. No program stands in it. -/
import Derived.Test.YtmleoagdelgddaaIter
namespace Go.Proofs.Ytmleoagdelgddaa
open Go.RowKit

/-- Below n₀ nothing has turned, and of the blocks of cells none but those of X. -/
structure Kept (n₀ : Nat) (X : Nat → Prop) (W W' : World) : Prop where
  os : W'.os = W.os
  tape : W'.tape = W.tape
  output : W'.output = W.output
  size : W.heap.size ≤ W'.heap.size
  low : ∀ k, k < n₀ → k < W.heap.size → W'.heap[k]? = W.heap[k]?
  row : ∀ k cs t f, W.heap[k]? = some (.cells cs t f) → ¬ X k → W'.heap[k]? = W.heap[k]?
section
variable {n₀ B : Nat} {X S : Nat → Prop} {W W' w : World}
theorem Kept.of_grown {row : Option Nat} (hg : W.grownBy W' row) (hr : ∀ r, row = some r → B ≤ r ∧ ∃ o : Obj, W.heap[r]? = some o ∧ o.isCells = false) (hB : n₀ ≤ B) : Kept n₀ (fun _ => False) W W' :=
  ⟨hg.os, hg.tape, hg.output, hg.size, fun k hk hs => hg.block k hs (fun e => by have := (hr k e.symm).1; omega), fun k _ _ _ hk _ => hg.block k (Array.getElem?_eq_some_iff.1 hk).1 (fun e => by
    obtain ⟨_, o, ho, hc⟩ := hr k e.symm
    rw [hk] at ho
    injection ho with ho
    subst ho
    cases hc)⟩
theorem Kept.of_fr (hf : Fr S W W') (hS : ∀ k, k < n₀ → ¬ S k) : Kept n₀ S W W' :=
  ⟨hf.os, hf.tape, hf.output, hf.size, fun k hk hs => hf.block k hs (hS k hk), fun k _ _ _ hk hn => hf.block k (Array.getElem?_eq_some_iff.1 hk).1 hn⟩
theorem Kept.boxed {t : TypeId} {v : Value} (h : Kept n₀ X W W') (hb : Boxed W B t v) (hn : ¬ X B) : Boxed W' B t v := (h.row B _ _ _ hb hn).trans hb
theorem Kept.whole {g : Nat} {t : TypeId} {cs : Array Value} (h : Kept n₀ X W W') (hb : Whole W g t cs) (hn : ¬ X g) : Whole W' g t cs := (h.row g _ _ _ hb hn).trans hb
theorem Kept.own {base size n : Nat} {e : TypeId} {v : Value} {xs : List Value} (k : Kept n₀ X W W') (h : W.ownsRow base e size v n xs) (hn : ∀ g, v.ownBlock = some g → ¬ X g) : W'.ownsRow base e size v n xs := by
  obtain ⟨hl, h⟩ := h
  refine ⟨hl, ?_⟩
  rcases h with ⟨rfl, rfl⟩ | ⟨g, cap, cur, rfl, hg, hw, r⟩
  · exact .inl ⟨rfl, rfl⟩
  · exact .inr ⟨g, cap, cur, rfl, hg, k.whole (t := e) hw (hn g rfl), r⟩
theorem Kept.below (k : Kept n₀ X W W') (h : Below n₀ w W) (hn : n₀ ≤ w.heap.size) : Below n₀ w W' :=
  ⟨k.os.trans h.os, k.tape.trans h.tape, k.output.trans h.output, Nat.le_trans h.size k.size, fun i hi => (k.low i hi (by have := h.size; omega)).trans (h.block i hi)⟩
end
end Go.Proofs.Ytmleoagdelgddaa
