/- huff's Codes, for every row of lengths. -/
import Derived.Test.YtdoliloiagfagaaDoorHuffAssign
import Derived.Deep.OwnRows
namespace Go.Proofs.YtdoliloiagfagaaDoor
open Go.RowKit

/-- The code that stands in cell j when assign is in round s of length L + 1. -/
def codeIn (l : List Int) (L s j : Nat) : Nat :=
  let x := (natsOf l).getD j 0
  if 0 < x ∧ (x ≤ L ∨ (x = L + 1 ∧ j < s)) then codeOf (natsOf l) j x else 0
def codesArr (l : List Int) (L s : Nat) : Array Value := ((List.range l.length).map fun j => Value.int .i64 (codeIn l L s j : Int)).toArray
theorem codesArr_size (l : List Int) (L s : Nat) : (codesArr l L s).size = l.length := by simp [codesArr]
theorem codesArr_at (l : List Int) (L s j : Nat) (h : j < l.length) : (codesArr l L s)[j]? = some (.int .i64 (codeIn l L s j : Int)) := by simp [codesArr, h]
theorem codesArr_congr {l : List Int} {L s L' s' : Nat} (h : ∀ j, j < l.length → codeIn l L s j = codeIn l L' s' j) : codesArr l L s = codesArr l L' s' := by
  unfold codesArr
  congr 1
  apply List.map_congr_left
  intro j hj
  rw [h j (List.mem_range.1 hj)]
theorem natsOf_getD {l : List Int} {s : Nat} {x : Int} (h : l[s]? = some x) : (natsOf l).getD s 0 = x.toNat := by
  rw [List.getD_eq_getElem?_getD, natsOf_at h]
  rfl
theorem codesArr_zero (l : List Int) : madeCells #[.int .i64 0] l.length = codesArr l 0 0 := by
  apply Array.ext_getElem?
  intro j
  by_cases h : j < l.length
  · rw [codesArr_at l 0 0 j h]
    have : codeIn l 0 0 j = 0 := by
      unfold codeIn
      simp only []
      rw [if_neg (by omega)]
    rw [this]
    simp [madeCells, h, Nat.mod_one]
  · rw [Array.getElem?_eq_none (by simp [madeCells]; omega), Array.getElem?_eq_none (by rw [codesArr_size]; omega)]
theorem codesArr_hit {l : List Int} {L s : Nat} (h : l[s]? = some ((L : Int) + 1)) : (codesArr l L s).setIfInBounds s (.int .i64 (codeAt l L s : Int)) = codesArr l L (s + 1) := by
  apply Array.ext_getElem?
  intro j
  have hs : s < l.length := (List.getElem?_eq_some_iff.1 h).1
  have hg := natsOf_getD h
  rw [Array.getElem?_setIfInBounds]
  by_cases hj : j < l.length
  · rw [codesArr_at l L (s + 1) j hj]
    by_cases e : s = j
    · subst e
      rw [if_pos rfl, if_pos (by rw [codesArr_size]; exact hs)]
      have : codeIn l L (s + 1) s = codeAt l L s := by
        unfold codeIn codeAt codeOf
        simp only [hg]
        rw [if_pos (by omega)]
        have e1 : ((L : Int) + 1).toNat = L + 1 := by omega
        rw [e1]
        rfl
      rw [this]
    · rw [if_neg e, codesArr_at l L s j hj]
      have : codeIn l L s j = codeIn l L (s + 1) j := by
        unfold codeIn
        have : (j < s) ↔ (j < s + 1) := by omega
        simp only [this]
      rw [this]
  · have e : s ≠ j := by omega
    rw [if_neg e, Array.getElem?_eq_none (by rw [codesArr_size]; omega), Array.getElem?_eq_none (by rw [codesArr_size]; omega)]
theorem codesArr_miss {l : List Int} {L s : Nat} {x : Int} (h : l[s]? = some x) (hx : x ≠ (L : Int) + 1) : codesArr l L s = codesArr l L (s + 1) := by
  apply codesArr_congr
  intro j _
  have hg := natsOf_getD h
  unfold codeIn
  by_cases e : j = s
  · subst e
    have : ¬ ((natsOf l).getD j 0 = L + 1) := by omega
    simp only [this, false_and]
  · have : (j < s) ↔ (j < s + 1) := by omega
    simp only [this]
theorem codesArr_next (l : List Int) (L : Nat) : codesArr l L l.length = codesArr l (L + 1) 0 := by
  apply codesArr_congr
  intro j hj
  unfold codeIn
  have : ((natsOf l).getD j 0 ≤ L ∨ ((natsOf l).getD j 0 = L + 1 ∧ j < l.length)) ↔ ((natsOf l).getD j 0 ≤ L + 1 ∨ ((natsOf l).getD j 0 = L + 1 + 1 ∧ j < 0)) := by omega
  simp only [this]

/-- What Codes$1 has caught, and the codes so far. -/
def CodesIn (w0 : World) (g v : Nat) (l : List Int) (L s : Nat) (w : World) : Prop :=
  Whole w g 3 (codesArr l L s) ∧ Whole w v 71 #[.slice (some ⟨g, 0, none⟩) l.length l.length] ∧ g ≠ v ∧ Below w0.heap.size w0 w ∧ w0.heap.size ≤ g
theorem codesIn_start (w W : World) (m : Nat) (l : List Int) (hb : Below w.heap.size w W) (hm : W.heap.size = m) :
    CodesIn w m (m + 1) l 0 0 ((W.alloc (.cells (madeCells #[.int .i64 0] l.length) 3)).alloc (.cells #[.slice (some ⟨m, 0, none⟩) l.length l.length] 71)) := by
  subst hm
  refine ⟨?_, ?_, by omega, (hb.alloc hb.size _).alloc (by have := hb.size; simp; omega) _, hb.size⟩
  · have := (Whole.made W 3 (madeCells #[.int .i64 0] l.length)).old (.cells #[.slice (some ⟨W.heap.size, 0, none⟩) l.length l.length] 71)
    rwa [codesArr_zero] at this ⊢
  · have := Whole.made (W.alloc (.cells (madeCells #[.int .i64 0] l.length) 3)) 71 #[.slice (some ⟨W.heap.size, 0, none⟩) l.length l.length]
    simpa using this
/-- What Codes answers. -/
def CodesAns (l : List Int) (w : World) (e : Ending) (w' : World) : Prop :=
  Below w.heap.size w w' ∧
  ((¬ lensOk l ∧ e = .returned (.tuple #[.slice none 0 0, .int .i64 1])) ∨
   (lensOk l ∧ 32768 < share (natsOf l) l.length ∧ e = .returned (.tuple #[.slice none 0 0, .int .i64 4])) ∨
   (lensOk l ∧ share (natsOf l) l.length ≤ 32768 ∧ ∃ g, w.heap.size ≤ g ∧ Whole w' g 3 (codesArr l 15 0) ∧ e = .returned (.tuple #[.slice (some ⟨g, 0, none⟩) l.length l.length, .int .i64 0])))
end Go.Proofs.YtdoliloiagfagaaDoor

