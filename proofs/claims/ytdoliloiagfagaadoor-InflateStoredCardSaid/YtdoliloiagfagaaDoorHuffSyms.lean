/- The symbols in the order of their codes, and the words, as assign goes on. No program stands in it. -/
import Derived.Test.YtdoliloiagfagaaDoorHuffCodesW
import Derived.Test.YtdoliloiagfagaaDoorHuffRev
namespace Go.Proofs.YtdoliloiagfagaaDoor
open Go.RowKit

/-- The symbols below s of length k. -/
def ofLen (l : List Nat) (k s : Nat) : List Nat := (List.range s).filter fun j => l.getD j 0 == k
theorem ofLen_zero (l : List Nat) (k : Nat) : ofLen l k 0 = [] := rfl
theorem ofLen_hit {l : List Nat} {k s : Nat} (h : l.getD s 0 = k) : ofLen l k (s + 1) = ofLen l k s ++ [s] := by
  unfold ofLen
  rw [List.range_succ, List.filter_append, List.filter_cons_of_pos (by simp only [beq_iff_eq]; exact h)]
  rfl
theorem ofLen_miss {l : List Nat} {k s : Nat} (h : l.getD s 0 ≠ k) : ofLen l k (s + 1) = ofLen l k s := by
  unfold ofLen
  rw [List.range_succ, List.filter_append, List.filter_cons_of_neg (by simp only [beq_iff_eq]; exact h)]
  simp
theorem ofLen_le (l : List Nat) (k s : Nat) : (ofLen l k s).length ≤ s := by
  unfold ofLen
  have := List.length_filter_le (fun j => l.getD j 0 == k) (List.range s)
  rwa [List.length_range] at this
/-- The symbols of lengths 1 to L. -/
def symsTo (l : List Int) : Nat → List Nat
  | 0 => []
  | L + 1 => symsTo l L ++ ofLen (natsOf l) (L + 1) l.length
def symsAt (l : List Int) (L s : Nat) : List Nat := symsTo l L ++ ofLen (natsOf l) (L + 1) s
theorem symsAt_hit {l : List Int} {L s : Nat} (h : l[s]? = some ((L : Int) + 1)) : symsAt l L (s + 1) = symsAt l L s ++ [s] := by
  have := natsOf_getD h
  unfold symsAt
  rw [ofLen_hit (by omega), List.append_assoc]
theorem symsAt_miss {l : List Int} {L s : Nat} {x : Int} (h : l[s]? = some x) (hx : x ≠ (L : Int) + 1) : symsAt l L (s + 1) = symsAt l L s := by
  have := natsOf_getD h
  unfold symsAt
  rw [ofLen_miss (by omega)]
theorem symsAt_next (l : List Int) (L : Nat) : symsAt l L l.length = symsAt l (L + 1) 0 := by
  unfold symsAt
  rw [ofLen_zero, List.append_nil]
  rfl
theorem symsTo_le (l : List Int) (L : Nat) : (symsTo l L).length ≤ L * l.length := by
  induction L with
  | zero => simp [symsTo]
  | succ L ih =>
    have := ofLen_le (natsOf l) (L + 1) l.length
    unfold symsTo
    rw [List.length_append, Nat.add_mul]
    omega
theorem symsAt_le (l : List Int) (hl : l.length ≤ 320) (L s : Nat) (hL : L < 15) (hs : s ≤ l.length) : (symsAt l L s).length ≤ 4800 := by
  have h1 := symsTo_le l L
  have h2 := ofLen_le (natsOf l) (L + 1) s
  have h3 : L * l.length ≤ 14 * 320 := Nat.mul_le_mul (by omega) hl
  unfold symsAt
  rw [List.length_append]
  omega
/-- The cell i of the words: a reversed code and its length, in turn. -/
def wordIn (l : List Int) (L s i : Nat) : Nat :=
  let x := (natsOf l).getD (i / 2) 0
  if 0 < x ∧ (x ≤ L ∨ (x = L + 1 ∧ i / 2 < s)) then (if i % 2 = 0 then revB (codeOf (natsOf l) (i / 2) x) x else x) else 0
def wordsAt (l : List Int) (L s : Nat) : Array Value := ((List.range (2 * l.length)).map fun i => Value.int .i64 (wordIn l L s i : Int)).toArray
theorem wordsAt_size (l : List Int) (L s : Nat) : (wordsAt l L s).size = 2 * l.length := by simp [wordsAt]
theorem wordsAt_at (l : List Int) (L s i : Nat) (h : i < 2 * l.length) : (wordsAt l L s)[i]? = some (.int .i64 (wordIn l L s i : Int)) := by simp [wordsAt, h]
theorem wordsAt_congr {l : List Int} {L s L' s' : Nat} (h : ∀ i, i < 2 * l.length → wordIn l L s i = wordIn l L' s' i) : wordsAt l L s = wordsAt l L' s' := by
  unfold wordsAt
  congr 1
  apply List.map_congr_left
  intro i hi
  rw [h i (List.mem_range.1 hi)]
theorem wordsAt_hit {l : List Int} {L s : Nat} (h : l[s]? = some ((L : Int) + 1)) :
    ((wordsAt l L s).setIfInBounds (s * 2) (.int .i64 (revB (codeAt l L s) (L + 1) : Int))).setIfInBounds (s * 2 + 1) (.int .i64 ((L + 1 : Nat) : Int)) = wordsAt l L (s + 1) := by
  apply Array.ext_getElem?
  intro i
  have hs : s < l.length := (List.getElem?_eq_some_iff.1 h).1
  have hg := natsOf_getD h
  have e1 : ((L : Int) + 1).toNat = L + 1 := by omega
  rw [e1] at hg
  rw [Array.getElem?_setIfInBounds, Array.getElem?_setIfInBounds]
  by_cases hi : i < 2 * l.length
  · rw [wordsAt_at l L (s + 1) i hi]
    by_cases ea : s * 2 + 1 = i
    · subst ea
      rw [if_pos rfl, if_pos (by simp [wordsAt_size]; omega)]
      have d1 : (s * 2 + 1) / 2 = s := by omega
      have d2 : ¬ (s * 2 + 1) % 2 = 0 := by omega
      have : wordIn l L (s + 1) (s * 2 + 1) = L + 1 := by
        unfold wordIn
        simp only [d1, hg]
        rw [if_pos ⟨Nat.succ_pos L, Or.inr ⟨trivial, Nat.lt_succ_self s⟩⟩, if_neg d2]
      rw [this]
    · rw [if_neg ea]
      by_cases eb : s * 2 = i
      · subst eb
        rw [if_pos rfl, if_pos (by rw [wordsAt_size]; omega)]
        have d1 : s * 2 / 2 = s := by omega
        have d2 : s * 2 % 2 = 0 := by omega
        have : wordIn l L (s + 1) (s * 2) = revB (codeAt l L s) (L + 1) := by
          unfold wordIn
          simp only [d1, hg]
          rw [if_pos ⟨Nat.succ_pos L, Or.inr ⟨trivial, Nat.lt_succ_self s⟩⟩, if_pos d2]
          rfl
        rw [this]
      · rw [if_neg eb, wordsAt_at l L s i hi]
        have hne : i / 2 ≠ s := by omega
        have : wordIn l L s i = wordIn l L (s + 1) i := by
          unfold wordIn
          have : (i / 2 < s) ↔ (i / 2 < s + 1) := by omega
          simp only [this]
        rw [this]
  · have ea : ¬ s * 2 + 1 = i := by omega
    have eb : ¬ s * 2 = i := by omega
    rw [if_neg ea, if_neg eb, Array.getElem?_eq_none (by rw [wordsAt_size]; omega), Array.getElem?_eq_none (by rw [wordsAt_size]; omega)]
theorem wordsAt_miss {l : List Int} {L s : Nat} {x : Int} (h : l[s]? = some x) (hx : x ≠ (L : Int) + 1) : wordsAt l L s = wordsAt l L (s + 1) := by
  apply wordsAt_congr
  intro i _
  have hg := natsOf_getD h
  unfold wordIn
  by_cases e : i / 2 = s
  · have : ¬ ((natsOf l).getD (i / 2) 0 = L + 1) := by rw [e]; omega
    simp only [this, false_and]
  · have : (i / 2 < s) ↔ (i / 2 < s + 1) := by omega
    simp only [this]
theorem wordsAt_next (l : List Int) (L : Nat) : wordsAt l L l.length = wordsAt l (L + 1) 0 := by
  apply wordsAt_congr
  intro i hi
  unfold wordIn
  have : ((natsOf l).getD (i / 2) 0 ≤ L ∨ ((natsOf l).getD (i / 2) 0 = L + 1 ∧ i / 2 < l.length)) ↔ ((natsOf l).getD (i / 2) 0 ≤ L + 1 ∨ ((natsOf l).getD (i / 2) 0 = L + 1 + 1 ∧ i / 2 < 0)) := by omega
  simp only [this]
end Go.Proofs.YtdoliloiagfagaaDoor
