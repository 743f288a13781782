/- Which symbol the first bits of a number are. No program stands in it. -/
import Derived.Test.YtdoliloiagfagaaDoorHuffSyms
namespace Go.Proofs.YtdoliloiagfagaaDoor
open Go.RowKit

theorem natsOf_length' (l : List Int) : (natsOf l).length = l.length := by simp [natsOf]
theorem ofLen_len (l : List Nat) (k n : Nat) (hn : n ≤ l.length) : (ofLen l k n).length = cnt l k n := by
  induction n with
  | zero => simp [ofLen_zero, cnt_zero]
  | succ n ih =>
    have hx := List.getElem?_eq_getElem (show n < l.length by omega)
    generalize l[n] = x at hx
    have hg : l.getD n 0 = x := by rw [List.getD_eq_getElem?_getD, hx]; rfl
    rw [cnt_succ k hx]
    by_cases e : x = k
    · rw [ofLen_hit (hg.trans e), List.length_append, ih (by omega), if_pos e]
      rfl
    · rw [ofLen_miss (by rw [hg]; exact e), ih (by omega), if_neg e]
      rfl
theorem ofLen_at (l : List Nat) (k n j s : Nat) (hn : n ≤ l.length) : (ofLen l k n)[j]? = some s ↔ s < n ∧ l[s]? = some k ∧ cnt l k s = j := by
  induction n with
  | zero => simp [ofLen_zero]
  | succ n ih =>
    have ih := ih (by omega)
    have hx := List.getElem?_eq_getElem (show n < l.length by omega)
    generalize l[n] = x at hx
    have hg : l.getD n 0 = x := by rw [List.getD_eq_getElem?_getD, hx]; rfl
    have hlen := ofLen_len l k n (by omega)
    by_cases e : x = k
    · subst e
      rw [ofLen_hit hg, List.getElem?_append]
      by_cases hj : j < (ofLen l x n).length
      · rw [if_pos hj, ih]
        constructor
        · rintro ⟨a, b, c⟩; exact ⟨by omega, b, c⟩
        · rintro ⟨a, b, c⟩
          refine ⟨?_, b, c⟩
          rcases Nat.lt_or_ge s n with h | h
          · exact h
          · obtain rfl : s = n := by omega
            omega
      · rw [if_neg hj]
        constructor
        · intro h
          obtain ⟨h1, h2⟩ := List.getElem?_eq_some_iff.1 h
          simp at h1
          have : j - (ofLen l x n).length = 0 := by omega
          simp [this] at h2
          subst h2
          exact ⟨by omega, hx, by omega⟩
        · rintro ⟨a, b, c⟩
          rcases Nat.lt_or_ge s n with h | h
          · have := ih.2 ⟨h, b, c⟩
            have := (List.getElem?_eq_some_iff.1 this).1
            omega
          · obtain rfl : s = n := by omega
            have : j - (ofLen l x s).length = 0 := by omega
            rw [this]
            rfl
    · rw [ofLen_miss (by rw [hg]; exact e), ih]
      constructor
      · rintro ⟨a, b, c⟩; exact ⟨by omega, b, c⟩
      · rintro ⟨a, b, c⟩
        refine ⟨?_, b, c⟩
        rcases Nat.lt_or_ge s n with h | h
        · exact h
        · obtain rfl : s = n := by omega
          rw [hx] at b
          injection b with b
          exact absurd b e
theorem symsTo_at (l : List Int) (L K j : Nat) (hK : L + 1 ≤ K) (hj : j < (ofLen (natsOf l) (L + 1) l.length).length) :
    (symsTo l K)[(symsTo l L).length + j]? = (ofLen (natsOf l) (L + 1) l.length)[j]? := by
  induction K with
  | zero => omega
  | succ K ih =>
    have hlen : ∀ M, (symsTo l (M + 1)).length = (symsTo l M).length + (ofLen (natsOf l) (M + 1) l.length).length := fun M => by
      show (symsTo l M ++ ofLen (natsOf l) (M + 1) l.length).length = _
      rw [List.length_append]
    show (symsTo l K ++ ofLen (natsOf l) (K + 1) l.length)[(symsTo l L).length + j]? = _
    by_cases e : K = L
    · subst e
      rw [List.getElem?_append_right (by omega), Nat.add_sub_cancel_left]
    · have hmono : ∀ d, (symsTo l (L + 1)).length ≤ (symsTo l (L + 1 + d)).length := fun d => by
        induction d with
        | zero => exact Nat.le_refl _
        | succ d ih =>
          have := hlen (L + 1 + d)
          rw [show L + 1 + (d + 1) = L + 1 + d + 1 from rfl]
          omega
      have h1 := hmono (K - (L + 1))
      rw [show L + 1 + (K - (L + 1)) = K by omega, hlen L] at h1
      rw [List.getElem?_append_left (by omega)]
      exact ih (by omega)
theorem symsTo_len (l : List Int) (L : Nat) : (symsTo l (L + 1)).length = (symsTo l L).length + cnt (natsOf l) (L + 1) l.length := by
  show (symsTo l L ++ ofLen (natsOf l) (L + 1) l.length).length = _
  rw [List.length_append, ofLen_len _ _ _ (Nat.le_of_eq (natsOf_length' l).symm)]
theorem symsAt_all (l : List Int) : symsAt l 15 0 = symsTo l 15 := by
  unfold symsAt
  rw [ofLen_zero, List.append_nil]
/-- The symbol whose word is the first L + 1 bits of N. -/
def hit (l : List Int) (N L : Nat) : Option Nat :=
  if 2 * endC (natsOf l) L ≤ revB N (L + 1) then (ofLen (natsOf l) (L + 1) l.length)[revB N (L + 1) - 2 * endC (natsOf l) L]? else none
theorem hit_iff (l : List Int) (N L s : Nat) : hit l N L = some s ↔ s < l.length ∧ (natsOf l)[s]? = some (L + 1) ∧ codeOf (natsOf l) s (L + 1) = revB N (L + 1) := by
  unfold hit codeOf
  rw [Nat.add_sub_cancel]
  by_cases h : 2 * endC (natsOf l) L ≤ revB N (L + 1)
  · rw [if_pos h, ofLen_at _ _ _ _ _ (Nat.le_of_eq (natsOf_length' l).symm)]
    constructor
    · rintro ⟨a, b, c⟩; exact ⟨a, b, by omega⟩
    · rintro ⟨a, b, c⟩; exact ⟨a, b, by omega⟩
  · rw [if_neg h]
    constructor
    · intro h; cases h
    · rintro ⟨a, b, c⟩; omega
/-- What is read: a symbol s, an error E, and u bits are gone. -/
def RES (l : List Int) (N av s : Nat) (E : Int) (u : Nat) : Prop :=
  (∃ L, L < 15 ∧ L < av ∧ (∀ j, j < L → hit l N j = none) ∧ hit l N L = some s ∧ E = 0 ∧ u = L + 1) ∨
  (av < 15 ∧ (∀ j, j < av → hit l N j = none) ∧ s = 0 ∧ E = 6 ∧ u = av) ∨
  (15 ≤ av ∧ (∀ j, j < 15 → hit l N j = none) ∧ s = 0 ∧ E = 4 ∧ u = 15)
theorem RES.eq {l : List Int} {N av s s' : Nat} {E E' : Int} {u u' : Nat} (h : RES l N av s E u) (h' : RES l N av s' E' u') : s' = s ∧ E' = E ∧ u' = u := by
  rcases h with ⟨L, a1, a2, a3, a4, rfl, rfl⟩ | ⟨a1, a2, rfl, rfl, rfl⟩ | ⟨a1, a2, rfl, rfl, rfl⟩ <;>
    rcases h' with ⟨L', b1, b2, b3, b4, rfl, rfl⟩ | ⟨b1, b2, rfl, rfl, rfl⟩ | ⟨b1, b2, rfl, rfl, rfl⟩
  · have e : L' = L := by
      rcases Nat.lt_trichotomy L L' with h | h | h
      · have := b3 L h; rw [a4] at this; cases this
      · exact h.symm
      · have := a3 L' h; rw [b4] at this; cases this
    subst e
    rw [a4] at b4
    injection b4 with b4
    exact ⟨b4.symm, rfl, rfl⟩
  · have := b2 L a2; rw [a4] at this; cases this
  · have := b2 L a1; rw [a4] at this; cases this
  · have := a2 L' b2; rw [b4] at this; cases this
  · exact ⟨rfl, rfl, rfl⟩
  · omega
  · have := a2 L' b1; rw [b4] at this; cases this
  · omega
  · exact ⟨rfl, rfl, rfl⟩
theorem RES.used {l : List Int} {N av s : Nat} {E : Int} {u : Nat} (h : RES l N av s E u) : u ≤ av ∧ (E ≠ 6 → 1 ≤ u) := by
  rcases h with ⟨L, a1, a2, a3, a4, rfl, rfl⟩ | ⟨a1, a2, rfl, rfl, rfl⟩ | ⟨a1, a2, rfl, rfl, rfl⟩
  · exact ⟨by omega, fun _ => by omega⟩
  · exact ⟨Nat.le_refl _, fun h => absurd rfl h⟩
  · exact ⟨a1, fun _ => by omega⟩
end Go.Proofs.YtdoliloiagfagaaDoor
