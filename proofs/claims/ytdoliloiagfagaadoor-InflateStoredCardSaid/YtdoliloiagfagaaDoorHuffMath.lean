/- The plain mathematics of huff: how many have a length, the codes in their order. No program stands in it. -/
import Derived.Test.YtdoliloiagfagaaDoorBitsMath
namespace Go.Proofs.YtdoliloiagfagaaDoor
open Go.RowKit

/-- How many of the first i have length k. -/
def cnt (l : List Nat) (k i : Nat) : Nat := (l.take i).countP (· == k)
theorem cnt_zero (l : List Nat) (k : Nat) : cnt l k 0 = 0 := by simp [cnt]
theorem cnt_succ {l : List Nat} {i x : Nat} (k : Nat) (h : l[i]? = some x) : cnt l k (i + 1) = cnt l k i + if x = k then 1 else 0 := by
  obtain ⟨hi, rfl⟩ := List.getElem?_eq_some_iff.1 h
  unfold cnt
  rw [List.take_succ_eq_append_getElem hi, List.countP_append]
  simp
theorem cnt_le (l : List Nat) (k i : Nat) : cnt l k i ≤ i := by
  unfold cnt
  exact Nat.le_trans List.countP_le_length (List.length_take_le _ _)
/-- The sum of the first i lengths' shares. -/
def share (l : List Nat) (i : Nat) : Nat := ((l.take i).map fun x => if 0 < x then 32768 / 2 ^ x else 0).sum
theorem share_zero (l : List Nat) : share l 0 = 0 := by simp [share]
theorem share_succ {l : List Nat} {i x : Nat} (h : l[i]? = some x) : share l (i + 1) = share l i + if 0 < x then 32768 / 2 ^ x else 0 := by
  obtain ⟨hi, rfl⟩ := List.getElem?_eq_some_iff.1 h
  unfold share
  rw [List.take_succ_eq_append_getElem hi, List.map_append, List.sum_append]
  simp
theorem share_le (l : List Nat) (i : Nat) : share l i ≤ 32768 * i := by
  induction i with
  | zero => simp [share_zero]
  | succ i ih =>
    by_cases h : i < l.length
    · rw [share_succ (List.getElem?_eq_getElem h)]
      have : (if 0 < l[i] then 32768 / 2 ^ l[i] else 0) ≤ 32768 := by
        split
        · exact Nat.div_le_self _ _
        · omega
      omega
    · have : share l (i + 1) = share l i := by
        unfold share
        rw [List.take_of_length_le (by omega), List.take_of_length_le (by omega)]
      omega
/-- The number behind the last code of a length. -/
def endC (l : List Nat) : Nat → Nat
  | 0 => 0
  | k + 1 => 2 * endC l k + cnt l (k + 1) l.length
theorem endC_le (l : List Nat) (h : l.length ≤ 320) (k : Nat) : endC l k ≤ 320 * (2 ^ k - 1) := by
  induction k with
  | zero => simp [endC]
  | succ k ih =>
    have := cnt_le l (k + 1) l.length
    have hp : 0 < 2 ^ k := Nat.two_pow_pos k
    unfold endC
    rw [Nat.pow_succ]
    omega
/-- The code of a symbol. -/
def codeOf (l : List Nat) (s x : Nat) : Nat := 2 * endC l (x - 1) + cnt l x s
end Go.Proofs.YtdoliloiagfagaaDoor
