/- The walks of a reader's takeBytes and Bytes. -/
import Derived.Test.YtnjdnldoopgcpaaBitsAlign
import Derived.Deep.OwnRows
namespace Go.Proofs.Ytnjdnldoopgcpaa
open Go.RowKit

/-- Byte i of a number, the first one lowest. -/
def digit (N i : Nat) : Nat := N / 256 ^ i % 256
theorem digit_lt (N i : Nat) : digit N i < 256 := Nat.mod_lt _ (by decide)
/-- A row of n cells of which the first i hold the number's bytes, the others 0. -/
def rowB (N n i : Nat) : Array Value := ((List.range n).map fun j => Value.int .u8 (if j < i then (digit N j : Int) else 0)).toArray
theorem rowB_size (N n i : Nat) : (rowB N n i).size = n := by simp [rowB]
theorem rowB_at (N n i j : Nat) (h : j < n) : (rowB N n i)[j]? = some (.int .u8 (if j < i then (digit N j : Int) else 0)) := by simp [rowB, h]
theorem rowB_zero (N n : Nat) : madeCells #[.int .u8 0] n = rowB N n 0 := by
  apply Array.toList_inj.1
  rw [toList_madeCells_one]
  apply List.ext_getElem
  · simp [rowB]
  · intro i h1 h2
    simp [rowB]
theorem rowB_set (N n i : Nat) : (rowB N n i).setIfInBounds i (.int .u8 (digit N i)) = rowB N n (i + 1) := by
  apply Array.toList_inj.1
  apply List.ext_getElem
  · simp [rowB]
  · intro j h1 h2
    simp [rowB] at h1 h2 ⊢
    rw [List.getElem_set]
    by_cases e : i = j
    · subst e; simp
    · rw [if_neg e]
      simp
      by_cases e1 : j < i
      · rw [if_pos e1, if_pos (by omega)]
      · rw [if_neg e1, if_neg (by omega)]
theorem pull8 (N i : Nat) : N / 2 ^ (8 * i) % 2 ^ 8 = digit N i := by
  unfold digit
  rw [Nat.pow_mul]
theorem pull8_on (N i : Nat) : N / 2 ^ (8 * i) / 2 ^ 8 = N / 2 ^ (8 * (i + 1)) := by
  rw [Nat.div_div_eq_div_mul, ← Nat.pow_add]; rfl
end Go.Proofs.Ytnjdnldoopgcpaa

