/- The reference's reader: what is refused, Align; bits as bytes. -/
import Derived.Test.YtpcofdhhnfichaaHBitsRef
import Derived.Deep.LoopGhost
namespace Go.Proofs.Ytpcofdhhnfichaa
open Go.RowKit

theorem xbits_bad (X : Nat) (k : Int) (w : World) (hk : k < 0 ∨ 24 < k) :
    Calls Try.prog 35 #[.pointer (some ⟨X, 0, none⟩), .int .i64 k] w fun e w' => e = .returned (.tuple #[.int .i64 0, .int .i64 1]) ∧ w = w' := by
  rcases hk with h | h
  · go_enter Try.func35, Try.ntmps35
    go_wp2
    go_ret2
    exact ⟨rfl, rfl⟩
  · have h0 : ¬ k < 0 := by omega
    go_enter Try.func35, Try.ntmps35
    go_wp2
    go_ret2
    exact ⟨rfl, rfl⟩
theorem xbits_more (X R N n p c k : Nat) (A : Option Addr) (w : World) (h : XR w X R N n p A c) (hk : k ≤ 24) (hL : n < p + k) :
    Calls Try.prog 35 #[.pointer (some ⟨X, 0, none⟩), .int .i64 k] w fun e w' => e = .returned (.tuple #[.int .i64 0, .int .i64 6]) ∧ ∃ j, w' = w.drewN j := by
  obtain ⟨c0, c1, f1⟩ := h.cells
  have htop := h.top
  have hle := h.le
  have d1 : decide ((n : Int) - p < k) = true := by rw [decide_eq_true_iff]; omega
  clear h
  go_enter Try.func35, Try.ntmps35
  go_wp2_with fail
  go_quiet (fail)
  go_wp2
  go_ret2
  exact ⟨rfl, _, rfl⟩
/-- The bits of a number from some place on, the others 0. -/
def hiB (M i : Nat) : Nat := M / 2 ^ i * 2 ^ i
theorem hiB_step (M i : Nat) : hiB M i = hiB M (i + 1) + if M.testBit i then 2 ^ i else 0 := by
  unfold hiB
  rw [Nat.testBit_eq_decide_div_mod_eq, Nat.pow_succ, ← Nat.div_div_eq_div_mul]
  generalize M / 2 ^ i = x
  rw [← Nat.mul_assoc, Nat.mul_right_comm]
  have e : x = x / 2 * 2 + x % 2 := by omega
  by_cases h : x % 2 = 1
  · simp [h]
    rw [← Nat.succ_mul]
    congr 1
    omega
  · simp [h]
    congr 1
    omega
theorem digit_put (Z a b : Nat) (hb : b < 8) : digit (2 ^ (8 * a + b + 1) * Z + 2 ^ (8 * a + b)) a = digit (2 ^ (8 * a + b + 1) * Z) a + 2 ^ b ∧ ∀ j, j ≠ a → digit (2 ^ (8 * a + b + 1) * Z + 2 ^ (8 * a + b)) j = digit (2 ^ (8 * a + b + 1) * Z) j := by
  have e1 : 2 ^ (8 * a + b + 1) * Z = 256 ^ a * (2 ^ (b + 1) * Z) := by
    rw [Nat.add_assoc, Nat.pow_add, Nat.pow_mul, Nat.mul_assoc]
  have e2 : 2 ^ (8 * a + b) = 256 ^ a * 2 ^ b := by rw [Nat.pow_add, Nat.pow_mul]
  have hp : 0 < 256 ^ a := Nat.pow_pos (by decide)
  have key : (2 ^ (b + 1) * Z + 2 ^ b) % 256 = 2 ^ (b + 1) * Z % 256 + 2 ^ b ∧ (2 ^ (b + 1) * Z + 2 ^ b) / 256 = 2 ^ (b + 1) * Z / 256 := by
    match b, hb with
    | 0, _ | 1, _ | 2, _ | 3, _ | 4, _ | 5, _ | 6, _ | 7, _ => simp only [Nat.reduceAdd, Nat.reducePow]; omega
    | b + 8, h => omega
  unfold digit
  rw [e1, e2, ← Nat.mul_add]
  refine ⟨by rw [Nat.mul_div_cancel_left _ hp, Nat.mul_div_cancel_left _ hp]; exact key.1, fun j hj => ?_⟩
  rcases Nat.lt_or_ge j a with h | h
  · obtain ⟨d, rfl⟩ : ∃ d, a = j + (d + 1) := ⟨a - j - 1, by omega⟩
    have hp2 : 0 < 256 ^ j := Nat.pow_pos (by decide)
    rw [Nat.pow_add, Nat.mul_assoc, Nat.mul_assoc, Nat.mul_div_cancel_left _ hp2, Nat.mul_div_cancel_left _ hp2, Nat.pow_succ, Nat.mul_comm (256 ^ d) 256, Nat.mul_assoc, Nat.mul_assoc, Nat.mul_mod_right, Nat.mul_mod_right]
  · obtain ⟨d, rfl⟩ : ∃ d, j = a + (1 + d) := ⟨j - a - 1, by omega⟩
    have e3 : 256 ^ (a + (1 + d)) = 256 ^ a * (256 * 256 ^ d) := by rw [Nat.pow_add, Nat.pow_add, Nat.pow_one]
    rw [e3, ← Nat.div_div_eq_div_mul, Nat.mul_div_cancel_left _ hp, ← Nat.div_div_eq_div_mul, ← Nat.div_div_eq_div_mul, Nat.mul_div_cancel_left _ hp, ← Nat.div_div_eq_div_mul, key.2]
theorem rowB_put (Y Y' q a : Nat) (h : ∀ j, j ≠ a → digit Y' j = digit Y j) : (rowB Y q q).setIfInBounds a (.int .u8 (digit Y' a)) = rowB Y' q q := by
  apply Array.toList_inj.1
  apply List.ext_getElem
  · simp [rowB]
  · intro j h1 h2
    simp [rowB] at h1 h2 ⊢
    rw [List.getElem_set]
    by_cases e : a = j
    · subst e; simp [h2]
    · rw [if_neg e]
      simp [h2]
      exact congrArg (fun z : Nat => (z : Int)) (h j (Ne.symm e)).symm
theorem rowB_all (q : Nat) : rowB 0 q 0 = rowB 0 q q := by
  unfold rowB
  congr 1
  apply List.map_congr_left
  intro j hj
  have : j < q := List.mem_range.1 hj
  simp [this, digit]
end Go.Proofs.Ytpcofdhhnfichaa
