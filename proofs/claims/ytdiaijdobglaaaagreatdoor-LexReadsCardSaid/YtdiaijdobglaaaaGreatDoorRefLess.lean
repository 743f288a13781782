/- The reference's less: the walk. -/
import Derived.Test.YtdiaijdobglaaaaGreatDoorRefMake
namespace Go.Proofs.YtdiaijdobglaaaaGreatDoor
open Go.RowKit Dec

theorem num_split (ds : List Int) (p : Nat) : num ds = num (ds.take p) + 10 ^ p * num (ds.drop p) := by
  rcases Nat.le_total p ds.length with h | h
  · have := num_append (ds.take p) (ds.drop p)
    rw [List.take_append_drop, List.length_take, Nat.min_eq_left h] at this
    exact this
  · rw [List.take_of_length_le h, List.drop_of_length_le h]; simp [num]
theorem num_take_lt {ds : List Int} (h : Digs ds) (p : Nat) : num (ds.take p) < 10 ^ p :=
  num_bound (fun d hd => h d (List.mem_of_mem_take hd)) (by rw [List.length_take]; exact Nat.min_le_left _ _)
theorem digitAt_nat (ds : List Int) (p : Nat) : digitAt ds p = ds.getD p 0 := by
  unfold digitAt; rw [if_neg (by omega), Int.toNat_natCast]
theorem digitAt_le {ds : List Int} (h : Digs ds) (p : Nat) : 0 ≤ digitAt ds p ∧ digitAt ds p ≤ 9 := by
  rw [digitAt_nat]
  rcases Nat.lt_or_ge p ds.length with hp | hp
  · exact h.at hp
  · rw [List.getD, List.getElem?_eq_none hp]; decide
theorem num_digit (ds : List Int) (p : Nat) : num (ds.drop p) = (digitAt ds p).toNat + 10 * num (ds.drop (p + 1)) := by
  rw [digitAt_nat]
  rcases Nat.lt_or_ge p ds.length with hp | hp
  · exact num_drop hp
  · rw [List.drop_of_length_le hp, List.drop_of_length_le (Nat.le_succ_of_le hp), List.getD, List.getElem?_eq_none hp]; rfl

/-- The first digit from above that differs tells. -/
theorem less_at {a b : List Int} (ha : Digs a) (hb : Digs b) {p : Nat} (he : num (a.drop (p + 1)) = num (b.drop (p + 1))) (hne : digitAt a p ≠ digitAt b p) :
    (digitAt a p < digitAt b p ↔ num a < num b) := by
  have h1 := num_split a p
  have h2 := num_split b p
  have h3 := num_take_lt ha p
  have h4 := num_take_lt hb p
  have h5 := num_digit a p
  have h6 := num_digit b p
  have h7 := digitAt_le ha p
  have h8 := digitAt_le hb p
  rcases Int.lt_or_gt_of_ne hne with h | h
  · have hx : num (a.drop p) + 1 ≤ num (b.drop p) := by omega
    have hy := Nat.mul_le_mul_left (10 ^ p) hx
    rw [Nat.mul_add] at hy
    constructor
    · intro _; omega
    · intro _; exact h
  · have hx : num (b.drop p) + 1 ≤ num (a.drop p) := by omega
    have hy := Nat.mul_le_mul_left (10 ^ p) hx
    rw [Nat.mul_add] at hy
    constructor
    · intro h'; omega
    · intro h'; omega

end Go.Proofs.YtdiaijdobglaaaaGreatDoor

