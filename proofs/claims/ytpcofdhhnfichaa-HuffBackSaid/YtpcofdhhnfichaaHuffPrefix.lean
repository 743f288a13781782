/- Canonical codes: no code is another one's beginning; words one behind the other are read as their symbols. No program stands in it. -/
import Derived.Test.YtpcofdhhnfichaaHuffFind
import Derived.Test.YtpcofdhhnfichaaHuffWord
namespace Go.Proofs.Ytpcofdhhnfichaa
open Go.RowKit

theorem cnt_mono {l : List Nat} (k : Nat) {i j : Nat} (h : i ≤ j) : cnt l k i ≤ cnt l k j := by
  induction j with
  | zero => rw [Nat.le_zero.1 h]; exact Nat.le_refl _
  | succ j ih =>
    rcases Nat.lt_or_ge i (j + 1) with e | e
    · refine Nat.le_trans (ih (by omega)) ?_
      cases hx : l[j]? with
      | none =>
        have : l.length ≤ j := List.getElem?_eq_none_iff.1 hx
        unfold cnt
        rw [List.take_of_length_le this, List.take_of_length_le (by omega)]
        exact Nat.le_refl _
      | some x => rw [cnt_succ k hx]; omega
    · rw [show i = j + 1 by omega]; exact Nat.le_refl _
theorem cnt_hit {l : List Nat} {i x : Nat} (h : l[i]? = some x) : cnt l x (i + 1) = cnt l x i + 1 := by rw [cnt_succ x h, if_pos rfl]
theorem endC_grow (l : List Nat) (L d : Nat) : 2 ^ d * endC l L ≤ endC l (L + d) := by
  induction d with
  | zero => simp
  | succ d ih =>
    show _ ≤ 2 * endC l (L + d) + cnt l (L + d + 1) l.length
    rw [Nat.pow_succ, Nat.mul_comm (2 ^ d) 2, Nat.mul_assoc]
    omega
theorem code_lt_end {l : List Nat} {s x : Nat} (h : l[s]? = some x) (hx : 0 < x) : codeOf l s x < endC l x := by
  obtain ⟨y, rfl⟩ : ∃ y, x = y + 1 := ⟨x - 1, by omega⟩
  have h1 := cnt_hit h
  have h2 := cnt_mono (l := l) (y + 1) (show s + 1 ≤ l.length from (List.getElem?_eq_some_iff.1 h).1)
  unfold codeOf
  rw [Nat.add_sub_cancel]
  show _ < 2 * endC l y + cnt l (y + 1) l.length
  omega
theorem prefix_free {l : List Nat} {i k a b : Nat} (hi : l[i]? = some a) (hk : l[k]? = some b) (ha : 0 < a) (hab : a ≤ b) (hne : i ≠ k) : codeOf l k b / 2 ^ (b - a) ≠ codeOf l i a := by
  intro e
  rcases Nat.lt_or_ge a b with h | h
  · have h1 := code_lt_end hi ha
    have h2 := endC_grow l a (b - 1 - a)
    rw [show a + (b - 1 - a) = b - 1 by omega] at h2
    have h3 : 2 ^ (b - a) * endC l a ≤ codeOf l k b := by
      unfold codeOf
      rw [show b - a = (b - 1 - a) + 1 by omega, Nat.pow_succ, Nat.mul_comm (2 ^ (b - 1 - a)) 2, Nat.mul_assoc]
      omega
    have h4 : endC l a ≤ codeOf l k b / 2 ^ (b - a) := (Nat.le_div_iff_mul_le (Nat.two_pow_pos _)).2 (by rw [Nat.mul_comm]; exact h3)
    omega
  · obtain rfl : a = b := by omega
    rw [Nat.sub_self, Nat.pow_zero, Nat.div_one] at e
    unfold codeOf at e
    have e' : cnt l a k = cnt l a i := by omega
    rcases Nat.lt_or_ge i k with h | h
    · have := cnt_hit hi
      have := cnt_mono (l := l) a (show i + 1 ≤ k from h)
      omega
    · have := cnt_hit hk
      have := cnt_mono (l := l) a (show k + 1 ≤ i by omega)
      omega
/-- The shares of the lengths up to L of the first i. -/
def sumTo (l : List Nat) (i : Nat) : Nat → Nat
  | 0 => 0
  | L + 1 => sumTo l i L + cnt l (L + 1) i * 2 ^ (15 - (L + 1))
theorem sumTo_start (l : List Nat) (L : Nat) : sumTo l 0 L = 0 := by
  induction L with
  | zero => rfl
  | succ L ih => unfold sumTo; rw [ih, cnt_zero]; omega
theorem sumTo_succ {l : List Nat} {i x : Nat} (h : l[i]? = some x) (L : Nat) : sumTo l (i + 1) L = sumTo l i L + if 0 < x ∧ x ≤ L then 2 ^ (15 - x) else 0 := by
  induction L with
  | zero => simp [sumTo]; omega
  | succ L ih =>
    unfold sumTo
    rw [ih, cnt_succ (L + 1) h]
    by_cases e : x = L + 1
    · subst e
      rw [if_pos rfl, if_neg (by omega), if_pos (by omega), Nat.add_mul]
      omega
    · rw [if_neg e, Nat.add_zero]
      by_cases e2 : 0 < x ∧ x ≤ L
      · rw [if_pos e2, if_pos (by omega)]
        omega
      · rw [if_neg e2, if_neg (by omega)]
        omega
theorem sumTo_le_share (l : List Nat) (h15 : ∀ x ∈ l, x ≤ 15) (L i : Nat) (hi : i ≤ l.length) : sumTo l i L ≤ share l i := by
  induction i with
  | zero => rw [sumTo_start]; exact Nat.zero_le _
  | succ i ih =>
    have ih := ih (by omega)
    have hx := List.getElem?_eq_getElem (show i < l.length by omega)
    generalize l[i] = x at hx
    have hx15 := h15 x (List.mem_of_getElem? hx)
    rw [sumTo_succ hx, share_succ hx, share_part x hx15]
    have hp : (if 0 < x ∧ x ≤ L then 2 ^ (15 - x) else 0) ≤ (if 0 < x then pow2 (15 - x) else 0) := by
      by_cases h0 : 0 < x
      · rw [if_pos h0]
        split
        · exact Nat.le_refl _
        · exact Nat.zero_le _
      · rw [if_neg h0, if_neg (fun h => h0 h.1)]
        exact Nat.le_refl _
    exact Nat.add_le_add ih hp
theorem endC_sum (l : List Nat) (L : Nat) (hL : L ≤ 15) : endC l L * 2 ^ (15 - L) = sumTo l l.length L := by
  induction L with
  | zero => simp [endC, sumTo]
  | succ L ih =>
    have ih := ih (by omega)
    unfold sumTo
    rw [← ih, endC, Nat.add_mul, show 15 - L = 15 - (L + 1) + 1 by omega, Nat.pow_succ]
    congr 1
    rw [Nat.mul_comm 2, Nat.mul_assoc, Nat.mul_comm 2]
theorem endC_fits (l : List Nat) (h15 : ∀ x ∈ l, x ≤ 15) (hs : share l l.length ≤ 32768) (L : Nat) (hL : L ≤ 15) : endC l L ≤ 2 ^ L := by
  have h1 := endC_sum l L hL
  have h2 := sumTo_le_share l h15 L l.length (Nat.le_refl _)
  have h3 : endC l L * 2 ^ (15 - L) ≤ 2 ^ L * 2 ^ (15 - L) := by
    rw [← Nat.pow_add, show L + (15 - L) = 15 by omega, h1]
    omega
  exact Nat.le_of_mul_le_mul_right h3 (Nat.two_pow_pos _)
theorem code_fits (l : List Nat) (h15 : ∀ x ∈ l, x ≤ 15) (hs : share l l.length ≤ 32768) {s x : Nat} (h : l[s]? = some x) (h0 : 0 < x) : codeOf l s x < 2 ^ x :=
  Nat.lt_of_lt_of_le (code_lt_end h h0) (endC_fits l h15 hs x (h15 x (List.mem_of_getElem? h)))
theorem revB_of_mod {N V x : Nat} (h : N % 2 ^ x = V) : revB N x = revB V x := by
  apply Nat.eq_of_testBit_eq
  intro j
  rcases Nat.lt_or_ge j x with hj | hj
  · rw [revB_bit N x j hj, revB_bit V x j hj, ← h, Nat.testBit_mod_two_pow]
    have : x - 1 - j < x := by omega
    simp [this]
  · have hp : 2 ^ x ≤ 2 ^ j := Nat.pow_le_pow_right (by decide) hj
    rw [Nat.testBit_lt_two_pow (Nat.lt_of_lt_of_le (revB_lt N x) hp), Nat.testBit_lt_two_pow (Nat.lt_of_lt_of_le (revB_lt V x) hp)]
theorem revB_rev {c x : Nat} (h : c < 2 ^ x) : revB (revB c x) x = c := by
  apply Nat.eq_of_testBit_eq
  intro j
  rcases Nat.lt_or_ge j x with hj | hj
  · rw [revB_bit _ x j hj, revB_bit c x _ (by omega)]
    congr 1
    omega
  · have hp : 2 ^ x ≤ 2 ^ j := Nat.pow_le_pow_right (by decide) hj
    rw [Nat.testBit_lt_two_pow (Nat.lt_of_lt_of_le (revB_lt _ x) hp), Nat.testBit_lt_two_pow (Nat.lt_of_lt_of_le h hp)]
theorem revB_top (N a d : Nat) : revB N (a + d) / 2 ^ d = revB N a := by
  induction d with
  | zero => simp
  | succ d ih =>
    show (2 * revB N (a + d) + N / 2 ^ (a + d) % 2) / 2 ^ (d + 1) = _
    rw [Nat.pow_succ, Nat.mul_comm (2 ^ d) 2, ← Nat.div_div_eq_div_mul, show (2 * revB N (a + d) + N / 2 ^ (a + d) % 2) / 2 = revB N (a + d) by omega, ih]
/-- A word at the front is read as its symbol. -/
theorem read_word {l : List Int} (hok : lensOk l) (hs : share (natsOf l) l.length ≤ 32768) {s x N av : Nat} (hx : (natsOf l)[s]? = some x) (h0 : 0 < x) (hN : N % 2 ^ x = revB (codeOf (natsOf l) s x) x) (hav : x ≤ av) : RES l N av s 0 x := by
  have h15 := natsOf_15 hok
  have hx15 := h15 x (List.mem_of_getElem? hx)
  have hfit := code_fits (natsOf l) h15 (by rw [natsOf_length']; exact hs) hx h0
  have hrev : revB N x = codeOf (natsOf l) s x := by rw [revB_of_mod hN, revB_rev hfit]
  have hsl : s < l.length := by have := (List.getElem?_eq_some_iff.1 hx).1; rwa [natsOf_length'] at this
  refine .inl ⟨x - 1, by omega, by omega, fun j hj => ?_, (hit_iff l N (x - 1) s).2 ⟨hsl, by rw [hx]; congr 1; omega, by rw [show x - 1 + 1 = x by omega]; exact hrev.symm⟩, rfl, by omega⟩
  cases hh : hit l N j with
  | none => rfl
  | some s' =>
    obtain ⟨a, b, c⟩ := (hit_iff l N j s').1 hh
    have hne : s' ≠ s := by
      rintro rfl
      rw [hx] at b
      injection b with b
      omega
    have := prefix_free b hx (by omega) (by omega) hne
    rw [c, ← hrev] at this
    have h2 := revB_top N (j + 1) (x - (j + 1))
    rw [show j + 1 + (x - (j + 1)) = x by omega] at h2
    exact absurd h2 this
/-- The word of a symbol, and words one behind the other. -/
def lenOf (l : List Int) (s : Nat) : Nat := (natsOf l).getD s 0
def wordOf (l : List Int) (s : Nat) : Nat := revB (codeOf (natsOf l) s (lenOf l s)) (lenOf l s)
def packN (l : List Int) : List Nat → Nat
  | [] => 0
  | s :: r => wordOf l s + 2 ^ lenOf l s * packN l r
def packT (l : List Int) : List Nat → Nat
  | [] => 0
  | s :: r => lenOf l s + packT l r
theorem wordOf_lt (l : List Int) (s : Nat) : wordOf l s < 2 ^ lenOf l s := revB_lt _ _
theorem packT_snoc (l : List Int) (r : List Nat) (s : Nat) : packT l (r ++ [s]) = packT l r + lenOf l s := by
  induction r with
  | nil => simp [packT]
  | cons a r ih => simp only [List.cons_append, packT, ih]; omega
theorem packN_snoc (l : List Int) (r : List Nat) (s : Nat) : packN l (r ++ [s]) = packN l r + 2 ^ packT l r * wordOf l s := by
  induction r with
  | nil => simp [packN, packT]
  | cons a r ih =>
    simp only [List.cons_append, packN, packT, ih]
    rw [Nat.pow_add, Nat.mul_add, Nat.mul_assoc]
    omega
theorem packN_mod (l : List Int) (s : Nat) (r : List Nat) : packN l (s :: r) % 2 ^ lenOf l s = wordOf l s := by
  show (wordOf l s + 2 ^ lenOf l s * packN l r) % 2 ^ lenOf l s = _
  rw [Nat.add_mul_mod_self_left, Nat.mod_eq_of_lt (wordOf_lt l s)]
theorem packN_div (l : List Int) (s : Nat) (r : List Nat) : packN l (s :: r) / 2 ^ lenOf l s = packN l r := by
  show (wordOf l s + 2 ^ lenOf l s * packN l r) / 2 ^ lenOf l s = _
  rw [Nat.add_mul_div_left _ _ (Nat.two_pow_pos _), Nat.div_eq_of_lt (wordOf_lt l s), Nat.zero_add]
end Go.Proofs.Ytpcofdhhnfichaa
