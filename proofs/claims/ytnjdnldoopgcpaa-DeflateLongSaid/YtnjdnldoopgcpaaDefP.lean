/- deflate: the search: pure. -/
import Derived.Test.YtnjdnldoopgcpaaInfX
import Derived.Test.YtnjdnldoopgcpaaHuffFind
namespace Go.Proofs.Ytnjdnldoopgcpaa
open Go.RowKit

def hashD (b : List Nat) (i : Nat) : Nat := (b.getD i 0 <<< 10 ^^^ b.getD (i + 1) 0 <<< 5 ^^^ b.getD (i + 2) 0) % 32768
theorem hashD_lt (b : List Nat) (i : Nat) : hashD b i < 32768 := Nat.mod_lt _ (by decide)
/-- How many bytes are the same at two places, up to some number. -/
def comD (b : List Nat) (p i : Nat) : Nat → Nat
  | 0 => 0
  | m + 1 => if comD b p i m = m ∧ b.getD (p + m) 0 = b.getD (i + m) 0 then m + 1 else comD b p i m
theorem comD_le (b : List Nat) (p i : Nat) : ∀ m, comD b p i m ≤ m
  | 0 => Nat.le_refl _
  | m + 1 => by
    have := comD_le b p i m
    unfold comD
    split <;> omega
theorem comD_eq (b : List Nat) (p i : Nat) : ∀ m j, j < comD b p i m → b.getD (p + j) 0 = b.getD (i + j) 0
  | 0, j, h => absurd h (Nat.not_lt_zero _)
  | m + 1, j, h => by
    unfold comD at h
    split at h
    · rename_i hc
      by_cases e : j = m
      · subst e
        exact hc.2
      · exact comD_eq b p i m j (by omega)
    · exact comD_eq b p i m j h
theorem comD_stop (b : List Nat) (p i : Nat) : ∀ m, comD b p i m < m → b.getD (p + comD b p i m) 0 ≠ b.getD (i + comD b p i m) 0
  | 0, h => absurd h (Nat.not_lt_zero _)
  | m + 1, h => by
    unfold comD at h ⊢
    split at h
    · omega
    · rename_i hc
      rw [if_neg hc]
      by_cases e : comD b p i m = m
      · intro he
        rw [e] at he
        exact hc ⟨e, he⟩
      · exact comD_stop b p i m (by have := comD_le b p i m; omega)
theorem comD_full {b : List Nat} {p i m n : Nat} (hn : n ≤ m) (h : ∀ j, j < n → b.getD (p + j) 0 = b.getD (i + j) 0) : n ≤ comD b p i m := by
  by_cases hlt : comD b p i m < n
  · exact absurd (h _ hlt) (comD_stop b p i m (by omega))
  · omega
theorem comD_is {b : List Nat} {p i m n : Nat} (hn : n ≤ m) (h : ∀ j, j < n → b.getD (p + j) 0 = b.getD (i + j) 0) (hs : n = m ∨ b.getD (p + n) 0 ≠ b.getD (i + n) 0) : comD b p i m = n := by
  have h1 := comD_full hn h
  have h2 := comD_le b p i m
  rcases hs with rfl | hs
  · omega
  · by_cases hlt : n < comD b p i m
    · exact absurd (comD_eq b p i m n hlt) hs
    · omega
theorem com_hash {b : List Nat} {p i m : Nat} (h : 3 ≤ comD b p i m) : hashD b p = hashD b i := by
  have e0 := comD_eq b p i m 0 (by omega)
  have e1 := comD_eq b p i m 1 (by omega)
  have e2 := comD_eq b p i m 2 (by omega)
  unfold hashD
  rw [Nat.add_zero, Nat.add_zero] at e0
  rw [e0, e1, e2]
def mostD (b : List Nat) (i : Nat) : Nat := min 258 (b.length - i)
/-- Of the nearest places the longest row, of these the nearest one: how long, how far back. -/
def bestD (b : List Nat) (i : Nat) : Nat → Nat × Nat
  | 0 => (0, 0)
  | k + 1 => if 3 ≤ comD b (i - (k + 1)) i (mostD b i) ∧ (bestD b i k).1 < comD b (i - (k + 1)) i (mostD b i) then (comD b (i - (k + 1)) i (mostD b i), k + 1) else bestD b i k
def foundD (b : List Nat) (i : Nat) : Nat × Nat := bestD b i (min i 1024)
theorem bestD_in (b : List Nat) (i : Nat) : ∀ k, k ≤ i → (bestD b i k = (0, 0) ∨ (3 ≤ (bestD b i k).1 ∧ (bestD b i k).1 ≤ mostD b i ∧ 1 ≤ (bestD b i k).2 ∧ (bestD b i k).2 ≤ k ∧ ∀ j, j < (bestD b i k).1 → b.getD (i - (bestD b i k).2 + j) 0 = b.getD (i + j) 0))
  | 0, _ => .inl rfl
  | k + 1, hk => by
    unfold bestD
    by_cases hc : 3 ≤ comD b (i - (k + 1)) i (mostD b i) ∧ (bestD b i k).1 < comD b (i - (k + 1)) i (mostD b i)
    · rw [if_pos hc]
      exact .inr ⟨hc.1, comD_le _ _ _ _, by omega, Nat.le_refl _, fun j hj => comD_eq b _ i _ j hj⟩
    · rw [if_neg hc]
      rcases bestD_in b i k (by omega) with h | ⟨h1, h2, h3, h4, h5⟩
      · exact .inl h
      · exact .inr ⟨h1, h2, h3, by omega, h5⟩
theorem bestD_skip {b : List Nat} {i k : Nat} : ∀ d, (∀ j, k < j → j ≤ k + d → comD b (i - j) i (mostD b i) < 3 ∨ comD b (i - j) i (mostD b i) ≤ (bestD b i k).1) → bestD b i (k + d) = bestD b i k
  | 0, _ => rfl
  | d + 1, h => by
    have ih := bestD_skip d (fun j h1 h2 => h j h1 (by omega))
    show bestD b i (k + d + 1) = _
    rw [bestD, ih, if_neg]
    intro hc
    rcases h (k + d + 1) (by omega) (by omega) with h' | h'
    · omega
    · omega
/-- The place before q with some hash. -/
def prevH (b : List Nat) (h : Nat) : Nat → Int
  | 0 => -1
  | q + 1 => if hashD b q = h then (q : Int) else prevH b h q
theorem prevH_in (b : List Nat) (h : Nat) : ∀ q, (prevH b h q = -1 ∧ ∀ r, r < q → hashD b r ≠ h) ∨ ∃ p : Nat, prevH b h q = (p : Int) ∧ p < q ∧ hashD b p = h ∧ ∀ r, p < r → r < q → hashD b r ≠ h
  | 0 => .inl ⟨rfl, fun r h => absurd h (Nat.not_lt_zero _)⟩
  | q + 1 => by
    unfold prevH
    by_cases e : hashD b q = h
    · rw [if_pos e]
      exact .inr ⟨q, rfl, by omega, e, fun r h1 h2 => by omega⟩
    · rw [if_neg e]
      rcases prevH_in b h q with ⟨h1, h2⟩ | ⟨p, h1, h2, h3, h4⟩
      · refine .inl ⟨h1, fun r hr => ?_⟩
        by_cases e2 : r = q
        · rw [e2]; exact e
        · exact h2 r (by omega)
      · refine .inr ⟨p, h1, by omega, h3, fun r hr1 hr2 => ?_⟩
        by_cases e2 : r = q
        · rw [e2]; exact e
        · exact h4 r hr1 (by omega)
/-- The tokens of bytes. -/
def tokGoD (b : List Nat) : Nat → Nat → List Tk
  | 0, _ => []
  | f + 1, i => if b.length ≤ i then [] else if (foundD b i).1 < 3 then ⟨(b.getD i 0 : Nat), 0, 0⟩ :: tokGoD b f (i + 1) else ⟨0, (foundD b i).1, (foundD b i).2⟩ :: tokGoD b f (i + (foundD b i).1)
def tokD (b : List Nat) : List Tk := tokGoD b b.length 0
theorem foundD_in {b : List Nat} {i : Nat} (h : 3 ≤ (foundD b i).1) : (foundD b i).1 ≤ 258 ∧ i + (foundD b i).1 ≤ b.length ∧ 1 ≤ (foundD b i).2 ∧ (foundD b i).2 ≤ 1024 ∧ (foundD b i).2 ≤ i ∧ ∀ j, j < (foundD b i).1 → b.getD (i - (foundD b i).2 + j) 0 = b.getD (i + j) 0 := by
  unfold foundD at h ⊢
  rcases bestD_in b i (min i 1024) (by omega) with e | ⟨h1, h2, h3, h4, h5⟩
  · rw [e] at h; omega
  · unfold mostD at h2
    exact ⟨by omega, by omega, h3, by omega, by omega, h5⟩
theorem tokGoD_ok {b : List Nat} (hb : ∀ x ∈ b, x < 256) : ∀ f i, (tokGoD b f i).all okTk = true
  | 0, _ => rfl
  | f + 1, i => by
    unfold tokGoD
    split
    · rfl
    · rename_i hi
      split
      · rw [List.all_cons, tokGoD_ok hb f, Bool.and_true]
        refine byte_ok ?_
        rw [List.getD_eq_getElem?_getD, List.getElem?_eq_getElem (by omega)]
        exact hb _ (List.getElem_mem _)
      · rename_i h3
        have h := foundD_in (b := b) (i := i) (by omega)
        rw [List.all_cons, tokGoD_ok hb f, Bool.and_true]
        unfold okTk
        rw [if_neg (show ¬ ((foundD b i).1 : Int) = 0 by omega)]
        exact decide_eq_true ⟨rfl, by show (3 : Int) ≤ ((foundD b i).1 : Int); omega, by show ((foundD b i).1 : Int) ≤ 258; omega, by show (1 : Int) ≤ ((foundD b i).2 : Int); omega, by show ((foundD b i).2 : Int) ≤ 32768; omega⟩
theorem take_succ_getD {b : List Nat} {i : Nat} (h : i < b.length) : b.take i ++ [b.getD i 0] = b.take (i + 1) := by
  rw [List.take_add_one, List.getD_eq_getElem?_getD, List.getElem?_eq_getElem h]
  rfl
theorem copyB_take {b : List Nat} {i back : Nat} (h1 : 1 ≤ back) (h2 : back ≤ i) : ∀ n, i + n ≤ b.length → (∀ j, j < n → b.getD (i - back + j) 0 = b.getD (i + j) 0) → copyB n back (b.take i) = b.take (i + n)
  | 0, _, _ => rfl
  | n + 1, hn, h => by
    rw [copyB_succ, copyB_take h1 h2 n (by omega) (fun j hj => h j (by omega))]
    have hl : (b.take (i + n)).length = i + n := by rw [List.length_take]; omega
    rw [hl]
    have e : (b.take (i + n)).getD (i + n - back) 0 = b.getD (i + n) 0 := by
      have := h n (by omega)
      rw [show i - back + n = i + n - back by omega] at this
      rw [← this, List.getD_eq_getElem?_getD, List.getD_eq_getElem?_getD, List.getElem?_take, if_pos (by omega)]
    rw [e, take_succ_getD (by omega)]
    rfl
theorem tokGoD_exp {b : List Nat} {most : Int} (hm : (b.length : Int) ≤ most) : ∀ f i, i ≤ b.length → b.length ≤ i + f → expGo most (tokGoD b f i) (b.take i) = .ok b
  | 0, i, h1, h2 => by
    rw [tokGoD, expGo, List.take_of_length_le (by omega)]
  | f + 1, i, h1, h2 => by
    have hl : (b.take i).length = i := by rw [List.length_take]; omega
    unfold tokGoD
    split
    · rw [expGo, List.take_of_length_le (by omega)]
    · rename_i hi
      split
      · have hs : tkSize ⟨((b.getD i 0 : Nat) : Int), 0, 0⟩ = 1 := rfl
        have hx : expTk ⟨((b.getD i 0 : Nat) : Int), 0, 0⟩ (b.take i) = b.take (i + 1) := by
          unfold expTk
          rw [if_pos rfl, ← take_succ_getD (by omega)]
          rfl
        rw [expGo, hl, hs, hx, if_neg (show ¬ (i : Int) < 0 by omega), if_neg (by omega)]
        exact tokGoD_exp hm f (i + 1) (by omega) (by omega)
      · rename_i h3
        obtain ⟨g1, g2, g3, g4, g5, g6⟩ := foundD_in (b := b) (i := i) (by omega)
        have hs : tkSize ⟨0, ((foundD b i).1 : Int), ((foundD b i).2 : Int)⟩ = ((foundD b i).1 : Int) := by
          unfold tkSize
          show max (1 : Int) ((foundD b i).1 : Int) = _
          omega
        have hx : expTk ⟨0, ((foundD b i).1 : Int), ((foundD b i).2 : Int)⟩ (b.take i) = b.take (i + (foundD b i).1) := by
          unfold expTk
          rw [if_neg (show ¬ ((foundD b i).1 : Int) = 0 by omega)]
          exact copyB_take g3 g5 _ g2 g6
        rw [expGo, hl, hs, hx, if_neg (show ¬ (i : Int) < ((foundD b i).2 : Int) by omega), if_neg (by omega)]
        exact tokGoD_exp hm f _ g2 (by omega)
theorem tokD_exp {b : List Nat} {most : Int} (hb : ∀ x ∈ b, x < 256) (hm : (b.length : Int) ≤ most) (hc : most ≤ 1048576) : expandP (tokD b) most = .ok b := by
  unfold expandP tokD
  rw [if_pos (by omega), if_pos (tokGoD_ok hb _ _)]
  exact tokGoD_exp hm b.length 0 (by omega) (by omega)
end Go.Proofs.Ytnjdnldoopgcpaa
/- Canonical codes: no code is another one's beginning; words one behind the other are read as their symbols. No program stands in it. -/
namespace Go.Proofs.Ytnjdnldoopgcpaa
open Go.RowKit

def pow2 (n : Nat) : Nat := 2 ^ n
theorem share_part (x : Nat) (h : x ≤ 15) : 32768 / 2 ^ x = pow2 (15 - x) := by
  rcases (by omega : x = 0 ∨ x = 1 ∨ x = 2 ∨ x = 3 ∨ x = 4 ∨ x = 5 ∨ x = 6 ∨ x = 7 ∨ x = 8 ∨ x = 9 ∨ x = 10 ∨ x = 11 ∨ x = 12 ∨ x = 13 ∨ x = 14 ∨ x = 15) with rfl | rfl | rfl | rfl | rfl | rfl | rfl | rfl | rfl | rfl | rfl | rfl | rfl | rfl | rfl | rfl <;> rfl
theorem natsOf_15 {l : List Int} (h : lensOk l) : ∀ x ∈ natsOf l, x ≤ 15 := by
  intro x hx
  obtain ⟨y, hy, rfl⟩ := List.mem_map.1 hx
  have := (h.2 y hy).2
  omega
theorem tb_eq (V i : Nat) : V.testBit i = (V / 2 ^ i % 2 == 1) := by
  rw [Nat.testBit_eq_decide_div_mod_eq]
  by_cases h : V / 2 ^ i % 2 = 1 <;> simp [h]
theorem revB_bit (c x j : Nat) (h : j < x) : (revB c x).testBit j = c.testBit (x - 1 - j) := by
  induction x generalizing j with
  | zero => omega
  | succ i ih =>
    unfold revB
    cases j with
    | zero =>
      rw [tb_eq, tb_eq]
      simp only [Nat.pow_zero, Nat.div_one, Nat.add_sub_cancel, Nat.sub_zero]
      congr 1
      omega
    | succ j =>
      have : (2 * revB c i + c / 2 ^ i % 2).testBit (j + 1) = (revB c i).testBit j := by
        rw [Nat.testBit_succ]
        congr 1
        omega
      rw [this, ih j (by omega)]
      congr 1
      omega

theorem cnt_mono {l : List Nat} (k : Nat) {i j : Nat} (h : i ≤ j) : cnt l k i ≤ cnt l k j := by
  induction j with
  | zero => rw [Nat.le_zero.1 h]; exact Nat.le_refl _
  | succ j ih =>
    rcases Nat.lt_or_ge i (j + 1) with e | e
    · refine Nat.le_trans (ih (by omega)) ?_
      cases hx : l[j]? with
      | none =>
        have : l.length ≤ j := List.getElem?_eq_none_iff.1 hx
        unfold cnt
        rw [List.take_of_length_le this, List.take_of_length_le (by omega)]
        exact Nat.le_refl _
      | some x => rw [cnt_succ k hx]; omega
    · rw [show i = j + 1 by omega]; exact Nat.le_refl _
theorem cnt_hit {l : List Nat} {i x : Nat} (h : l[i]? = some x) : cnt l x (i + 1) = cnt l x i + 1 := by rw [cnt_succ x h, if_pos rfl]
theorem endC_grow (l : List Nat) (L d : Nat) : 2 ^ d * endC l L ≤ endC l (L + d) := by
  induction d with
  | zero => simp
  | succ d ih =>
    show _ ≤ 2 * endC l (L + d) + cnt l (L + d + 1) l.length
    rw [Nat.pow_succ, Nat.mul_comm (2 ^ d) 2, Nat.mul_assoc]
    omega
theorem code_lt_end {l : List Nat} {s x : Nat} (h : l[s]? = some x) (hx : 0 < x) : codeOf l s x < endC l x := by
  obtain ⟨y, rfl⟩ : ∃ y, x = y + 1 := ⟨x - 1, by omega⟩
  have h1 := cnt_hit h
  have h2 := cnt_mono (l := l) (y + 1) (show s + 1 ≤ l.length from (List.getElem?_eq_some_iff.1 h).1)
  unfold codeOf
  rw [Nat.add_sub_cancel]
  show _ < 2 * endC l y + cnt l (y + 1) l.length
  omega
theorem prefix_free {l : List Nat} {i k a b : Nat} (hi : l[i]? = some a) (hk : l[k]? = some b) (ha : 0 < a) (hab : a ≤ b) (hne : i ≠ k) : codeOf l k b / 2 ^ (b - a) ≠ codeOf l i a := by
  intro e
  rcases Nat.lt_or_ge a b with h | h
  · have h1 := code_lt_end hi ha
    have h2 := endC_grow l a (b - 1 - a)
    rw [show a + (b - 1 - a) = b - 1 by omega] at h2
    have h3 : 2 ^ (b - a) * endC l a ≤ codeOf l k b := by
      unfold codeOf
      rw [show b - a = (b - 1 - a) + 1 by omega, Nat.pow_succ, Nat.mul_comm (2 ^ (b - 1 - a)) 2, Nat.mul_assoc]
      omega
    have h4 : endC l a ≤ codeOf l k b / 2 ^ (b - a) := (Nat.le_div_iff_mul_le (Nat.two_pow_pos _)).2 (by rw [Nat.mul_comm]; exact h3)
    omega
  · obtain rfl : a = b := by omega
    rw [Nat.sub_self, Nat.pow_zero, Nat.div_one] at e
    unfold codeOf at e
    have e' : cnt l a k = cnt l a i := by omega
    rcases Nat.lt_or_ge i k with h | h
    · have := cnt_hit hi
      have := cnt_mono (l := l) a (show i + 1 ≤ k from h)
      omega
    · have := cnt_hit hk
      have := cnt_mono (l := l) a (show k + 1 ≤ i by omega)
      omega
/-- The shares of the lengths up to L of the first i. -/
def sumTo (l : List Nat) (i : Nat) : Nat → Nat
  | 0 => 0
  | L + 1 => sumTo l i L + cnt l (L + 1) i * 2 ^ (15 - (L + 1))
theorem sumTo_start (l : List Nat) (L : Nat) : sumTo l 0 L = 0 := by
  induction L with
  | zero => rfl
  | succ L ih => unfold sumTo; rw [ih, cnt_zero]; omega
theorem sumTo_succ {l : List Nat} {i x : Nat} (h : l[i]? = some x) (L : Nat) : sumTo l (i + 1) L = sumTo l i L + if 0 < x ∧ x ≤ L then 2 ^ (15 - x) else 0 := by
  induction L with
  | zero => simp [sumTo]; omega
  | succ L ih =>
    unfold sumTo
    rw [ih, cnt_succ (L + 1) h]
    by_cases e : x = L + 1
    · subst e
      rw [if_pos rfl, if_neg (by omega), if_pos (by omega), Nat.add_mul]
      omega
    · rw [if_neg e, Nat.add_zero]
      by_cases e2 : 0 < x ∧ x ≤ L
      · rw [if_pos e2, if_pos (by omega)]
        omega
      · rw [if_neg e2, if_neg (by omega)]
        omega
theorem sumTo_le_share (l : List Nat) (h15 : ∀ x ∈ l, x ≤ 15) (L i : Nat) (hi : i ≤ l.length) : sumTo l i L ≤ share l i := by
  induction i with
  | zero => rw [sumTo_start]; exact Nat.zero_le _
  | succ i ih =>
    have ih := ih (by omega)
    have hx := List.getElem?_eq_getElem (show i < l.length by omega)
    generalize l[i] = x at hx
    have hx15 := h15 x (List.mem_of_getElem? hx)
    rw [sumTo_succ hx, share_succ hx, share_part x hx15]
    have hp : (if 0 < x ∧ x ≤ L then 2 ^ (15 - x) else 0) ≤ (if 0 < x then pow2 (15 - x) else 0) := by
      by_cases h0 : 0 < x
      · rw [if_pos h0]
        split
        · exact Nat.le_refl _
        · exact Nat.zero_le _
      · rw [if_neg h0, if_neg (fun h => h0 h.1)]
        exact Nat.le_refl _
    exact Nat.add_le_add ih hp
theorem endC_sum (l : List Nat) (L : Nat) (hL : L ≤ 15) : endC l L * 2 ^ (15 - L) = sumTo l l.length L := by
  induction L with
  | zero => simp [endC, sumTo]
  | succ L ih =>
    have ih := ih (by omega)
    unfold sumTo
    rw [← ih, endC, Nat.add_mul, show 15 - L = 15 - (L + 1) + 1 by omega, Nat.pow_succ]
    congr 1
    rw [Nat.mul_comm 2, Nat.mul_assoc, Nat.mul_comm 2]
theorem endC_fits (l : List Nat) (h15 : ∀ x ∈ l, x ≤ 15) (hs : share l l.length ≤ 32768) (L : Nat) (hL : L ≤ 15) : endC l L ≤ 2 ^ L := by
  have h1 := endC_sum l L hL
  have h2 := sumTo_le_share l h15 L l.length (Nat.le_refl _)
  have h3 : endC l L * 2 ^ (15 - L) ≤ 2 ^ L * 2 ^ (15 - L) := by
    rw [← Nat.pow_add, show L + (15 - L) = 15 by omega, h1]
    omega
  exact Nat.le_of_mul_le_mul_right h3 (Nat.two_pow_pos _)
theorem code_fits (l : List Nat) (h15 : ∀ x ∈ l, x ≤ 15) (hs : share l l.length ≤ 32768) {s x : Nat} (h : l[s]? = some x) (h0 : 0 < x) : codeOf l s x < 2 ^ x :=
  Nat.lt_of_lt_of_le (code_lt_end h h0) (endC_fits l h15 hs x (h15 x (List.mem_of_getElem? h)))
theorem revB_of_mod {N V x : Nat} (h : N % 2 ^ x = V) : revB N x = revB V x := by
  apply Nat.eq_of_testBit_eq
  intro j
  rcases Nat.lt_or_ge j x with hj | hj
  · rw [revB_bit N x j hj, revB_bit V x j hj, ← h, Nat.testBit_mod_two_pow]
    have : x - 1 - j < x := by omega
    simp [this]
  · have hp : 2 ^ x ≤ 2 ^ j := Nat.pow_le_pow_right (by decide) hj
    rw [Nat.testBit_lt_two_pow (Nat.lt_of_lt_of_le (revB_lt N x) hp), Nat.testBit_lt_two_pow (Nat.lt_of_lt_of_le (revB_lt V x) hp)]
theorem revB_rev {c x : Nat} (h : c < 2 ^ x) : revB (revB c x) x = c := by
  apply Nat.eq_of_testBit_eq
  intro j
  rcases Nat.lt_or_ge j x with hj | hj
  · rw [revB_bit _ x j hj, revB_bit c x _ (by omega)]
    congr 1
    omega
  · have hp : 2 ^ x ≤ 2 ^ j := Nat.pow_le_pow_right (by decide) hj
    rw [Nat.testBit_lt_two_pow (Nat.lt_of_lt_of_le (revB_lt _ x) hp), Nat.testBit_lt_two_pow (Nat.lt_of_lt_of_le h hp)]
theorem revB_top (N a d : Nat) : revB N (a + d) / 2 ^ d = revB N a := by
  induction d with
  | zero => simp
  | succ d ih =>
    show (2 * revB N (a + d) + N / 2 ^ (a + d) % 2) / 2 ^ (d + 1) = _
    rw [Nat.pow_succ, Nat.mul_comm (2 ^ d) 2, ← Nat.div_div_eq_div_mul, show (2 * revB N (a + d) + N / 2 ^ (a + d) % 2) / 2 = revB N (a + d) by omega, ih]
/-- A word at the front is read as its symbol. -/
theorem read_word {l : List Int} (hok : lensOk l) (hs : share (natsOf l) l.length ≤ 32768) {s x N av : Nat} (hx : (natsOf l)[s]? = some x) (h0 : 0 < x) (hN : N % 2 ^ x = revB (codeOf (natsOf l) s x) x) (hav : x ≤ av) : RES l N av s 0 x := by
  have h15 := natsOf_15 hok
  have hx15 := h15 x (List.mem_of_getElem? hx)
  have hfit := code_fits (natsOf l) h15 (by rw [natsOf_length']; exact hs) hx h0
  have hrev : revB N x = codeOf (natsOf l) s x := by rw [revB_of_mod hN, revB_rev hfit]
  have hsl : s < l.length := by have := (List.getElem?_eq_some_iff.1 hx).1; rwa [natsOf_length'] at this
  refine .inl ⟨x - 1, by omega, by omega, fun j hj => ?_, (hit_iff l N (x - 1) s).2 ⟨hsl, by rw [hx]; congr 1; omega, by rw [show x - 1 + 1 = x by omega]; exact hrev.symm⟩, rfl, by omega⟩
  cases hh : hit l N j with
  | none => rfl
  | some s' =>
    obtain ⟨a, b, c⟩ := (hit_iff l N j s').1 hh
    have hne : s' ≠ s := by
      rintro rfl
      rw [hx] at b
      injection b with b
      omega
    have := prefix_free b hx (by omega) (by omega) hne
    rw [c, ← hrev] at this
    have h2 := revB_top N (j + 1) (x - (j + 1))
    rw [show j + 1 + (x - (j + 1)) = x by omega] at h2
    exact absurd h2 this
/-- The word of a symbol, and words one behind the other. -/
def lenOf (l : List Int) (s : Nat) : Nat := (natsOf l).getD s 0
def wordOf (l : List Int) (s : Nat) : Nat := revB (codeOf (natsOf l) s (lenOf l s)) (lenOf l s)
def packN (l : List Int) : List Nat → Nat
  | [] => 0
  | s :: r => wordOf l s + 2 ^ lenOf l s * packN l r
def packT (l : List Int) : List Nat → Nat
  | [] => 0
  | s :: r => lenOf l s + packT l r
theorem wordOf_lt (l : List Int) (s : Nat) : wordOf l s < 2 ^ lenOf l s := revB_lt _ _
theorem packT_snoc (l : List Int) (r : List Nat) (s : Nat) : packT l (r ++ [s]) = packT l r + lenOf l s := by
  induction r with
  | nil => simp [packT]
  | cons a r ih => simp only [List.cons_append, packT, ih]; omega
theorem packN_snoc (l : List Int) (r : List Nat) (s : Nat) : packN l (r ++ [s]) = packN l r + 2 ^ packT l r * wordOf l s := by
  induction r with
  | nil => simp [packN, packT]
  | cons a r ih =>
    simp only [List.cons_append, packN, packT, ih]
    rw [Nat.pow_add, Nat.mul_add, Nat.mul_assoc]
    omega
theorem packN_mod (l : List Int) (s : Nat) (r : List Nat) : packN l (s :: r) % 2 ^ lenOf l s = wordOf l s := by
  show (wordOf l s + 2 ^ lenOf l s * packN l r) % 2 ^ lenOf l s = _
  rw [Nat.add_mul_mod_self_left, Nat.mod_eq_of_lt (wordOf_lt l s)]
theorem packN_div (l : List Int) (s : Nat) (r : List Nat) : packN l (s :: r) / 2 ^ lenOf l s = packN l r := by
  show (wordOf l s + 2 ^ lenOf l s * packN l r) / 2 ^ lenOf l s = _
  rw [Nat.add_mul_div_left _ _ (Nat.two_pow_pos _), Nat.div_eq_of_lt (wordOf_lt l s), Nat.zero_add]
end Go.Proofs.Ytnjdnldoopgcpaa
/- deflate: what is put is read: pure. -/
namespace Go.Proofs.Ytnjdnldoopgcpaa
open Go.RowKit

def catN : List (Nat × Nat) → Nat
  | [] => 0
  | p :: r => p.1 + 2 ^ p.2 * catN r
def catT : List (Nat × Nat) → Nat
  | [] => 0
  | p :: r => p.2 + catT r
theorem catT_app : ∀ (a b : List (Nat × Nat)), catT (a ++ b) = catT a + catT b
  | [], b => by simp [catT]
  | p :: a, b => by rw [List.cons_append, catT, catT, catT_app a b]; omega
theorem catN_app : ∀ (a b : List (Nat × Nat)), catN (a ++ b) = catN a + 2 ^ catT a * catN b
  | [], b => by simp [catN, catT]
  | p :: a, b => by rw [List.cons_append, catN, catN, catT, catN_app a b, Nat.pow_add, Nat.mul_add, Nat.mul_assoc, Nat.add_assoc]
/-- Fields ahead of a number. -/
def inp (f : List (Nat × Nat)) (N : Nat) : Nat := catN f + 2 ^ catT f * N
theorem inp_app (a b : List (Nat × Nat)) (N : Nat) : inp (a ++ b) N = inp a (inp b N) := by
  unfold inp
  rw [catN_app, catT_app, Nat.pow_add, Nat.mul_add, Nat.mul_assoc, Nat.add_assoc]
theorem inp_nil (N : Nat) : inp [] N = N := by simp [inp, catN, catT]
theorem inp_one (v k N : Nat) : inp [(v, k)] N = v + 2 ^ k * N := by simp [inp, catN, catT]
/-- A parser reads just these fields, and tells a. -/
def Rd {α : Type} (p : Ps α) (f : List (Nat × Nat)) (a : α) : Prop := ∀ N L, p (inp f N) (catT f + L) = .ok (a, N, L)
theorem Rd.then {α β : Type} {p : Ps α} {f : List (Nat × Nat)} {a : α} (h : Rd p f a) (q : α → Ps β) (g : List (Nat × Nat)) (N L : Nat) : bnd p q (inp (f ++ g) N) (catT (f ++ g) + L) = q a (inp g N) (catT g + L) := by
  rw [inp_app, catT_app, Nat.add_assoc]
  exact bnd_ok (h _ _)
theorem Rd.bnd {α β : Type} {p : Ps α} {f g : List (Nat × Nat)} {a : α} {q : α → Ps β} {b : β} (h : Rd p f a) (k : Rd (q a) g b) : Rd (bnd p q) (f ++ g) b := fun N L => by rw [h.then]; exact k N L
theorem Rd.rtn {α : Type} (a : α) : Rd (rtn a) [] a := fun N L => by rw [inp_nil, show catT [] + L = L by simp [catT]]; rfl
theorem Rd.map {α β : Type} {p : Ps α} {f : List (Nat × Nat)} {a : α} {g : α → β} (h : Rd p f a) : Rd (Go.Proofs.Ytnjdnldoopgcpaa.bnd p fun x => Go.Proofs.Ytnjdnldoopgcpaa.rtn (g x)) f (g a) := by
  have := h.bnd (q := fun x => Go.Proofs.Ytnjdnldoopgcpaa.rtn (g x)) (Rd.rtn (g a))
  rwa [List.append_nil] at this
theorem rd_bits {v k : Nat} (h : v < 2 ^ k) : Rd (bitsP k) [(v, k)] v := fun N L => by
  rw [inp_one, show catT [(v, k)] = k by simp [catT]]
  unfold bitsP
  rw [if_pos (by omega), Nat.add_mul_mod_self_left, Nat.mod_eq_of_lt h, Nat.add_mul_div_left _ _ (Nat.two_pow_pos _), Nat.div_eq_of_lt h, Nat.zero_add, Nat.add_sub_cancel_left]
def wordF (l : List Int) (s : Nat) : List (Nat × Nat) := [(wordOf l s, lenOf l s)]
theorem rd_word {l : List Int} (hok : lensOk l) (hs : share (natsOf l) l.length ≤ 32768) {s : Nat} (hx : (natsOf l)[s]? = some (lenOf l s)) (h0 : 0 < lenOf l s) : Rd (readP l) (wordF l s) s := fun N L => by
  unfold wordF
  rw [inp_one, show catT [(wordOf l s, lenOf l s)] = lenOf l s by simp [catT]]
  have hlt := wordOf_lt l s
  have hr := read_word hok hs hx h0 (N := wordOf l s + 2 ^ lenOf l s * N) (av := lenOf l s + L) (by rw [Nat.add_mul_mod_self_left, Nat.mod_eq_of_lt hlt]; rfl) (by omega)
  have hp := read_res hr
  rw [if_pos rfl, Nat.add_mul_div_left _ _ (Nat.two_pow_pos _), Nat.div_eq_of_lt hlt, Nat.zero_add, Nat.add_sub_cancel_left] at hp
  exact hp
/-- The place of a number in a table: that of the greatest first one that is at most it. -/
def plcT (tb : List (Nat × Nat)) (v : Nat) : Nat := (List.range tb.length).countP (fun i => !decide (v < (tb.getD i (0, 0)).1)) - 1
theorem count_to (k : Nat) : ∀ n, (List.range n).countP (fun i => decide (i ≤ k)) = min n (k + 1)
  | 0 => by simp
  | n + 1 => by
    rw [List.range_succ, List.countP_append, count_to k n, List.countP_cons, List.countP_nil]
    by_cases h : n ≤ k
    · rw [decide_eq_true h, if_pos rfl]; omega
    · rw [decide_eq_false h, if_neg (by decide)]; omega
theorem plc_is {tb : List (Nat × Nat)} {v k : Nat} (hk : k < tb.length) (h : ∀ i, i < tb.length → ((tb.getD i (0, 0)).1 ≤ v ↔ i ≤ k)) : plcT tb v = k := by
  unfold plcT
  have e : (List.range tb.length).countP (fun i => !decide (v < (tb.getD i (0, 0)).1)) = (List.range tb.length).countP (fun i => decide (i ≤ k)) := by
    refine List.countP_congr (fun i hi => ?_)
    have := h i (List.mem_range.1 hi)
    simp only [Bool.not_eq_true', decide_eq_false_iff_not, decide_eq_true_eq]
    omega
  rw [e, count_to]
  omega
/-- A table whose numbers rise, without a gap. -/
structure Rises (tb : List (Nat × Nat)) : Prop where
  up : ∀ i j, i < tb.length → j < tb.length → i ≤ j → (tb.getD i (0, 0)).1 ≤ (tb.getD j (0, 0)).1
  near : ∀ i, i + 1 < tb.length → (tb.getD (i + 1) (0, 0)).1 ≤ (tb.getD i (0, 0)).1 + 2 ^ (tb.getD i (0, 0)).2
theorem rise_find {tb : List (Nat × Nat)} (h : Rises tb) {v : Nat} (h0 : (tb.getD 0 (0, 0)).1 ≤ v) : ∀ m, m + 1 ≤ tb.length → v < (tb.getD m (0, 0)).1 + 2 ^ (tb.getD m (0, 0)).2 → (∀ i, i < tb.length → m < i → v < (tb.getD i (0, 0)).1) → ∃ k, k < tb.length ∧ (∀ i, i < tb.length → ((tb.getD i (0, 0)).1 ≤ v ↔ i ≤ k)) ∧ v < (tb.getD k (0, 0)).1 + 2 ^ (tb.getD k (0, 0)).2
  | 0, hm, hv, hab => ⟨0, by omega, fun i hi => ⟨fun h1 => by
      by_cases e : 0 < i
      · have := hab i hi e; omega
      · omega, fun h1 => by rw [show i = 0 by omega]; exact h0⟩, hv⟩
  | m + 1, hm, hv, hab => by
    by_cases hle : (tb.getD (m + 1) (0, 0)).1 ≤ v
    · refine ⟨m + 1, by omega, fun i hi => ⟨fun h1 => ?_, fun h1 => Nat.le_trans (h.up i (m + 1) hi (by omega) h1) hle⟩, hv⟩
      by_cases e : m + 1 < i
      · have := hab i hi e; omega
      · omega
    · refine rise_find h h0 m (by omega) ?_ (fun i hi hmi => ?_)
      · have := h.near m (by omega); omega
      · by_cases e : i = m + 1
        · rw [e]; omega
        · exact hab i hi (by omega)
theorem plc_in {tb : List (Nat × Nat)} (h : Rises tb) (hn : 0 < tb.length) {v : Nat} (h0 : (tb.getD 0 (0, 0)).1 ≤ v) (h1 : v < (tb.getD (tb.length - 1) (0, 0)).1 + 2 ^ (tb.getD (tb.length - 1) (0, 0)).2) :
    plcT tb v < tb.length ∧ (tb.getD (plcT tb v) (0, 0)).1 ≤ v ∧ v < (tb.getD (plcT tb v) (0, 0)).1 + 2 ^ (tb.getD (plcT tb v) (0, 0)).2 := by
  obtain ⟨k, a, b, c⟩ := rise_find h h0 (tb.length - 1) (by omega) h1 (fun i hi hm => by omega)
  rw [plc_is a b]
  exact ⟨a, (b k a).2 (Nat.le_refl _), c⟩
theorem lensT_rises : Rises lensT := ⟨fun i j hi hj h => by
  rw [lensT_len] at hi hj
  exact (show ∀ j, j < 29 → ∀ i, i < 29 → i ≤ j → (lensT.getD i (0, 0)).1 ≤ (lensT.getD j (0, 0)).1 by decide +kernel) j hj i hi h, fun i hi => by
  rw [lensT_len] at hi
  exact (show ∀ i, i < 28 → (lensT.getD (i + 1) (0, 0)).1 ≤ (lensT.getD i (0, 0)).1 + 2 ^ (lensT.getD i (0, 0)).2 by decide +kernel) i (by omega)⟩
theorem distT_rises : Rises distT := ⟨fun i j hi hj h => by
  rw [distT_len] at hi hj
  exact (show ∀ j, j < 30 → ∀ i, i < 30 → i ≤ j → (distT.getD i (0, 0)).1 ≤ (distT.getD j (0, 0)).1 by decide +kernel) j hj i hi h, fun i hi => by
  rw [distT_len] at hi
  exact (show ∀ i, i < 29 → (distT.getD (i + 1) (0, 0)).1 ≤ (distT.getD i (0, 0)).1 + 2 ^ (distT.getD i (0, 0)).2 by decide +kernel) i (by omega)⟩
/-- Where a number stands, and its bits. -/
def InT (tb : List (Nat × Nat)) (v : Nat) : Prop := plcT tb v < tb.length ∧ (tb.getD (plcT tb v) (0, 0)).1 ≤ v ∧ v < (tb.getD (plcT tb v) (0, 0)).1 + 2 ^ (tb.getD (plcT tb v) (0, 0)).2
theorem lens_plc {v : Nat} (h1 : 3 ≤ v) (h2 : v ≤ 258) : InT lensT v := plc_in lensT_rises (by rw [lensT_len]; decide) (show (lensT.getD 0 (0, 0)).1 ≤ v from Nat.le_trans (by decide +kernel) h1) (by
  rw [lensT_len]
  exact Nat.lt_of_le_of_lt h2 (show 258 < (lensT.getD 28 (0, 0)).1 + 2 ^ (lensT.getD 28 (0, 0)).2 by decide +kernel))
theorem dist_plc {v : Nat} (h1 : 1 ≤ v) (h2 : v ≤ 32768) : InT distT v := plc_in distT_rises (by rw [distT_len]; decide) (show (distT.getD 0 (0, 0)).1 ≤ v from Nat.le_trans (by decide +kernel) h1) (by
  rw [distT_len]
  exact Nat.lt_of_le_of_lt h2 (show 32768 < (distT.getD 29 (0, 0)).1 + 2 ^ (distT.getD 29 (0, 0)).2 by decide +kernel))
def numF (tb : List (Nat × Nat)) (v : Nat) : List (Nat × Nat) := [(v - (tb.getD (plcT tb v) (0, 0)).1, (tb.getD (plcT tb v) (0, 0)).2)]
theorem rd_number {tb : List (Nat × Nat)} {v : Nat} (h : InT tb v) : Rd (numberP tb (plcT tb v)) (numF tb v) v := by
  obtain ⟨h1, h2, h3⟩ := h
  have hq : tb[plcT tb v]? = some (tb.getD (plcT tb v) (0, 0)) := by rw [List.getD_eq_getElem?_getD, List.getElem?_eq_getElem h1]; rfl
  unfold numberP numF
  rw [hq]
  have := (rd_bits (v := v - (tb.getD (plcT tb v) (0, 0)).1) (k := (tb.getD (plcT tb v) (0, 0)).2) (by omega)).map (g := fun x => (tb.getD (plcT tb v) (0, 0)).1 + x)
  rw [show (tb.getD (plcT tb v) (0, 0)).1 + (v - (tb.getD (plcT tb v) (0, 0)).1) = v by omega] at this
  exact this
abbrev d5 : List Int := List.replicate 32 5
theorem fixed_len (s : Nat) (h : s < 288) : (natsOf fixedL)[s]? = some (lenOf fixedL s) ∧ 0 < lenOf fixedL s ∧ lenOf fixedL s ≤ 9 := (show ∀ s, s < 288 → ((natsOf fixedL)[s]? = some (lenOf fixedL s) ∧ 0 < lenOf fixedL s ∧ lenOf fixedL s ≤ 9) by decide +kernel) s h
theorem d5_len (s : Nat) (h : s < 32) : (natsOf d5)[s]? = some (lenOf d5 s) ∧ 0 < lenOf d5 s ∧ lenOf d5 s ≤ 9 := (show ∀ s, s < 32 → ((natsOf d5)[s]? = some (lenOf d5 s) ∧ 0 < lenOf d5 s ∧ lenOf d5 s ≤ 9) by decide +kernel) s h
theorem fixed_ok : lensOk fixedL ∧ share (natsOf fixedL) fixedL.length = 32768 := by decide +kernel
theorem d5_ok : lensOk d5 ∧ share (natsOf d5) d5.length = 32768 := by decide +kernel
theorem rd_fixed {s : Nat} (h : s < 288) : Rd (readP fixedL) (wordF fixedL s) s := rd_word fixed_ok.1 (Nat.le_of_eq fixed_ok.2) (fixed_len s h).1 (fixed_len s h).2.1
theorem rd_d5 {s : Nat} (h : s < 32) : Rd (readP d5) (wordF d5 s) s := rd_word d5_ok.1 (Nat.le_of_eq d5_ok.2) (d5_len s h).1 (d5_len s h).2.1
/-- The fields of a token. -/
def backF (t : Tk) : List (Nat × Nat) := numF lensT t.len.toNat ++ (wordF d5 (plcT distT t.back.toNat) ++ numF distT t.back.toNat)
def symT (t : Tk) : Nat := if t.len = 0 then t.byte.toNat else 257 + plcT lensT t.len.toNat
def tkF (t : Tk) : List (Nat × Nat) := wordF fixedL (symT t) ++ if t.len = 0 then [] else backF t
def toksF : List Tk → List (Nat × Nat)
  | [] => wordF fixedL 256
  | t :: l => tkF t ++ toksF l
def allF (l : List Tk) : List (Nat × Nat) := (1, 1) :: (1, 2) :: toksF l
/-- How tokens are taken one behind the other. -/
def chkGo (most : Int) : List Tk → Int → Except Int Int
  | [], m => .ok m
  | t :: l, m => if m < t.back then .error 4 else if most - m < tkSize t then .error 2 else chkGo most l (m + tkSize t)
theorem okTk_cases {t : Tk} (h : okTk t = true) : (t.len = 0 ∧ t.back = 0 ∧ ∃ b : Nat, b < 256 ∧ t.byte = (b : Int)) ∨ (t.byte = 0 ∧ ∃ n d : Nat, 3 ≤ n ∧ n ≤ 258 ∧ 1 ≤ d ∧ d ≤ 32768 ∧ t.len = (n : Int) ∧ t.back = (d : Int)) := by
  unfold okTk at h
  by_cases h0 : t.len = 0
  · rw [if_pos h0] at h
    have := of_decide_eq_true h
    exact .inl ⟨h0, this.1, t.byte.toNat, by omega, by omega⟩
  · rw [if_neg h0] at h
    have := of_decide_eq_true h
    exact .inr ⟨this.1, t.len.toNat, t.back.toNat, by omega, by omega, by omega, by omega, by omega, by omega⟩
theorem symT_lt {t : Tk} (h : okTk t = true) : symT t < 288 ∧ symT t ≠ 256 ∧ (symT t < 256 ↔ t.len = 0) := by
  unfold symT
  rcases okTk_cases h with ⟨h0, -, b, hb, e⟩ | ⟨-, n, d, h1, h2, h3, h4, e, e2⟩
  · rw [if_pos h0, e]
    simp only [Int.toNat_natCast]
    exact ⟨by omega, by omega, ⟨fun _ => h0, fun _ => hb⟩⟩
  · have hn0 : ¬ t.len = 0 := by omega
    have := (lens_plc h1 h2).1
    rw [lensT_len] at this
    rw [if_neg hn0, e]
    simp only [Int.toNat_natCast]
    exact ⟨by omega, by omega, ⟨fun h => by omega, fun h => by omega⟩⟩
theorem match_put {t : Tk} (h : okTk t = true) (h0 : ¬ t.len = 0) (most : Int) (a : Acc) (g : List (Nat × Nat)) (N L : Nat) :
    matchP most d5 (symT t - 257) a (inp (backF t ++ g) N) (catT (backF t ++ g) + L) = (if a.made < t.back then bad 4 else addP most t a) (inp g N) (catT g + L) := by
  rcases okTk_cases h with ⟨h1, -⟩ | ⟨hb, n, d, h1, h2, h3, h4, e, e2⟩
  · exact absurd h1 h0
  have ht : t = ⟨0, (n : Int), (d : Int)⟩ := by cases t; simp_all
  subst ht
  have hl := lens_plc h1 h2
  have hd := dist_plc h3 h4
  have hd1 := hd.1
  rw [distT_len] at hd1
  have es : symT ⟨0, (n : Int), (d : Int)⟩ - 257 = plcT lensT n := by unfold symT; rw [if_neg h0]; simp only [Int.toNat_natCast]; omega
  have eb : backF ⟨0, (n : Int), (d : Int)⟩ = numF lensT n ++ (wordF d5 (plcT distT d) ++ numF distT d) := by unfold backF; simp only [Int.toNat_natCast]
  rw [es, eb, List.append_assoc, List.append_assoc]
  unfold matchP
  rw [(rd_number hl).then, (rd_d5 (by omega)).then, (rd_number hd).then]
theorem sym_step {t : Tk} (h : okTk t = true) (most : Int) (a : Acc) (g : List (Nat × Nat)) (N L f : Nat) (hm : 0 ≤ a.made) :
    symsP most fixedL d5 (f + 1) a (inp (tkF t ++ g) N) (catT (tkF t ++ g) + L) = bnd (if a.made < t.back then bad 4 else addP most t a) (symsP most fixedL d5 f) (inp g N) (catT g + L) := by
  obtain ⟨h1, h2, h3⟩ := symT_lt h
  rw [symsP]
  unfold tkF
  rw [List.append_assoc, (rd_fixed h1).then, if_neg h2]
  by_cases h0 : t.len = 0
  · rw [if_pos h0, if_pos (h3.2 h0), List.nil_append]
    rcases okTk_cases h with ⟨_, hb, b, hb2, e⟩ | ⟨_, n, d, h1', _, _, _, e, _⟩
    · have ht : (⟨(symT t : Int), 0, 0⟩ : Tk) = t := by
        unfold symT
        rw [if_pos h0]
        cases t
        simp_all
      rw [ht, if_neg (by omega)]
    · omega
  · rw [if_neg h0, if_neg (fun h => h0 (h3.1 h))]
    have := match_put h h0 most a g N L
    unfold bnd
    rw [this]
theorem syms_put (most : Int) (N L : Nat) : ∀ (l : List Tk) (f : Nat) (a : Acc), l.length < f → l.all okTk = true → 0 ≤ a.made →
    (∀ m, chkGo most l a.made = .ok m → symsP most fixedL d5 f a (inp (toksF l) N) (catT (toksF l) + L) = .ok (⟨a.toks ++ l, m⟩, N, L)) ∧
    (∀ E, chkGo most l a.made = .error E → symsP most fixedL d5 f a (inp (toksF l) N) (catT (toksF l) + L) = .error E)
  | [], 0, a, hf, _, _ => absurd hf (Nat.lt_irrefl _)
  | t :: l, 0, a, hf, _, _ => absurd hf (Nat.not_lt_zero _)
  | [], f + 1, a, _, _, _ => by
    refine ⟨fun m hm => ?_, fun E hE => by cases hE⟩
    rw [chkGo] at hm
    injection hm with hm
    rw [symsP, toksF]
    have h := (rd_fixed (s := 256) (by decide)) N L
    rw [bnd_ok h, if_pos rfl, List.append_nil, ← hm]
    rfl
  | t :: l, f + 1, a, hf, hok, hm0 => by
    rw [List.all_cons, Bool.and_eq_true] at hok
    have hstep := sym_step hok.1 most a (toksF l) N L f hm0
    rw [toksF, hstep, chkGo]
    have hs1 : 1 ≤ tkSize t := by unfold tkSize; omega
    by_cases h1 : a.made < t.back
    · rw [if_pos h1, if_pos h1]
      exact ⟨fun m hm => (by cases hm), fun E hE => by injection hE with hE; subst hE; rfl⟩
    · rw [if_neg h1, if_neg h1]
      by_cases h2 : most - a.made < tkSize t
      · rw [if_pos h2]
        have e : addP most t a (inp (toksF l) N) (catT (toksF l) + L) = .error 2 := by unfold addP; rw [if_pos h2]; rfl
        rw [bnd_er e]
        exact ⟨fun m hm => (by cases hm), fun E hE => by injection hE with hE; subst hE; rfl⟩
      · rw [if_neg h2]
        have e : addP most t a (inp (toksF l) N) (catT (toksF l) + L) = .ok (⟨a.toks ++ [t], a.made + tkSize t⟩, inp (toksF l) N, catT (toksF l) + L) := by unfold addP; rw [if_neg h2]; rfl
        rw [bnd_ok e]
        have ih := syms_put most N L l f ⟨a.toks ++ [t], a.made + tkSize t⟩ (by simpa using hf) hok.2 (by show 0 ≤ a.made + tkSize t; omega)
        refine ⟨fun m hm => ?_, fun E hE => ih.2 E hE⟩
        rw [ih.1 m hm, List.append_assoc]
        rfl
theorem exp_chk {most : Int} : ∀ (l : List Tk) (b : List Nat), l.all okTk = true →
    (∀ m, chkGo most l b.length = .ok m → ∃ x, expGo most l b = .ok x ∧ (x.length : Int) = m) ∧ (∀ E, chkGo most l b.length = .error E → expGo most l b = .error E)
  | [], b, _ => ⟨fun m hm => by rw [chkGo] at hm; injection hm with hm; exact ⟨b, rfl, hm⟩, fun E hE => by cases hE⟩
  | t :: l, b, hok => by
    rw [List.all_cons, Bool.and_eq_true] at hok
    rw [chkGo, expGo]
    by_cases h1 : (b.length : Int) < t.back
    · rw [if_pos h1, if_pos h1]
      exact ⟨fun m hm => (by cases hm), fun E hE => by injection hE with hE; rw [hE]⟩
    · rw [if_neg h1, if_neg h1]
      by_cases h2 : most - b.length < tkSize t
      · rw [if_pos h2, if_pos h2]
        exact ⟨fun m hm => (by cases hm), fun E hE => by injection hE with hE; rw [hE]⟩
      · rw [if_neg h2, if_neg h2]
        have ih := exp_chk (most := most) l (expTk t b) hok.2
        rw [expTk_len hok.1] at ih
        exact ih
theorem chk_small {most : Int} : ∀ (l : List Tk) (m0 m : Int), l.all okTk = true → chkGo most l m0 = .ok m → m ≤ m0 + 258 * l.length
  | [], m0, m, _, h => by rw [chkGo] at h; injection h with h; simp; omega
  | t :: l, m0, m, hok, h => by
    rw [List.all_cons, Bool.and_eq_true] at hok
    rw [chkGo] at h
    split at h
    · cases h
    · split at h
      · cases h
      · have ih := chk_small l _ m hok.2 h
        have hs : tkSize t ≤ 258 := by
          unfold tkSize
          rcases okTk_cases hok.1 with ⟨h0, -⟩ | ⟨-, n, d, h1, h2, -, -, e, -⟩ <;> omega
        rw [List.length_cons]
        omega
theorem blocks_one (most : Int) (f : Nat) (l : List Tk) (L : Nat) : blocksP most (f + 1) ⟨[], 0⟩ (inp (allF l) 0) (catT (allF l) + L) = bnd (symsP most fixedL d5 FUEL ⟨[], 0⟩) Go.Proofs.Ytnjdnldoopgcpaa.rtn (inp (toksF l) 0) (catT (toksF l) + L) := by
  have hd : Rd (fieldsP [1, 2]) [(1, 1), (1, 2)] [1, 1] := by
    rw [fieldsP]
    refine Rd.bnd (f := [(1, 1)]) (g := [(1, 2)]) (rd_bits (by decide)) ?_
    rw [fieldsP]
    refine Rd.map (g := fun vs => 1 :: vs) (a := [1]) ?_
    refine Rd.map (g := fun v => [v]) (a := 1) ?_
    exact rd_bits (by decide)
  have hbp : blockP most 1 ⟨[], 0⟩ = symsP most fixedL d5 FUEL ⟨[], 0⟩ := by unfold blockP; rw [if_neg (by decide), if_pos rfl]
  rw [blocksP, show allF l = [(1, 1), (1, 2)] ++ toksF l from rfl, hd.then]
  simp only [List.getD_cons_succ, List.getD_cons_zero, if_true]
  rw [hbp]
/-- Bytes that hold a block of tokens tell these, or what expanding them tells. -/
theorem tokens_put {bs : List Nat} {l : List Tk} {most : Int} (hm : 0 ≤ most ∧ most ≤ 1048576) (hok : l.all okTk = true) (hl : l.length ≤ 1000000) (hN : num bs = catN (allF l)) (h1 : catT (allF l) ≤ 8 * bs.length) (h2 : 8 * bs.length < catT (allF l) + 8) :
    (∀ x, expandP l most = .ok x → tokensP bs most = .ok (l, bs.length) ∧ (x.length : Int) ≤ 258 * l.length) ∧ (∀ E, expandP l most = .error E → tokensP bs most = .error E) := by
  obtain ⟨L, hL⟩ : ∃ L, 8 * bs.length = catT (allF l) + L := ⟨8 * bs.length - catT (allF l), by omega⟩
  have hL8 : L / 8 = 0 := by omega
  have e0 : num bs = inp (allF l) 0 := by rw [hN]; unfold inp; rw [Nat.mul_zero, Nat.add_zero]
  have hx : expandP l most = expGo most l [] := by unfold expandP; rw [if_pos hm, if_pos hok]
  have eF : FUEL = 9999999999 + 1 := rfl
  have hfl : l.length < FUEL := by rw [eF]; omega
  have hb : blocksP most FUEL ⟨[], 0⟩ (num bs) (8 * bs.length) = bnd (symsP most fixedL d5 FUEL ⟨[], 0⟩) Go.Proofs.Ytnjdnldoopgcpaa.rtn (inp (toksF l) 0) (catT (toksF l) + L) := by
    rw [e0, hL, ← blocks_one most 9999999999 l L, ← eF]
  have hs := syms_put most 0 L l FUEL ⟨[], 0⟩ hfl hok (Int.le_refl _)
  have he := exp_chk (most := most) l [] hok
  rw [hx]
  unfold tokensP
  rw [if_pos hm, hb]
  cases hc : chkGo most l 0 with
  | ok m =>
    obtain ⟨x, hx1, hx2⟩ := he.1 m hc
    have hr := hs.1 m hc
    rw [bnd_ok hr]
    refine ⟨fun y hy => ?_, fun E hE => ?_⟩
    · rw [hx1] at hy
      injection hy with hy
      subst hy
      refine ⟨?_, ?_⟩
      · show Except.ok (([] : List Tk) ++ l, bs.length - L / 8) = _
        rw [hL8, List.nil_append, Nat.sub_zero]
      · have := chk_small l 0 m hok hc
        omega
    · rw [hx1] at hE; cases hE
  | error E =>
    have hr := hs.2 E hc
    rw [bnd_er hr]
    refine ⟨fun y hy => ?_, fun E' hE => ?_⟩
    · rw [he.2 E hc] at hy; cases hy
    · rw [he.2 E hc] at hE
      injection hE with hE
      rw [hE]
end Go.Proofs.Ytnjdnldoopgcpaa
