/- huff's reverse. -/
import Derived.Test.YtnjdnldoopgcpaaHuffCodesW
namespace Go.Proofs.Ytnjdnldoopgcpaa
open Go.RowKit

/-- The first i bits of a number, the lowest one first, read as a number whose highest is the first. -/
def revB (c : Nat) : Nat → Nat
  | 0 => 0
  | i + 1 => 2 * revB c i + c / 2 ^ i % 2
theorem revB_lt (c i : Nat) : revB c i < 2 ^ i := by
  induction i with
  | zero => simp [revB]
  | succ i ih => unfold revB; rw [Nat.pow_succ]; omega
theorem revB_le (c i : Nat) (h : i ≤ 15) : revB c i < 32768 := by
  have h1 := revB_lt c i
  have h2 : 2 ^ i ≤ 2 ^ 15 := Nat.pow_le_pow_right (by decide) h
  omega
theorem ofInt_i64 (a : Nat) (h : a < 9223372036854775808) : (BitVec.ofInt 64 (a : Int)).toNat = a := by
  rw [BitVec.ofInt_natCast, BitVec.toNat_ofNat]; exact Nat.mod_eq_of_lt (by omega)
theorem wrap_i64 (a : Nat) (h : a < 9223372036854775808) : IntKind.i64.wrap (a : Int) = a := by
  exact IntWalk.i64_in _ ⟨by omega, by omega⟩
theorem i64_or (a b : Nat) (ha : a < 9223372036854775808) (hb : b < 9223372036854775808) : bits .or .i64 (a : Int) (b : Int) = ((a ||| b : Nat) : Int) := by
  have hx : a ||| b < 2 ^ 63 := Nat.or_lt_two_pow (by omega) (by omega)
  show IntKind.i64.wrap ((BitVec.ofInt 64 (a : Int) ||| BitVec.ofInt 64 (b : Int)).toNat : Int) = _
  rw [BitVec.toNat_or, ofInt_i64 a ha, ofInt_i64 b hb, wrap_i64 _ (by omega)]
theorem i64_and (a b : Nat) (ha : a < 9223372036854775808) (hb : b < 9223372036854775808) : bits .and .i64 (a : Int) (b : Int) = ((a &&& b : Nat) : Int) := by
  have hx : a &&& b < 2 ^ 63 := Nat.and_lt_two_pow _ (by omega)
  show IntKind.i64.wrap ((BitVec.ofInt 64 (a : Int) &&& BitVec.ofInt 64 (b : Int)).toNat : Int) = _
  rw [BitVec.toNat_and, ofInt_i64 a ha, ofInt_i64 b hb, wrap_i64 _ (by omega)]
theorem int_div_pow (c i : Nat) : (c : Int) / 2 ^ i = ((c / 2 ^ i : Nat) : Int) := by push_cast; rfl
theorem rev_next (c i : Nat) : (c : Int) / 2 ^ i / 2 = ((c / 2 ^ (i + 1) : Nat) : Int) := by
  rw [int_div_pow, Nat.pow_succ, ← Nat.div_div_eq_div_mul]
  omega
theorem rev_bit (c i : Nat) (hc : c < 4611686018427387904) (hi : i < 15) : bits .or .i64 ((revB c i : Int) * 2) (bits .and .i64 ((c : Int) / 2 ^ i) 1) = (revB c (i + 1) : Int) := by
  have h1 := revB_le c i (by omega)
  have h2 : c / 2 ^ i ≤ c := Nat.div_le_self _ _
  rw [int_div_pow]
  have e1 : bits .and .i64 ((c / 2 ^ i : Nat) : Int) 1 = ((c / 2 ^ i % 2 : Nat) : Int) := by
    have := i64_and (c / 2 ^ i) 1 (by omega) (by omega)
    rw [Nat.and_one_is_mod] at this
    exact this
  have e2 : (revB c i : Int) * 2 = ((revB c i * 2 : Nat) : Int) := by push_cast; rfl
  rw [e1, e2, i64_or _ _ (by omega) (by omega)]
  have e3 := or_above (c / 2 ^ i % 2) (revB c i) 1 (by omega)
  rw [Nat.or_comm, show revB c i * 2 = revB c i * 2 ^ 1 from rfl, e3, Nat.pow_one]
  show ((c / 2 ^ i % 2 + revB c i * 2 : Nat) : Int) = ((2 * revB c i + c / 2 ^ i % 2 : Nat) : Int)
  rw [Nat.mul_comm, Nat.add_comm]
set_option maxHeartbeats 1000000 in
theorem reverse_any (c n : Nat) (w : World) (hc : c < 4611686018427387904) (hn : n ≤ 15) :
    Calls Try.prog 63 #[.int .i64 c, .int .i64 n] w fun e w' => e = .returned (.int .i64 (revB c n : Int)) ∧ w' = w := by
  go_enter Try.func63, Try.ntmps63
  go_wp2
  go_loopw [0, 5, 7] (fun x y z wr => ∃ i : Nat, i ≤ n ∧ z = .int .i64 i ∧ x = .int .i64 (c / 2 ^ i : Nat) ∧ y = .int .i64 (revB c i : Int) ∧ wr = w) (fun _ _ z _ => n - (intOf z).toNat)
  case atStart => exact ⟨0, by omega, rfl, by simp, by simp [revB], rfl⟩
  case round =>
    obtain ⟨i, hi, rfl, rfl, rfl, rfl⟩ := hrel
    by_cases hlt : i < n
    · have h1 := revB_le c i (by omega)
      have h2 : c / 2 ^ i ≤ c := Nat.div_le_self _ _
      go_wp2
      go_roundw
      case rel => exact ⟨i + 1, by omega, by go_num, congrArg (Value.int .i64) (rev_next c i), congrArg (Value.int .i64) (rev_bit c i hc (by omega)), trivial⟩
      case measure => simp [intOf]; omega
    · obtain rfl : i = n := by omega
      go_wp2
      go_ret
      exact ⟨rfl, rfl⟩
end Go.Proofs.Ytnjdnldoopgcpaa
/- The symbols in the order of their codes, and the words, as assign goes on. No program stands in it. -/
namespace Go.Proofs.Ytnjdnldoopgcpaa
open Go.RowKit

/-- The symbols below s of length k. -/
def ofLen (l : List Nat) (k s : Nat) : List Nat := (List.range s).filter fun j => l.getD j 0 == k
theorem ofLen_zero (l : List Nat) (k : Nat) : ofLen l k 0 = [] := rfl
theorem ofLen_hit {l : List Nat} {k s : Nat} (h : l.getD s 0 = k) : ofLen l k (s + 1) = ofLen l k s ++ [s] := by
  unfold ofLen
  rw [List.range_succ, List.filter_append, List.filter_cons_of_pos (by simp only [beq_iff_eq]; exact h)]
  rfl
theorem ofLen_miss {l : List Nat} {k s : Nat} (h : l.getD s 0 ≠ k) : ofLen l k (s + 1) = ofLen l k s := by
  unfold ofLen
  rw [List.range_succ, List.filter_append, List.filter_cons_of_neg (by simp only [beq_iff_eq]; exact h)]
  simp
theorem ofLen_le (l : List Nat) (k s : Nat) : (ofLen l k s).length ≤ s := by
  unfold ofLen
  have := List.length_filter_le (fun j => l.getD j 0 == k) (List.range s)
  rwa [List.length_range] at this
/-- The symbols of lengths 1 to L. -/
def symsTo (l : List Int) : Nat → List Nat
  | 0 => []
  | L + 1 => symsTo l L ++ ofLen (natsOf l) (L + 1) l.length
def symsAt (l : List Int) (L s : Nat) : List Nat := symsTo l L ++ ofLen (natsOf l) (L + 1) s
theorem symsAt_hit {l : List Int} {L s : Nat} (h : l[s]? = some ((L : Int) + 1)) : symsAt l L (s + 1) = symsAt l L s ++ [s] := by
  have := natsOf_getD h
  unfold symsAt
  rw [ofLen_hit (by omega), List.append_assoc]
theorem symsAt_miss {l : List Int} {L s : Nat} {x : Int} (h : l[s]? = some x) (hx : x ≠ (L : Int) + 1) : symsAt l L (s + 1) = symsAt l L s := by
  have := natsOf_getD h
  unfold symsAt
  rw [ofLen_miss (by omega)]
theorem symsAt_next (l : List Int) (L : Nat) : symsAt l L l.length = symsAt l (L + 1) 0 := by
  unfold symsAt
  rw [ofLen_zero, List.append_nil]
  rfl
theorem symsTo_le (l : List Int) (L : Nat) : (symsTo l L).length ≤ L * l.length := by
  induction L with
  | zero => simp [symsTo]
  | succ L ih =>
    have := ofLen_le (natsOf l) (L + 1) l.length
    unfold symsTo
    rw [List.length_append, Nat.add_mul]
    omega
theorem symsAt_le (l : List Int) (hl : l.length ≤ 320) (L s : Nat) (hL : L < 15) (hs : s ≤ l.length) : (symsAt l L s).length ≤ 4800 := by
  have h1 := symsTo_le l L
  have h2 := ofLen_le (natsOf l) (L + 1) s
  have h3 : L * l.length ≤ 14 * 320 := Nat.mul_le_mul (by omega) hl
  unfold symsAt
  rw [List.length_append]
  omega
/-- The cell i of the words: a reversed code and its length, in turn. -/
def wordIn (l : List Int) (L s i : Nat) : Nat :=
  let x := (natsOf l).getD (i / 2) 0
  if 0 < x ∧ (x ≤ L ∨ (x = L + 1 ∧ i / 2 < s)) then (if i % 2 = 0 then revB (codeOf (natsOf l) (i / 2) x) x else x) else 0
def wordsAt (l : List Int) (L s : Nat) : Array Value := ((List.range (2 * l.length)).map fun i => Value.int .i64 (wordIn l L s i : Int)).toArray
theorem wordsAt_size (l : List Int) (L s : Nat) : (wordsAt l L s).size = 2 * l.length := by simp [wordsAt]
theorem wordsAt_at (l : List Int) (L s i : Nat) (h : i < 2 * l.length) : (wordsAt l L s)[i]? = some (.int .i64 (wordIn l L s i : Int)) := by simp [wordsAt, h]
theorem wordsAt_congr {l : List Int} {L s L' s' : Nat} (h : ∀ i, i < 2 * l.length → wordIn l L s i = wordIn l L' s' i) : wordsAt l L s = wordsAt l L' s' := by
  unfold wordsAt
  congr 1
  apply List.map_congr_left
  intro i hi
  rw [h i (List.mem_range.1 hi)]
theorem wordsAt_hit {l : List Int} {L s : Nat} (h : l[s]? = some ((L : Int) + 1)) :
    ((wordsAt l L s).setIfInBounds (s * 2) (.int .i64 (revB (codeAt l L s) (L + 1) : Int))).setIfInBounds (s * 2 + 1) (.int .i64 ((L + 1 : Nat) : Int)) = wordsAt l L (s + 1) := by
  apply Array.ext_getElem?
  intro i
  have hs : s < l.length := (List.getElem?_eq_some_iff.1 h).1
  have hg := natsOf_getD h
  have e1 : ((L : Int) + 1).toNat = L + 1 := by omega
  rw [e1] at hg
  rw [Array.getElem?_setIfInBounds, Array.getElem?_setIfInBounds]
  by_cases hi : i < 2 * l.length
  · rw [wordsAt_at l L (s + 1) i hi]
    by_cases ea : s * 2 + 1 = i
    · subst ea
      rw [if_pos rfl, if_pos (by simp [wordsAt_size]; omega)]
      have d1 : (s * 2 + 1) / 2 = s := by omega
      have d2 : ¬ (s * 2 + 1) % 2 = 0 := by omega
      have : wordIn l L (s + 1) (s * 2 + 1) = L + 1 := by
        unfold wordIn
        simp only [d1, hg]
        rw [if_pos ⟨Nat.succ_pos L, Or.inr ⟨trivial, Nat.lt_succ_self s⟩⟩, if_neg d2]
      rw [this]
    · rw [if_neg ea]
      by_cases eb : s * 2 = i
      · subst eb
        rw [if_pos rfl, if_pos (by rw [wordsAt_size]; omega)]
        have d1 : s * 2 / 2 = s := by omega
        have d2 : s * 2 % 2 = 0 := by omega
        have : wordIn l L (s + 1) (s * 2) = revB (codeAt l L s) (L + 1) := by
          unfold wordIn
          simp only [d1, hg]
          rw [if_pos ⟨Nat.succ_pos L, Or.inr ⟨trivial, Nat.lt_succ_self s⟩⟩, if_pos d2]
          rfl
        rw [this]
      · rw [if_neg eb, wordsAt_at l L s i hi]
        have hne : i / 2 ≠ s := by omega
        have : wordIn l L s i = wordIn l L (s + 1) i := by
          unfold wordIn
          have : (i / 2 < s) ↔ (i / 2 < s + 1) := by omega
          simp only [this]
        rw [this]
  · have ea : ¬ s * 2 + 1 = i := by omega
    have eb : ¬ s * 2 = i := by omega
    rw [if_neg ea, if_neg eb, Array.getElem?_eq_none (by rw [wordsAt_size]; omega), Array.getElem?_eq_none (by rw [wordsAt_size]; omega)]
theorem wordsAt_miss {l : List Int} {L s : Nat} {x : Int} (h : l[s]? = some x) (hx : x ≠ (L : Int) + 1) : wordsAt l L s = wordsAt l L (s + 1) := by
  apply wordsAt_congr
  intro i _
  have hg := natsOf_getD h
  unfold wordIn
  by_cases e : i / 2 = s
  · have : ¬ ((natsOf l).getD (i / 2) 0 = L + 1) := by rw [e]; omega
    simp only [this, false_and]
  · have : (i / 2 < s) ↔ (i / 2 < s + 1) := by omega
    simp only [this]
theorem wordsAt_next (l : List Int) (L : Nat) : wordsAt l L l.length = wordsAt l (L + 1) 0 := by
  apply wordsAt_congr
  intro i hi
  unfold wordIn
  have : ((natsOf l).getD (i / 2) 0 ≤ L ∨ ((natsOf l).getD (i / 2) 0 = L + 1 ∧ i / 2 < l.length)) ↔ ((natsOf l).getD (i / 2) 0 ≤ L + 1 ∨ ((natsOf l).getD (i / 2) 0 = L + 1 + 1 ∧ i / 2 < 0)) := by omega
  simp only [this]
end Go.Proofs.Ytnjdnldoopgcpaa
/- Which symbol the first bits of a number are. No program stands in it. -/
namespace Go.Proofs.Ytnjdnldoopgcpaa
open Go.RowKit

theorem natsOf_length' (l : List Int) : (natsOf l).length = l.length := by simp [natsOf]
theorem ofLen_len (l : List Nat) (k n : Nat) (hn : n ≤ l.length) : (ofLen l k n).length = cnt l k n := by
  induction n with
  | zero => simp [ofLen_zero, cnt_zero]
  | succ n ih =>
    have hx := List.getElem?_eq_getElem (show n < l.length by omega)
    generalize l[n] = x at hx
    have hg : l.getD n 0 = x := by rw [List.getD_eq_getElem?_getD, hx]; rfl
    rw [cnt_succ k hx]
    by_cases e : x = k
    · rw [ofLen_hit (hg.trans e), List.length_append, ih (by omega), if_pos e]
      rfl
    · rw [ofLen_miss (by rw [hg]; exact e), ih (by omega), if_neg e]
      rfl
theorem ofLen_at (l : List Nat) (k n j s : Nat) (hn : n ≤ l.length) : (ofLen l k n)[j]? = some s ↔ s < n ∧ l[s]? = some k ∧ cnt l k s = j := by
  induction n with
  | zero => simp [ofLen_zero]
  | succ n ih =>
    have ih := ih (by omega)
    have hx := List.getElem?_eq_getElem (show n < l.length by omega)
    generalize l[n] = x at hx
    have hg : l.getD n 0 = x := by rw [List.getD_eq_getElem?_getD, hx]; rfl
    have hlen := ofLen_len l k n (by omega)
    by_cases e : x = k
    · subst e
      rw [ofLen_hit hg, List.getElem?_append]
      by_cases hj : j < (ofLen l x n).length
      · rw [if_pos hj, ih]
        constructor
        · rintro ⟨a, b, c⟩; exact ⟨by omega, b, c⟩
        · rintro ⟨a, b, c⟩
          refine ⟨?_, b, c⟩
          rcases Nat.lt_or_ge s n with h | h
          · exact h
          · obtain rfl : s = n := by omega
            omega
      · rw [if_neg hj]
        constructor
        · intro h
          obtain ⟨h1, h2⟩ := List.getElem?_eq_some_iff.1 h
          simp at h1
          have : j - (ofLen l x n).length = 0 := by omega
          simp [this] at h2
          subst h2
          exact ⟨by omega, hx, by omega⟩
        · rintro ⟨a, b, c⟩
          rcases Nat.lt_or_ge s n with h | h
          · have := ih.2 ⟨h, b, c⟩
            have := (List.getElem?_eq_some_iff.1 this).1
            omega
          · obtain rfl : s = n := by omega
            have : j - (ofLen l x s).length = 0 := by omega
            rw [this]
            rfl
    · rw [ofLen_miss (by rw [hg]; exact e), ih]
      constructor
      · rintro ⟨a, b, c⟩; exact ⟨by omega, b, c⟩
      · rintro ⟨a, b, c⟩
        refine ⟨?_, b, c⟩
        rcases Nat.lt_or_ge s n with h | h
        · exact h
        · obtain rfl : s = n := by omega
          rw [hx] at b
          injection b with b
          exact absurd b e
theorem symsTo_at (l : List Int) (L K j : Nat) (hK : L + 1 ≤ K) (hj : j < (ofLen (natsOf l) (L + 1) l.length).length) :
    (symsTo l K)[(symsTo l L).length + j]? = (ofLen (natsOf l) (L + 1) l.length)[j]? := by
  induction K with
  | zero => omega
  | succ K ih =>
    have hlen : ∀ M, (symsTo l (M + 1)).length = (symsTo l M).length + (ofLen (natsOf l) (M + 1) l.length).length := fun M => by
      show (symsTo l M ++ ofLen (natsOf l) (M + 1) l.length).length = _
      rw [List.length_append]
    show (symsTo l K ++ ofLen (natsOf l) (K + 1) l.length)[(symsTo l L).length + j]? = _
    by_cases e : K = L
    · subst e
      rw [List.getElem?_append_right (by omega), Nat.add_sub_cancel_left]
    · have hmono : ∀ d, (symsTo l (L + 1)).length ≤ (symsTo l (L + 1 + d)).length := fun d => by
        induction d with
        | zero => exact Nat.le_refl _
        | succ d ih =>
          have := hlen (L + 1 + d)
          rw [show L + 1 + (d + 1) = L + 1 + d + 1 from rfl]
          omega
      have h1 := hmono (K - (L + 1))
      rw [show L + 1 + (K - (L + 1)) = K by omega, hlen L] at h1
      rw [List.getElem?_append_left (by omega)]
      exact ih (by omega)
theorem symsTo_len (l : List Int) (L : Nat) : (symsTo l (L + 1)).length = (symsTo l L).length + cnt (natsOf l) (L + 1) l.length := by
  show (symsTo l L ++ ofLen (natsOf l) (L + 1) l.length).length = _
  rw [List.length_append, ofLen_len _ _ _ (Nat.le_of_eq (natsOf_length' l).symm)]
theorem symsAt_all (l : List Int) : symsAt l 15 0 = symsTo l 15 := by
  unfold symsAt
  rw [ofLen_zero, List.append_nil]
/-- The symbol whose word is the first L + 1 bits of N. -/
def hit (l : List Int) (N L : Nat) : Option Nat :=
  if 2 * endC (natsOf l) L ≤ revB N (L + 1) then (ofLen (natsOf l) (L + 1) l.length)[revB N (L + 1) - 2 * endC (natsOf l) L]? else none
theorem hit_iff (l : List Int) (N L s : Nat) : hit l N L = some s ↔ s < l.length ∧ (natsOf l)[s]? = some (L + 1) ∧ codeOf (natsOf l) s (L + 1) = revB N (L + 1) := by
  unfold hit codeOf
  rw [Nat.add_sub_cancel]
  by_cases h : 2 * endC (natsOf l) L ≤ revB N (L + 1)
  · rw [if_pos h, ofLen_at _ _ _ _ _ (Nat.le_of_eq (natsOf_length' l).symm)]
    constructor
    · rintro ⟨a, b, c⟩; exact ⟨a, b, by omega⟩
    · rintro ⟨a, b, c⟩; exact ⟨a, b, by omega⟩
  · rw [if_neg h]
    constructor
    · intro h; cases h
    · rintro ⟨a, b, c⟩; omega
/-- What is read: a symbol s, an error E, and u bits are gone. -/
def RES (l : List Int) (N av s : Nat) (E : Int) (u : Nat) : Prop :=
  (∃ L, L < 15 ∧ L < av ∧ (∀ j, j < L → hit l N j = none) ∧ hit l N L = some s ∧ E = 0 ∧ u = L + 1) ∨
  (av < 15 ∧ (∀ j, j < av → hit l N j = none) ∧ s = 0 ∧ E = 6 ∧ u = av) ∨
  (15 ≤ av ∧ (∀ j, j < 15 → hit l N j = none) ∧ s = 0 ∧ E = 4 ∧ u = 15)
theorem RES.eq {l : List Int} {N av s s' : Nat} {E E' : Int} {u u' : Nat} (h : RES l N av s E u) (h' : RES l N av s' E' u') : s' = s ∧ E' = E ∧ u' = u := by
  rcases h with ⟨L, a1, a2, a3, a4, rfl, rfl⟩ | ⟨a1, a2, rfl, rfl, rfl⟩ | ⟨a1, a2, rfl, rfl, rfl⟩ <;>
    rcases h' with ⟨L', b1, b2, b3, b4, rfl, rfl⟩ | ⟨b1, b2, rfl, rfl, rfl⟩ | ⟨b1, b2, rfl, rfl, rfl⟩
  · have e : L' = L := by
      rcases Nat.lt_trichotomy L L' with h | h | h
      · have := b3 L h; rw [a4] at this; cases this
      · exact h.symm
      · have := a3 L' h; rw [b4] at this; cases this
    subst e
    rw [a4] at b4
    injection b4 with b4
    exact ⟨b4.symm, rfl, rfl⟩
  · have := b2 L a2; rw [a4] at this; cases this
  · have := b2 L a1; rw [a4] at this; cases this
  · have := a2 L' b2; rw [b4] at this; cases this
  · exact ⟨rfl, rfl, rfl⟩
  · omega
  · have := a2 L' b1; rw [b4] at this; cases this
  · omega
  · exact ⟨rfl, rfl, rfl⟩
theorem RES.used {l : List Int} {N av s : Nat} {E : Int} {u : Nat} (h : RES l N av s E u) : u ≤ av ∧ (E ≠ 6 → 1 ≤ u) := by
  rcases h with ⟨L, a1, a2, a3, a4, rfl, rfl⟩ | ⟨a1, a2, rfl, rfl, rfl⟩ | ⟨a1, a2, rfl, rfl, rfl⟩
  · exact ⟨by omega, fun _ => by omega⟩
  · exact ⟨Nat.le_refl _, fun h => absurd rfl h⟩
  · exact ⟨a1, fun _ => by omega⟩
end Go.Proofs.Ytnjdnldoopgcpaa
