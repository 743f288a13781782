/- raster: samples put into bytes: pure. -/
import Derived.Test.YtmleoagdelgddaaRasAw
namespace Go.Proofs.Ytmleoagdelgddaa
open Go.RowKit Dec

/-- A byte's bits from o on, B of them, highest first. -/
def fld (x B o : Nat) : Nat := x / 2 ^ (8 - B - o) % 2 ^ B
theorem fld_put {B : Nat} (hB : B = 1 ∨ B = 2 ∨ B = 4 ∨ B = 8) {x v o : Nat} (hx : x < 256) (hv : v < 2 ^ B) (ho : o + B ≤ 8) (hd : o % B = 0) (hz : fld x B o = 0) :
    x + v * 2 ^ (8 - B - o) < 256 ∧ fld (x + v * 2 ^ (8 - B - o)) B o = v ∧ ∀ p, p + B ≤ 8 → p % B = 0 → p ≠ o → fld (x + v * 2 ^ (8 - B - o)) B p = fld x B p := by
  unfold fld at hz ⊢
  rcases hB with rfl | rfl | rfl | rfl
  · rcases (by omega : o = 0 ∨ o = 1 ∨ o = 2 ∨ o = 3 ∨ o = 4 ∨ o = 5 ∨ o = 6 ∨ o = 7) with rfl | rfl | rfl | rfl | rfl | rfl | rfl | rfl
    all_goals
      simp only [Nat.reduceSub, Nat.reducePow] at hz hv ⊢
      refine ⟨by omega, by omega, fun p hp hd hn => ?_⟩
      rcases (by omega : p = 0 ∨ p = 1 ∨ p = 2 ∨ p = 3 ∨ p = 4 ∨ p = 5 ∨ p = 6 ∨ p = 7) with rfl | rfl | rfl | rfl | rfl | rfl | rfl | rfl
      all_goals first
        | exact absurd rfl hn
        | (simp only [Nat.reduceSub, Nat.reducePow]; omega)
  · rcases (by omega : o = 0 ∨ o = 2 ∨ o = 4 ∨ o = 6) with rfl | rfl | rfl | rfl
    all_goals
      simp only [Nat.reduceSub, Nat.reducePow] at hz hv ⊢
      refine ⟨by omega, by omega, fun p hp hd hn => ?_⟩
      rcases (by omega : p = 0 ∨ p = 2 ∨ p = 4 ∨ p = 6) with rfl | rfl | rfl | rfl
      all_goals first
        | exact absurd rfl hn
        | (simp only [Nat.reduceSub, Nat.reducePow]; omega)
  · rcases (by omega : o = 0 ∨ o = 4) with rfl | rfl
    all_goals
      simp only [Nat.reduceSub, Nat.reducePow] at hz hv ⊢
      refine ⟨by omega, by omega, fun p hp hd hn => ?_⟩
      rcases (by omega : p = 0 ∨ p = 4) with rfl | rfl
      all_goals first
        | exact absurd rfl hn
        | (simp only [Nat.reduceSub, Nat.reducePow]; omega)
  · obtain rfl : o = 0 := by omega
    simp only [Nat.reduceSub, Nat.reducePow] at hz hv ⊢
    exact ⟨by omega, by omega, fun p hp hd hn => by omega⟩
/-- Where a sample lies. -/
abbrev plc (B S P i : Nat) : Nat := i / P * S + i % P * B / 8
/-- A sample put. -/
def putB (bs : List Nat) (B S P i v : Nat) : List Nat :=
  if B = 16 then (bs.set (plc B S P i) (v / 256)).set (plc B S P i + 1) (v % 256) else bs.set (plc B S P i) (bs.getD (plc B S P i) 0 + v * 2 ^ (8 - B - i % P * B % 8))
theorem putB_len (bs : List Nat) (B S P i v : Nat) : (putB bs B S P i v).length = bs.length := by unfold putB; split <;> simp
theorem off_mod {B : Nat} (hB : B = 1 ∨ B = 2 ∨ B = 4 ∨ B = 8) (q : Nat) : q * B % 8 + B ≤ 8 ∧ q * B % 8 % B = 0 := by
  rcases hB with rfl | rfl | rfl | rfl <;> omega
theorem off_ne {B : Nat} (hB : B = 1 ∨ B = 2 ∨ B = 4 ∨ B = 8) {q r : Nat} (h : q * B / 8 = r * B / 8) (hn : q ≠ r) : q * B % 8 ≠ r * B % 8 := by
  rcases hB with rfl | rfl | rfl | rfl <;> omega
section
variable {B S P H : Nat} (hB : B = 1 ∨ B = 2 ∨ B = 4 ∨ B = 8 ∨ B = 16) (hS : (P * B + 7) / 8 = S) (h0 : 0 < P)
include hB hS h0
theorem plc_eq {i j : Nat} (h : plc B S P i = plc B S P j) (h16 : B ≠ 16) : i / P = j / P ∧ i % P * B / 8 = j % P * B / 8 := by
  have f : ∀ q, q < P → q * B / 8 < S := fun q hq => by
    have h3 : q * B + B ≤ P * B := by rw [← Nat.succ_mul]; exact Nat.mul_le_mul_right _ hq
    omega
  have fi := f (i % P) (Nat.mod_lt _ h0)
  have fj := f (j % P) (Nat.mod_lt _ h0)
  unfold plc at h
  have key : ∀ {a b c d : Nat}, c < S → d < S → a * S + c = b * S + d → a = b ∧ c = d := fun {a b c d} hc hd e => by
    have e1 : (a * S + c) / S = a := by rw [Nat.mul_comm, Nat.mul_add_div (by omega), Nat.div_eq_of_lt hc, Nat.add_zero]
    have e2 : (b * S + d) / S = b := by rw [Nat.mul_comm, Nat.mul_add_div (by omega), Nat.div_eq_of_lt hd, Nat.add_zero]
    have : a = b := by rw [← e1, ← e2, e]
    subst this
    exact ⟨rfl, by omega⟩
  exact key fi fj h
/-- What is put is read; other samples stay. -/
theorem smp_put {bs : List Nat} {i j v : Nat} (hl : bs.length = H * S) (hb : ∀ x ∈ bs, x < 256) (hi : i < H * P) (hj : j < H * P) (hv : v < 2 ^ B) (hz : smp bs B S P i = 0) :
    smp (putB bs B S P i v) B S P j = if j = i then v else smp bs B S P j := by
  by_cases h16 : B = 16
  · subst h16
    have ki := row_fits16 P S H i h0 hS hi
    have kj := row_fits16 P S H j h0 hS hj
    have e2 : S = 2 * P := by omega
    have pl : ∀ q, plc 16 S P q = 2 * q := fun q => by
      unfold plc
      have e4 : q / P * S = 2 * (P * (q / P)) := by rw [e2, Nat.mul_left_comm, Nat.mul_comm (q / P)]
      have e5 := Nat.div_add_mod q P
      omega
    unfold smp putB
    simp only [if_true]
    show 256 * (((bs.set (plc 16 S P i) (v / 256)).set (plc 16 S P i + 1) (v % 256)).getD (plc 16 S P j) 0) + ((bs.set (plc 16 S P i) (v / 256)).set (plc 16 S P i + 1) (v % 256)).getD (plc 16 S P j + 1) 0 = if j = i then v else 256 * bs.getD (plc 16 S P j) 0 + bs.getD (plc 16 S P j + 1) 0
    have ki' : plc 16 S P i + 1 < bs.length := by rw [hl]; exact ki
    rw [pl] at ki'
    simp only [pl]
    simp only [List.getD_eq_getElem?_getD, List.getElem?_set, List.length_set]
    by_cases hij : j = i
    · subst hij
      rw [if_pos rfl, if_neg (by omega), if_pos rfl, if_pos (by omega), if_pos rfl, if_pos ki']
      simp only [Option.getD_some]
      omega
    · rw [if_neg hij, if_neg (by omega), if_neg (by omega), if_neg (by omega), if_neg (by omega)]
  · have hB8 : B = 1 ∨ B = 2 ∨ B = 4 ∨ B = 8 := by omega
    have ki := row_fits P B S H i h0 hS hi (by omega) (by omega)
    have kj := row_fits P B S H j h0 hS hj (by omega) (by omega)
    have oi := off_mod hB8 (i % P)
    have oj := off_mod hB8 (j % P)
    have hx : bs.getD (plc B S P i) 0 < 256 := hb _ (by
      rw [List.getD_eq_getElem?_getD, List.getElem?_eq_getElem (by rw [hl]; exact ki), Option.getD_some]
      exact List.getElem_mem _)
    unfold smp at hz ⊢
    rw [if_neg h16] at hz ⊢
    unfold putB
    rw [if_neg h16, if_neg h16]
    have hz' : fld (bs.getD (plc B S P i) 0) B (i % P * B % 8) = 0 := hz
    obtain ⟨f1, f2, f3⟩ := fld_put hB8 hx hv oi.1 oi.2 hz'
    show fld ((bs.set (plc B S P i) (bs.getD (plc B S P i) 0 + v * 2 ^ (8 - B - i % P * B % 8))).getD (plc B S P j) 0) B (j % P * B % 8) = if j = i then v else fld (bs.getD (plc B S P j) 0) B (j % P * B % 8)
    by_cases hp : plc B S P i = plc B S P j
    · obtain ⟨q1, q2⟩ := plc_eq hB hS h0 hp h16
      rw [← hp]
      rw [show (bs.set (plc B S P i) (bs.getD (plc B S P i) 0 + v * 2 ^ (8 - B - i % P * B % 8))).getD (plc B S P i) 0 = bs.getD (plc B S P i) 0 + v * 2 ^ (8 - B - i % P * B % 8) by
        rw [List.getD_eq_getElem?_getD, List.getElem?_set_self (by rw [hl]; exact ki)]
        rfl]
      by_cases hij : j = i
      · subst hij
        rw [if_pos rfl]
        exact f2
      · rw [if_neg hij]
        refine f3 _ oj.1 oj.2 (off_ne hB8 q2.symm ?_)
        intro e
        apply hij
        rw [← Nat.div_add_mod j P, ← Nat.div_add_mod i P, q1, e]
    · rw [if_neg (fun e => hp (by rw [e]))]
      rw [List.getD_eq_getElem?_getD, List.getElem?_set_ne hp, ← List.getD_eq_getElem?_getD]
theorem putB_bytes {bs : List Nat} {i v : Nat} (hl : bs.length = H * S) (hb : ∀ x ∈ bs, x < 256) (hi : i < H * P) (hv : v < 2 ^ B) (hz : smp bs B S P i = 0) : ∀ x ∈ putB bs B S P i v, x < 256 := by
  intro x hx
  unfold putB at hx
  by_cases h16 : B = 16
  · rw [if_pos h16] at hx
    subst h16
    rcases List.mem_or_eq_of_mem_set hx with h | h
    · rcases List.mem_or_eq_of_mem_set h with h | h
      · exact hb x h
      · omega
    · omega
  · rw [if_neg h16] at hx
    have hB8 : B = 1 ∨ B = 2 ∨ B = 4 ∨ B = 8 := by omega
    have ki := row_fits P B S H i h0 hS hi (by omega) (by omega)
    have oi := off_mod hB8 (i % P)
    have hx2 : bs.getD (plc B S P i) 0 < 256 := hb _ (by
      rw [List.getD_eq_getElem?_getD, List.getElem?_eq_getElem (by rw [hl]; exact ki), Option.getD_some]
      exact List.getElem_mem _)
    unfold smp at hz
    rw [if_neg h16] at hz
    obtain ⟨f1, -, -⟩ := fld_put hB8 hx2 hv oi.1 oi.2 hz
    rcases List.mem_or_eq_of_mem_set hx with h | h
    · exact hb x h
    · rw [h]; exact f1
end
/-- The bytes when the first k samples are put. -/
def pkN (l : List Nat) (B S P n : Nat) : Nat → List Nat
  | 0 => List.replicate n 0
  | k + 1 => putB (pkN l B S P n k) B S P k (l.getD k 0)
theorem smp_zero (n B S P j : Nat) : smp (List.replicate n 0) B S P j = 0 := by
  have e : ∀ k, (List.replicate n 0).getD k 0 = 0 := fun k => by
    rw [List.getD_eq_getElem?_getD]
    by_cases h : k < n
    · rw [List.getElem?_replicate, if_pos h]; rfl
    · rw [List.getElem?_replicate, if_neg h]; rfl
  unfold smp
  simp only [e]
  split
  · rfl
  · rw [Nat.zero_div, Nat.zero_mod]
theorem pkN_is {B S P H : Nat} (hB : B = 1 ∨ B = 2 ∨ B = 4 ∨ B = 8 ∨ B = 16) (hS : (P * B + 7) / 8 = S) (h0 : 0 < P) {l : List Nat} : ∀ k, k ≤ H * P → (∀ j, j < k → l.getD j 0 < 2 ^ B) →
    (pkN l B S P (H * S) k).length = H * S ∧ (∀ x ∈ pkN l B S P (H * S) k, x < 256) ∧ ∀ j, j < H * P → smp (pkN l B S P (H * S) k) B S P j = if j < k then l.getD j 0 else 0
  | 0, _, _ => ⟨by simp [pkN], fun x hx => by rw [List.eq_of_mem_replicate hx]; decide, fun j _ => by rw [if_neg (by omega)]; exact smp_zero _ _ _ _ _⟩
  | k + 1, hk, hv => by
    obtain ⟨i1, i2, i3⟩ := pkN_is (H := H) hB hS h0 k (by omega) (fun j hj => hv j (by omega))
    have hvk : l.getD k 0 < 2 ^ B := hv k (by omega)
    have hz : smp (pkN l B S P (H * S) k) B S P k = 0 := by rw [i3 k (by omega), if_neg (by omega)]
    refine ⟨by rw [pkN, putB_len]; exact i1, by rw [pkN]; exact putB_bytes hB hS h0 i1 i2 (by omega) hvk hz, fun j hj => ?_⟩
    rw [pkN, smp_put hB hS h0 i1 i2 (by omega) hj hvk hz, i3 j hj]
    by_cases e : j = k
    · subst e
      rw [if_pos rfl, if_pos (by omega)]
    · rw [if_neg e]
      by_cases h2 : j < k
      · rw [if_pos h2, if_pos (by omega)]
      · rw [if_neg h2, if_neg (by omega)]
end Go.Proofs.Ytmleoagdelgddaa
