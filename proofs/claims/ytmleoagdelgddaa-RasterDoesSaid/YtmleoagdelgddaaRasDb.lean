/- raster: samples put into bytes: pure. -/
import Derived.Test.YtmleoagdelgddaaRasAw
namespace Go.Proofs.Ytmleoagdelgddaa
open Go.RowKit Dec

/-- A byte's bits from o on, B of them, highest first. -/
def fld (x B o : Nat) : Nat := x / 2 ^ (8 - B - o) % 2 ^ B
theorem fld_put {B : Nat} (hB : B = 1 ∨ B = 2 ∨ B = 4 ∨ B = 8) {x v o : Nat} (hx : x < 256) (hv : v < 2 ^ B) (ho : o + B ≤ 8) (hd : o % B = 0) (hz : fld x B o = 0) :
    x + v * 2 ^ (8 - B - o) < 256 ∧ fld (x + v * 2 ^ (8 - B - o)) B o = v ∧ ∀ p, p + B ≤ 8 → p % B = 0 → p ≠ o → fld (x + v * 2 ^ (8 - B - o)) B p = fld x B p := by
  unfold fld at hz ⊢
  rcases hB with rfl | rfl | rfl | rfl
  · rcases (by omega : o = 0 ∨ o = 1 ∨ o = 2 ∨ o = 3 ∨ o = 4 ∨ o = 5 ∨ o = 6 ∨ o = 7) with rfl | rfl | rfl | rfl | rfl | rfl | rfl | rfl
    all_goals
      simp only [Nat.reduceSub, Nat.reducePow] at hz hv ⊢
      refine ⟨by omega, by omega, fun p hp hd hn => ?_⟩
      rcases (by omega : p = 0 ∨ p = 1 ∨ p = 2 ∨ p = 3 ∨ p = 4 ∨ p = 5 ∨ p = 6 ∨ p = 7) with rfl | rfl | rfl | rfl | rfl | rfl | rfl | rfl
      all_goals first
        | exact absurd rfl hn
        | (simp only [Nat.reduceSub, Nat.reducePow]; omega)
  · rcases (by omega : o = 0 ∨ o = 2 ∨ o = 4 ∨ o = 6) with rfl | rfl | rfl | rfl
    all_goals
      simp only [Nat.reduceSub, Nat.reducePow] at hz hv ⊢
      refine ⟨by omega, by omega, fun p hp hd hn => ?_⟩
      rcases (by omega : p = 0 ∨ p = 2 ∨ p = 4 ∨ p = 6) with rfl | rfl | rfl | rfl
      all_goals first
        | exact absurd rfl hn
        | (simp only [Nat.reduceSub, Nat.reducePow]; omega)
  · rcases (by omega : o = 0 ∨ o = 4) with rfl | rfl
    all_goals
      simp only [Nat.reduceSub, Nat.reducePow] at hz hv ⊢
      refine ⟨by omega, by omega, fun p hp hd hn => ?_⟩
      rcases (by omega : p = 0 ∨ p = 4) with rfl | rfl
      all_goals first
        | exact absurd rfl hn
        | (simp only [Nat.reduceSub, Nat.reducePow]; omega)
  · obtain rfl : o = 0 := by omega
    simp only [Nat.reduceSub, Nat.reducePow] at hz hv ⊢
    exact ⟨by omega, by omega, fun p hp hd hn => by omega⟩
/-- Where a sample lies. -/
abbrev plc (B S P i : Nat) : Nat := i / P * S + i % P * B / 8
/-- A sample put. -/
def putB (bs : List Nat) (B S P i v : Nat) : List Nat :=
  if B = 16 then (bs.set (plc B S P i) (v / 256)).set (plc B S P i + 1) (v % 256) else bs.set (plc B S P i) (bs.getD (plc B S P i) 0 + v * 2 ^ (8 - B - i % P * B % 8))
theorem putB_len (bs : List Nat) (B S P i v : Nat) : (putB bs B S P i v).length = bs.length := by unfold putB; split <;> simp
theorem off_mod {B : Nat} (hB : B = 1 ∨ B = 2 ∨ B = 4 ∨ B = 8) (q : Nat) : q * B % 8 + B ≤ 8 ∧ q * B % 8 % B = 0 := by
  rcases hB with rfl | rfl | rfl | rfl <;> omega
theorem off_ne {B : Nat} (hB : B = 1 ∨ B = 2 ∨ B = 4 ∨ B = 8) {q r : Nat} (h : q * B / 8 = r * B / 8) (hn : q ≠ r) : q * B % 8 ≠ r * B % 8 := by
  rcases hB with rfl | rfl | rfl | rfl <;> omega
section
variable {B S P H : Nat} (hB : B = 1 ∨ B = 2 ∨ B = 4 ∨ B = 8 ∨ B = 16) (hS : (P * B + 7) / 8 = S) (h0 : 0 < P)
include hB hS h0
theorem plc_eq {i j : Nat} (h : plc B S P i = plc B S P j) (h16 : B ≠ 16) : i / P = j / P ∧ i % P * B / 8 = j % P * B / 8 := by
  have f : ∀ q, q < P → q * B / 8 < S := fun q hq => by
    have h3 : q * B + B ≤ P * B := by rw [← Nat.succ_mul]; exact Nat.mul_le_mul_right _ hq
    omega
  have fi := f (i % P) (Nat.mod_lt _ h0)
  have fj := f (j % P) (Nat.mod_lt _ h0)
  unfold plc at h
  have key : ∀ {a b c d : Nat}, c < S → d < S → a * S + c = b * S + d → a = b ∧ c = d := fun {a b c d} hc hd e => by
    have e1 : (a * S + c) / S = a := by rw [Nat.mul_comm, Nat.mul_add_div (by omega), Nat.div_eq_of_lt hc, Nat.add_zero]
    have e2 : (b * S + d) / S = b := by rw [Nat.mul_comm, Nat.mul_add_div (by omega), Nat.div_eq_of_lt hd, Nat.add_zero]
    have : a = b := by rw [← e1, ← e2, e]
    subst this
    exact ⟨rfl, by omega⟩
  exact key fi fj h
/-- What is put is read; other samples stay. -/
theorem smp_put {bs : List Nat} {i j v : Nat} (hl : bs.length = H * S) (hb : ∀ x ∈ bs, x < 256) (hi : i < H * P) (hj : j < H * P) (hv : v < 2 ^ B) (hz : smp bs B S P i = 0) :
    smp (putB bs B S P i v) B S P j = if j = i then v else smp bs B S P j := by
  by_cases h16 : B = 16
  · subst h16
    have ki := row_fits16 P S H i h0 hS hi
    have kj := row_fits16 P S H j h0 hS hj
    have e2 : S = 2 * P := by omega
    have pl : ∀ q, plc 16 S P q = 2 * q := fun q => by
      unfold plc
      have e4 : q / P * S = 2 * (P * (q / P)) := by rw [e2, Nat.mul_left_comm, Nat.mul_comm (q / P)]
      have e5 := Nat.div_add_mod q P
      omega
    unfold smp putB
    simp only [if_true]
    show 256 * (((bs.set (plc 16 S P i) (v / 256)).set (plc 16 S P i + 1) (v % 256)).getD (plc 16 S P j) 0) + ((bs.set (plc 16 S P i) (v / 256)).set (plc 16 S P i + 1) (v % 256)).getD (plc 16 S P j + 1) 0 = if j = i then v else 256 * bs.getD (plc 16 S P j) 0 + bs.getD (plc 16 S P j + 1) 0
    have ki' : plc 16 S P i + 1 < bs.length := by rw [hl]; exact ki
    rw [pl] at ki'
    simp only [pl]
    simp only [List.getD_eq_getElem?_getD, List.getElem?_set, List.length_set]
    by_cases hij : j = i
    · subst hij
      rw [if_pos rfl, if_neg (by omega), if_pos rfl, if_pos (by omega), if_pos rfl, if_pos ki']
      simp only [Option.getD_some]
      omega
    · rw [if_neg hij, if_neg (by omega), if_neg (by omega), if_neg (by omega), if_neg (by omega)]
  · have hB8 : B = 1 ∨ B = 2 ∨ B = 4 ∨ B = 8 := by omega
    have ki := row_fits P B S H i h0 hS hi (by omega) (by omega)
    have kj := row_fits P B S H j h0 hS hj (by omega) (by omega)
    have oi := off_mod hB8 (i % P)
    have oj := off_mod hB8 (j % P)
    have hx : bs.getD (plc B S P i) 0 < 256 := hb _ (by
      rw [List.getD_eq_getElem?_getD, List.getElem?_eq_getElem (by rw [hl]; exact ki), Option.getD_some]
      exact List.getElem_mem _)
    unfold smp at hz ⊢
    rw [if_neg h16] at hz ⊢
    unfold putB
    rw [if_neg h16, if_neg h16]
    have hz' : fld (bs.getD (plc B S P i) 0) B (i % P * B % 8) = 0 := hz
    obtain ⟨f1, f2, f3⟩ := fld_put hB8 hx hv oi.1 oi.2 hz'
    show fld ((bs.set (plc B S P i) (bs.getD (plc B S P i) 0 + v * 2 ^ (8 - B - i % P * B % 8))).getD (plc B S P j) 0) B (j % P * B % 8) = if j = i then v else fld (bs.getD (plc B S P j) 0) B (j % P * B % 8)
    by_cases hp : plc B S P i = plc B S P j
    · obtain ⟨q1, q2⟩ := plc_eq hB hS h0 hp h16
      rw [← hp]
      rw [show (bs.set (plc B S P i) (bs.getD (plc B S P i) 0 + v * 2 ^ (8 - B - i % P * B % 8))).getD (plc B S P i) 0 = bs.getD (plc B S P i) 0 + v * 2 ^ (8 - B - i % P * B % 8) by
        rw [List.getD_eq_getElem?_getD, List.getElem?_set_self (by rw [hl]; exact ki)]
        rfl]
      by_cases hij : j = i
      · subst hij
        rw [if_pos rfl]
        exact f2
      · rw [if_neg hij]
        refine f3 _ oj.1 oj.2 (off_ne hB8 q2.symm ?_)
        intro e
        apply hij
        rw [← Nat.div_add_mod j P, ← Nat.div_add_mod i P, q1, e]
    · rw [if_neg (fun e => hp (by rw [e]))]
      rw [List.getD_eq_getElem?_getD, List.getElem?_set_ne hp, ← List.getD_eq_getElem?_getD]
theorem putB_bytes {bs : List Nat} {i v : Nat} (hl : bs.length = H * S) (hb : ∀ x ∈ bs, x < 256) (hi : i < H * P) (hv : v < 2 ^ B) (hz : smp bs B S P i = 0) : ∀ x ∈ putB bs B S P i v, x < 256 := by
  intro x hx
  unfold putB at hx
  by_cases h16 : B = 16
  · rw [if_pos h16] at hx
    subst h16
    rcases List.mem_or_eq_of_mem_set hx with h | h
    · rcases List.mem_or_eq_of_mem_set h with h | h
      · exact hb x h
      · omega
    · omega
  · rw [if_neg h16] at hx
    have hB8 : B = 1 ∨ B = 2 ∨ B = 4 ∨ B = 8 := by omega
    have ki := row_fits P B S H i h0 hS hi (by omega) (by omega)
    have oi := off_mod hB8 (i % P)
    have hx2 : bs.getD (plc B S P i) 0 < 256 := hb _ (by
      rw [List.getD_eq_getElem?_getD, List.getElem?_eq_getElem (by rw [hl]; exact ki), Option.getD_some]
      exact List.getElem_mem _)
    unfold smp at hz
    rw [if_neg h16] at hz
    obtain ⟨f1, -, -⟩ := fld_put hB8 hx2 hv oi.1 oi.2 hz
    rcases List.mem_or_eq_of_mem_set hx with h | h
    · exact hb x h
    · rw [h]; exact f1
end
/-- The bytes when the first k samples are put. -/
def pkN (l : List Nat) (B S P n : Nat) : Nat → List Nat
  | 0 => List.replicate n 0
  | k + 1 => putB (pkN l B S P n k) B S P k (l.getD k 0)
theorem smp_zero (n B S P j : Nat) : smp (List.replicate n 0) B S P j = 0 := by
  have e : ∀ k, (List.replicate n 0).getD k 0 = 0 := fun k => by
    rw [List.getD_eq_getElem?_getD]
    by_cases h : k < n
    · rw [List.getElem?_replicate, if_pos h]; rfl
    · rw [List.getElem?_replicate, if_neg h]; rfl
  unfold smp
  simp only [e]
  split
  · rfl
  · rw [Nat.zero_div, Nat.zero_mod]
theorem pkN_is {B S P H : Nat} (hB : B = 1 ∨ B = 2 ∨ B = 4 ∨ B = 8 ∨ B = 16) (hS : (P * B + 7) / 8 = S) (h0 : 0 < P) {l : List Nat} : ∀ k, k ≤ H * P → (∀ j, j < k → l.getD j 0 < 2 ^ B) →
    (pkN l B S P (H * S) k).length = H * S ∧ (∀ x ∈ pkN l B S P (H * S) k, x < 256) ∧ ∀ j, j < H * P → smp (pkN l B S P (H * S) k) B S P j = if j < k then l.getD j 0 else 0
  | 0, _, _ => ⟨by simp [pkN], fun x hx => by rw [List.eq_of_mem_replicate hx]; decide, fun j _ => by rw [if_neg (by omega)]; exact smp_zero _ _ _ _ _⟩
  | k + 1, hk, hv => by
    obtain ⟨i1, i2, i3⟩ := pkN_is (H := H) hB hS h0 k (by omega) (fun j hj => hv j (by omega))
    have hvk : l.getD k 0 < 2 ^ B := hv k (by omega)
    have hz : smp (pkN l B S P (H * S) k) B S P k = 0 := by rw [i3 k (by omega), if_neg (by omega)]
    refine ⟨by rw [pkN, putB_len]; exact i1, by rw [pkN]; exact putB_bytes hB hS h0 i1 i2 (by omega) hvk hz, fun j hj => ?_⟩
    rw [pkN, smp_put hB hS h0 i1 i2 (by omega) hj hvk hz, i3 j hj]
    by_cases e : j = k
    · subst e
      rw [if_pos rfl, if_pos (by omega)]
    · rw [if_neg e]
      by_cases h2 : j < k
      · rw [if_pos h2, if_pos (by omega)]
      · rw [if_neg h2, if_neg (by omega)]
end Go.Proofs.Ytmleoagdelgddaa
/- raster's reference: bits of bytes: pure. -/
namespace Go.Proofs.Ytmleoagdelgddaa
open Go.RowKit Dec

/-- A byte's bit, the highest first. -/
def bt (x t : Nat) : Nat := x / 2 ^ (7 - t) % 2
def bitAt (bs : List Nat) (q : Nat) : Nat := bt (bs.getD (q / 8) 0) (q % 8)
/-- A number of bits, the first one highest. -/
def bv (f : Nat → Nat) : Nat → Nat
  | 0 => 0
  | k + 1 => 2 * bv f k + f k
theorem bv_congr {f g : Nat → Nat} : ∀ n, (∀ k, k < n → f k = g k) → bv f n = bv g n
  | 0, _ => rfl
  | n + 1, h => by rw [bv, bv, bv_congr n (fun k hk => h k (by omega)), h n (by omega)]
theorem bv_add (f : Nat → Nat) (a : Nat) : ∀ b, bv f (a + b) = 2 ^ b * bv f a + bv (fun k => f (a + k)) b
  | 0 => by simp [bv]
  | b + 1 => by
    rw [show a + (b + 1) = (a + b) + 1 by omega, bv, bv_add f a b, bv, Nat.pow_succ]
    have : 2 * (2 ^ b * bv f a) = 2 ^ b * 2 * bv f a := by rw [Nat.mul_comm (2 ^ b) 2, Nat.mul_assoc]
    omega
theorem bv_fld {B : Nat} (hB : B = 1 ∨ B = 2 ∨ B = 4 ∨ B = 8) {x o : Nat} (hx : x < 256) (ho : o + B ≤ 8) : bv (fun k => bt x (o + k)) B = fld x B o := by
  unfold fld
  rcases hB with rfl | rfl | rfl | rfl
  · rcases (by omega : o = 0 ∨ o = 1 ∨ o = 2 ∨ o = 3 ∨ o = 4 ∨ o = 5 ∨ o = 6 ∨ o = 7) with rfl | rfl | rfl | rfl | rfl | rfl | rfl | rfl
    all_goals
      simp only [bv, bt, Nat.reduceSub, Nat.reducePow, Nat.reduceAdd]
      omega
  · rcases (by omega : o = 0 ∨ o = 1 ∨ o = 2 ∨ o = 3 ∨ o = 4 ∨ o = 5 ∨ o = 6) with rfl | rfl | rfl | rfl | rfl | rfl | rfl
    all_goals
      simp only [bv, bt, Nat.reduceSub, Nat.reducePow, Nat.reduceAdd]
      omega
  · rcases (by omega : o = 0 ∨ o = 1 ∨ o = 2 ∨ o = 3 ∨ o = 4) with rfl | rfl | rfl | rfl | rfl
    all_goals
      simp only [bv, bt, Nat.reduceSub, Nat.reducePow, Nat.reduceAdd]
      omega
  · obtain rfl : o = 0 := by omega
    simp only [bv, bt, Nat.reduceSub, Nat.reducePow, Nat.reduceAdd]
    omega
theorem getD_lt {bs : List Nat} (hb : ∀ x ∈ bs, x < 256) (k : Nat) : bs.getD k 0 < 256 := by
  by_cases h : k < bs.length
  · rw [List.getD_eq_getElem?_getD, List.getElem?_eq_getElem h]
    exact hb _ (List.getElem_mem _)
  · rw [List.getD_eq_getElem?_getD, List.getElem?_eq_none (by omega)]
    show 0 < 256
    omega
theorem row_getD {bs : List Nat} {a S j : Nat} (hj : j < S) : ((bs.drop a).take S).getD j 0 = bs.getD (a + j) 0 := by
  rw [List.getD_eq_getElem?_getD, List.getElem?_take, if_pos hj, List.getElem?_drop, ← List.getD_eq_getElem?_getD]
/-- A sample is the number of its bits. -/
theorem smp_bits {B S P y i : Nat} (hB : B = 1 ∨ B = 2 ∨ B = 4 ∨ B = 8 ∨ B = 16) (hS : (P * B + 7) / 8 = S) (h0 : 0 < P) {bs : List Nat} (hb : ∀ x ∈ bs, x < 256) (hi : i < P) :
    bv (fun k => bitAt ((bs.drop (y * S)).take S) (i * B + k)) B = smp bs B S P (y * P + i) := by
  have e1 : (y * P + i) / P = y := by rw [Nat.mul_comm, Nat.mul_add_div h0, Nat.div_eq_of_lt hi, Nat.add_zero]
  have e2 : (y * P + i) % P = i := by rw [Nat.mul_comm, Nat.mul_add_mod, Nat.mod_eq_of_lt hi]
  have h3 : i * B + B ≤ P * B := by rw [← Nat.succ_mul]; exact Nat.mul_le_mul_right _ hi
  unfold smp
  rw [e1, e2]
  dsimp only
  by_cases h16 : B = 16
  · subst h16
    rw [if_pos rfl]
    have hq : i * 16 / 8 = 2 * i := by omega
    have hs : S = 2 * P := by omega
    rw [hq, show (16 : Nat) = 8 + 8 from rfl, bv_add]
    have key : ∀ j, j < 2 → bv (fun k => bitAt ((bs.drop (y * S)).take S) (i * (8 + 8) + (8 * j + k))) 8 = bs.getD (y * S + (2 * i + j)) 0 := fun j hj => by
      have hx := getD_lt hb (y * S + (2 * i + j))
      have := bv_fld (B := 8) (o := 0) (.inr (.inr (.inr rfl))) hx (by omega)
      unfold fld at this
      rw [show 8 - 8 - 0 = 0 from rfl, Nat.pow_zero, Nat.div_one, Nat.mod_eq_of_lt (by simpa using hx)] at this
      rw [← this]
      refine bv_congr 8 (fun k hk => ?_)
      unfold bitAt
      rw [show (i * (8 + 8) + (8 * j + k)) / 8 = 2 * i + j by omega, show (i * (8 + 8) + (8 * j + k)) % 8 = 0 + k by omega, row_getD (by omega)]
    have k0 := key 0 (by omega)
    have k1 := key 1 (by omega)
    simp only [Nat.mul_zero, Nat.zero_add, Nat.mul_one, Nat.add_zero] at k0 k1
    have e8 : (2 : Nat) ^ 8 = 256 := rfl
    rw [k0, k1, e8, Nat.add_assoc]
  · rw [if_neg h16]
    have hB8 : B = 1 ∨ B = 2 ∨ B = 4 ∨ B = 8 := by omega
    have oi := off_mod hB8 i
    have hx := getD_lt hb (y * S + i * B / 8)
    have := bv_fld hB8 hx oi.1
    unfold fld at this
    rw [← this]
    refine bv_congr B (fun k hk => ?_)
    unfold bitAt
    rw [show (i * B + k) / 8 = i * B / 8 by omega, show (i * B + k) % 8 = i * B % 8 + k by omega, row_getD (by omega)]
/-- A sample's bit. -/
def dgt (v B k : Nat) : Nat := v / 2 ^ (B - 1 - k) % 2
theorem bt_put1 {x t d : Nat} (hx : x < 256) (ht : t < 8) (hd : d < 2) (hz : bt x t = 0) : x + d * 2 ^ (7 - t) < 256 ∧ ∀ u, u < 8 → bt (x + d * 2 ^ (7 - t)) u = if u = t then d else bt x u := by
  unfold bt at hz ⊢
  rcases (by omega : t = 0 ∨ t = 1 ∨ t = 2 ∨ t = 3 ∨ t = 4 ∨ t = 5 ∨ t = 6 ∨ t = 7) with rfl | rfl | rfl | rfl | rfl | rfl | rfl | rfl
  all_goals
    simp only [Nat.reduceSub, Nat.reducePow] at hz ⊢
    refine ⟨by omega, fun u hu => ?_⟩
    rcases (by omega : u = 0 ∨ u = 1 ∨ u = 2 ∨ u = 3 ∨ u = 4 ∨ u = 5 ∨ u = 6 ∨ u = 7) with rfl | rfl | rfl | rfl | rfl | rfl | rfl | rfl
    all_goals
      simp only [Nat.reduceSub, Nat.reducePow]
      split <;> first | omega | (rename_i h; exact absurd trivial h) | (rename_i h; exact absurd rfl h)
/-- Bytes of the same bits are the same. -/
theorem byte_ext {x y : Nat} (hx : x < 256) (hy : y < 256) (h : ∀ t, t < 8 → bt x t = bt y t) : x = y := by
  have h0 := h 0 (by omega)
  have h1 := h 1 (by omega)
  have h2 := h 2 (by omega)
  have h3 := h 3 (by omega)
  have h4 := h 4 (by omega)
  have h5 := h 5 (by omega)
  have h6 := h 6 (by omega)
  have h7 := h 7 (by omega)
  simp only [bt, Nat.reduceSub, Nat.reducePow] at h0 h1 h2 h3 h4 h5 h6 h7
  omega
end Go.Proofs.Ytmleoagdelgddaa
/- raster's reference: the bits of packed samples: pure. -/
namespace Go.Proofs.Ytmleoagdelgddaa
open Go.RowKit Dec

theorem bt_put {B : Nat} (hB : B = 1 ∨ B = 2 ∨ B = 4 ∨ B = 8) {x v o t : Nat} (hx : x < 256) (hv : v < 2 ^ B) (ho : o + B ≤ 8) (hd : o % B = 0) (hz : fld x B o = 0) (ht : t < 8) :
    bt (x + v * 2 ^ (8 - B - o)) t = if o ≤ t ∧ t < o + B then dgt v B (t - o) else bt x t := by
  unfold fld at hz
  unfold bt dgt
  rcases hB with rfl | rfl | rfl | rfl
  · rcases (by omega : o = 0 ∨ o = 1 ∨ o = 2 ∨ o = 3 ∨ o = 4 ∨ o = 5 ∨ o = 6 ∨ o = 7) with rfl | rfl | rfl | rfl | rfl | rfl | rfl | rfl
    all_goals
      simp only [Nat.reduceSub, Nat.reducePow] at hz hv ⊢
      rcases (by omega : t = 0 ∨ t = 1 ∨ t = 2 ∨ t = 3 ∨ t = 4 ∨ t = 5 ∨ t = 6 ∨ t = 7) with rfl | rfl | rfl | rfl | rfl | rfl | rfl | rfl
      all_goals
        simp only [Nat.reduceSub, Nat.reducePow]
        split <;> omega
  · rcases (by omega : o = 0 ∨ o = 2 ∨ o = 4 ∨ o = 6) with rfl | rfl | rfl | rfl
    all_goals
      simp only [Nat.reduceSub, Nat.reducePow] at hz hv ⊢
      rcases (by omega : t = 0 ∨ t = 1 ∨ t = 2 ∨ t = 3 ∨ t = 4 ∨ t = 5 ∨ t = 6 ∨ t = 7) with rfl | rfl | rfl | rfl | rfl | rfl | rfl | rfl
      all_goals
        simp only [Nat.reduceSub, Nat.reducePow]
        split <;> omega
  · rcases (by omega : o = 0 ∨ o = 4) with rfl | rfl
    all_goals
      simp only [Nat.reduceSub, Nat.reducePow] at hz hv ⊢
      rcases (by omega : t = 0 ∨ t = 1 ∨ t = 2 ∨ t = 3 ∨ t = 4 ∨ t = 5 ∨ t = 6 ∨ t = 7) with rfl | rfl | rfl | rfl | rfl | rfl | rfl | rfl
      all_goals
        simp only [Nat.reduceSub, Nat.reducePow]
        split <;> omega
  · obtain rfl : o = 0 := by omega
    simp only [Nat.reduceSub, Nat.reducePow] at hz hv ⊢
    rcases (by omega : t = 0 ∨ t = 1 ∨ t = 2 ∨ t = 3 ∨ t = 4 ∨ t = 5 ∨ t = 6 ∨ t = 7) with rfl | rfl | rfl | rfl | rfl | rfl | rfl | rfl
    all_goals
      simp only [Nat.reduceSub, Nat.reducePow]
      split <;> omega
theorem bt_wide {v t : Nat} (ht : t < 8) : bt (v / 256) t = dgt v 16 t ∧ bt (v % 256) t = dgt v 16 (8 + t) := by
  unfold bt dgt
  rcases (by omega : t = 0 ∨ t = 1 ∨ t = 2 ∨ t = 3 ∨ t = 4 ∨ t = 5 ∨ t = 6 ∨ t = 7) with rfl | rfl | rfl | rfl | rfl | rfl | rfl | rfl
  all_goals
    simp only [Nat.reduceSub, Nat.reducePow, Nat.reduceAdd]
    omega
theorem row_key {a b c d S : Nat} (hc : c < S) (hd : d < S) (e : a * S + c = b * S + d) : a = b ∧ c = d := by
  have e1 : (a * S + c) / S = a := by rw [Nat.mul_comm, Nat.mul_add_div (by omega), Nat.div_eq_of_lt hc, Nat.add_zero]
  have e2 : (b * S + d) / S = b := by rw [Nat.mul_comm, Nat.mul_add_div (by omega), Nat.div_eq_of_lt hd, Nat.add_zero]
  have : a = b := by rw [← e1, ← e2, e]
  subst this
  exact ⟨rfl, by omega⟩
section
variable {B S P H : Nat} (hB : B = 1 ∨ B = 2 ∨ B = 4 ∨ B = 8 ∨ B = 16) (hS : (P * B + 7) / 8 = S) (h0 : 0 < P)
include hB hS h0
theorem bit_put {bs : List Nat} {i y q v : Nat} (hl : bs.length = H * S) (hb : ∀ x ∈ bs, x < 256) (hi : i < H * P) (hq : q < 8 * S) (hv : v < 2 ^ B) (hz : smp bs B S P i = 0) :
    bitAt (putB bs B S P i v) (8 * (y * S) + q) = if q < P * B ∧ y * P + q / B = i then dgt v B (q % B) else bitAt bs (8 * (y * S) + q) := by
  have him : i % P < P := Nat.mod_lt _ h0
  have hid := Nat.div_add_mod i P
  have hPd : P * (i / P) = i / P * P := Nat.mul_comm _ _
  unfold bitAt
  rw [show (8 * (y * S) + q) / 8 = y * S + q / 8 by omega, show (8 * (y * S) + q) % 8 = q % 8 by omega]
  by_cases h16 : B = 16
  · subst h16
    have hS2 : S = 2 * P := by omega
    have ki := row_fits16 P S H i h0 hS hi
    have hp : i / P * S + i % P * 16 / 8 = 2 * i := by
      have e4 : i / P * S = 2 * (P * (i / P)) := by rw [hS2, Nat.mul_left_comm, Nat.mul_comm (i / P)]
      omega
    have hy2 : y * S = 2 * (y * P) := by rw [hS2, Nat.mul_left_comm]
    unfold putB plc
    rw [if_pos rfl, hp, hy2]
    rw [hp] at ki
    have hq2 := bt_wide (v := v) (t := q % 8) (by omega)
    by_cases hc : y * P + q / 16 = i
    · rw [if_pos ⟨by omega, hc⟩]
      by_cases hpar : q % 16 < 8
      · rw [show 2 * (y * P) + q / 8 = 2 * i by omega, List.getD_eq_getElem?_getD, List.getElem?_set_ne (by omega), List.getElem?_set_self (by rw [hl]; omega), Option.getD_some, hq2.1, show q % 16 = q % 8 by omega]
      · rw [show 2 * (y * P) + q / 8 = 2 * i + 1 by omega, List.getD_eq_getElem?_getD, List.getElem?_set_self (by rw [List.length_set, hl]; omega), Option.getD_some, hq2.2, show q % 16 = 8 + q % 8 by omega]
    · rw [if_neg (fun k => hc k.2)]
      rw [List.getD_eq_getElem?_getD, List.getElem?_set_ne (by omega), List.getElem?_set_ne (by omega), ← List.getD_eq_getElem?_getD]
  · have hB8 : B = 1 ∨ B = 2 ∨ B = 4 ∨ B = 8 := by omega
    have ki := row_fits P B S H i h0 hS hi (by omega) (by omega)
    have oi := off_mod hB8 (i % P)
    have hB0 : 0 < B := by omega
    have hx : bs.getD (plc B S P i) 0 < 256 := getD_lt hb _
    unfold smp at hz
    rw [if_neg h16] at hz
    have h3 : i % P * B + B ≤ P * B := by rw [← Nat.succ_mul]; exact Nat.mul_le_mul_right _ him
    have hcs : i % P * B / 8 < S := by omega
    have hqd := Nat.div_add_mod q B
    have hqB : B * (q / B) = q / B * B := Nat.mul_comm _ _
    have hqm := Nat.mod_lt q hB0
    unfold putB
    rw [if_neg h16]
    by_cases hk : y * S + q / 8 = plc B S P i
    · obtain ⟨e1, e2⟩ := row_key (show q / 8 < S by omega) hcs hk
      rw [hk, List.getD_eq_getElem?_getD, List.getElem?_set_self (by rw [hl]; exact ki), Option.getD_some, bt_put hB8 hx hv oi.1 oi.2 hz (by omega)]
      have hiff : (i % P * B % 8 ≤ q % 8 ∧ q % 8 < i % P * B % 8 + B) ↔ (q < P * B ∧ y * P + q / B = i) := by
        constructor
        · rintro ⟨k1, k2⟩
          have hq1 : i % P * B ≤ q := by omega
          have hq2 : q < i % P * B + B := by omega
          have : q / B = i % P := by
            have a1 : i % P ≤ q / B := (Nat.le_div_iff_mul_le hB0).2 hq1
            have a2 : q / B < i % P + 1 := (Nat.div_lt_iff_lt_mul hB0).2 (by rw [Nat.add_mul, Nat.one_mul]; exact hq2)
            omega
          exact ⟨by omega, by rw [this, e1]; omega⟩
        · rintro ⟨k1, k2⟩
          have hqP : q / B < P := (Nat.div_lt_iff_lt_mul hB0).2 k1
          have : q / B = i % P := by rw [e1] at k2; omega
          rw [this] at hqB hqd
          omega
      by_cases hc : q < P * B ∧ y * P + q / B = i
      · rw [if_pos hc, if_pos (hiff.2 hc)]
        have := hiff.2 hc
        have hqP : q / B < P := (Nat.div_lt_iff_lt_mul hB0).2 hc.1
        have hqi : q / B = i % P := by have := hc.2; rw [e1] at this; omega
        rw [hqi] at hqB hqd
        congr 1
        omega
      · rw [if_neg hc, if_neg (fun k => hc (hiff.1 k))]
    · rw [List.getD_eq_getElem?_getD, List.getElem?_set_ne (fun e => hk e.symm), ← List.getD_eq_getElem?_getD]
      rw [if_neg]
      rintro ⟨k1, k2⟩
      have hqP : q / B < P := (Nat.div_lt_iff_lt_mul hB0).2 k1
      have e1 : i / P = y := by rw [← k2, Nat.mul_comm, Nat.mul_add_div h0, Nat.div_eq_of_lt hqP, Nat.add_zero]
      have e2 : i % P = q / B := by rw [← k2, Nat.mul_comm, Nat.mul_add_mod, Nat.mod_eq_of_lt hqP]
      apply hk
      unfold plc
      rw [e1, e2]
      have o2 := off_mod hB8 (q / B)
      obtain ⟨u, hu⟩ : ∃ u, q / B = u := ⟨_, rfl⟩
      rw [hu] at hqd hqB o2 ⊢
      have : u * B / 8 = q / 8 := by omega
      rw [this]
end
theorem bit_zero (n q : Nat) : bitAt (List.replicate n 0) q = 0 := by
  have e : ∀ k, (List.replicate n 0).getD k 0 = 0 := fun k => by
    rw [List.getD_eq_getElem?_getD]
    by_cases h : k < n
    · rw [List.getElem?_replicate, if_pos h]; rfl
    · rw [List.getElem?_replicate, if_neg h]; rfl
  unfold bitAt bt
  rw [e, Nat.zero_div]
theorem pkN_bits {B S P H : Nat} (hB : B = 1 ∨ B = 2 ∨ B = 4 ∨ B = 8 ∨ B = 16) (hS : (P * B + 7) / 8 = S) (h0 : 0 < P) {l : List Nat} : ∀ k, k ≤ H * P → (∀ j, j < k → l.getD j 0 < 2 ^ B) →
    ∀ y q, q < 8 * S → bitAt (pkN l B S P (H * S) k) (8 * (y * S) + q) = if q < P * B ∧ y * P + q / B < k then dgt (l.getD (y * P + q / B) 0) B (q % B) else 0
  | 0, _, _, y, q, _ => by rw [pkN, bit_zero, if_neg (fun k => absurd k.2 (Nat.not_lt_zero _))]
  | k + 1, hk, hv, y, q, hq => by
    obtain ⟨i1, i2, i3⟩ := pkN_is (H := H) hB hS h0 k (by omega) (fun j hj => hv j (by omega))
    have hz : smp (pkN l B S P (H * S) k) B S P k = 0 := by rw [i3 k (by omega), if_neg (by omega)]
    rw [pkN, bit_put (H := H) hB hS h0 i1 i2 (by omega) hq (hv k (by omega)) hz, pkN_bits (H := H) hB hS h0 k (by omega) (fun j hj => hv j (by omega)) y q hq]
    by_cases h1 : q < P * B ∧ y * P + q / B = k
    · rw [if_pos h1, if_pos ⟨h1.1, by omega⟩, h1.2]
    · rw [if_neg h1]
      by_cases h2 : q < P * B ∧ y * P + q / B < k
      · rw [if_pos h2, if_pos ⟨h2.1, by omega⟩]
      · rw [if_neg h2, if_neg (fun k3 => by
          by_cases e : y * P + q / B = k
          · exact h1 ⟨k3.1, e⟩
          · exact h2 ⟨k3.1, by omega⟩)]
/-- A row whose bits are the samples' is the row of the packed bytes. -/
theorem row_is {B S P H y : Nat} (hB : B = 1 ∨ B = 2 ∨ B = 4 ∨ B = 8 ∨ B = 16) (hS : (P * B + 7) / 8 = S) (h0 : 0 < P) {l rb : List Nat} (hy : y < H) (hv : ∀ j, j < H * P → l.getD j 0 < 2 ^ B) (hl : rb.length = S) (hb : ∀ x ∈ rb, x < 256)
    (h : ∀ q, q < 8 * S → bitAt rb q = if q < P * B then dgt (l.getD (y * P + q / B) 0) B (q % B) else 0) : ((pkN l B S P (H * S) (H * P)).drop (y * S)).take S = rb := by
  obtain ⟨i1, i2, -⟩ := pkN_is (H := H) hB hS h0 (H * P) (Nat.le_refl _) hv
  have hyS : y * S + S ≤ H * S := by rw [← Nat.succ_mul]; exact Nat.mul_le_mul_right _ hy
  have hyP : y * P + P ≤ H * P := by rw [← Nat.succ_mul]; exact Nat.mul_le_mul_right _ hy
  apply List.ext_getElem
  · simp [i1, hl]; omega
  · intro j h1 h2
    have hj : j < S := by omega
    have hc : ((pkN l B S P (H * S) (H * P)).drop (y * S)).take S = ((pkN l B S P (H * S) (H * P)).drop (y * S)).take S := rfl
    have e1 : (((pkN l B S P (H * S) (H * P)).drop (y * S)).take S)[j] = (pkN l B S P (H * S) (H * P)).getD (y * S + j) 0 := by
      have := row_getD (bs := pkN l B S P (H * S) (H * P)) (a := y * S) hj
      rw [← this, List.getD_eq_getElem?_getD, List.getElem?_eq_getElem h1]
      rfl
    have e2 : rb[j] = rb.getD j 0 := by rw [List.getD_eq_getElem?_getD, List.getElem?_eq_getElem h2]; rfl
    rw [e1, e2]
    refine byte_ext (getD_lt i2 _) (getD_lt hb _) (fun t ht => ?_)
    have k1 := pkN_bits (H := H) hB hS h0 (H * P) (Nat.le_refl _) hv y (8 * j + t) (by omega)
    have k2 := h (8 * j + t) (by omega)
    unfold bitAt at k1 k2
    rw [show (8 * (y * S) + (8 * j + t)) / 8 = y * S + j by omega, show (8 * (y * S) + (8 * j + t)) % 8 = t by omega] at k1
    rw [show (8 * j + t) / 8 = j by omega, show (8 * j + t) % 8 = t by omega] at k2
    rw [k1, k2]
    have hB0 : 0 < B := by omega
    by_cases hq : 8 * j + t < P * B
    · have : (8 * j + t) / B < P := (Nat.div_lt_iff_lt_mul hB0).2 hq
      rw [if_pos ⟨hq, by omega⟩, if_pos hq]
    · rw [if_neg (fun k => hq k.1), if_neg hq]
end Go.Proofs.Ytmleoagdelgddaa
