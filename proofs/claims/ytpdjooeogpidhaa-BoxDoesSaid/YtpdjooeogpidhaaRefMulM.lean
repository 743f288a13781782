/- The plain mathematics of the reference's Mul. -/
import Derived.Test.YtpdjooeogpidhaaRefSum
namespace Go.Proofs.Ytpdjooeogpidhaa
open Go.RowKit Dec

theorem num_set {L : List Int} {j : Nat} {a : Int} (h : L[j]? = some a) (v : Int) : num (L.set j v) + 10 ^ j * a.toNat = num L + 10 ^ j * v.toNat := by
  obtain ⟨hj, rfl⟩ := List.getElem?_eq_some_iff.1 h
  have e1 : L = L.take j ++ L[j] :: L.drop (j + 1) := by
    conv => lhs; rw [← List.take_append_drop j L, List.drop_eq_getElem_cons hj]
  have e2 : L.set j v = L.take j ++ v :: L.drop (j + 1) := List.set_eq_take_append_cons_drop.trans (by rw [if_pos hj])
  have hl : (L.take j).length = j := by rw [List.length_take]; omega
  have n1 : num L = num (L.take j) + 10 ^ j * (L[j].toNat + 10 * num (L.drop (j + 1))) := by
    conv => lhs; rw [e1]
    rw [num_append, hl]
    rfl
  have n2 : num (L.set j v) = num (L.take j) + 10 ^ j * (v.toNat + 10 * num (L.drop (j + 1))) := by
    rw [e2, num_append, hl]
    rfl
  rw [n1, n2, Nat.mul_add, Nat.mul_add]
  omega
theorem take_nat (ds : List Int) (hd : Digs ds) (k : Nat) : num (ds.take (k + 1)) = num (ds.take k) + 10 ^ k * (digitAt ds k).toNat := by
  have h := take_num ds hd k
  have h4 := digitAt_le hd k
  have e : ((10 ^ k : Nat) : Int) * digitAt ds k = ((10 ^ k * (digitAt ds k).toNat : Nat) : Int) := by
    push_cast
    rw [Int.toNat_of_nonneg h4.1]
  rw [e] at h
  omega
/-- What the loop of products keeps. -/
structure MulAt (X Y L : List Int) (i k : Nat) : Prop where
  len : L.length = X.length + Y.length + 1
  bnd : ∀ x ∈ L, 0 ≤ x ∧ x ≤ ((81 * (i * Y.length + k) : Nat) : Int)
  val : num L = num (X.take i) * num Y + (digitAt X i).toNat * 10 ^ i * num (Y.take k)
theorem MulAt.start (X Y : List Int) : MulAt X Y (List.replicate (X.length + Y.length + 1) 0) 0 0 :=
  ⟨by simp, fun x hx => by have := List.eq_of_mem_replicate hx; omega, by rw [num_rep]; simp [num]⟩
theorem mem_set {L : List Int} {j : Nat} {v x : Int} (h : x ∈ L.set j v) : x ∈ L ∨ x = v := List.mem_or_eq_of_mem_set h
theorem MulAt.step {X Y L : List Int} {i k : Nat} {a : Int} (h : MulAt X Y L i k) (hX : Digs X) (hY : Digs Y) (ha : L[i + k]? = some a) : MulAt X Y (L.set (i + k) (a + digitAt X i * digitAt Y k)) i (k + 1) := by
  have dx := digitAt_le hX i
  have dy := digitAt_le hY k
  have hb := h.bnd a (List.mem_of_getElem? ha)
  obtain ⟨x, hx⟩ : ∃ x : Nat, digitAt X i = x := ⟨(digitAt X i).toNat, (Int.toNat_of_nonneg dx.1).symm⟩
  obtain ⟨y, hy⟩ : ∃ y : Nat, digitAt Y k = y := ⟨(digitAt Y k).toNat, (Int.toNat_of_nonneg dy.1).symm⟩
  obtain ⟨b, rfl⟩ : ∃ b : Nat, a = b := ⟨a.toNat, (Int.toNat_of_nonneg hb.1).symm⟩
  have hxy : x * y ≤ 81 := by
    have h1 : x ≤ 9 := by omega
    have h2 : y ≤ 9 := by omega
    exact Nat.mul_le_mul h1 h2
  have e0 : (b : Int) + digitAt X i * digitAt Y k = ((b + x * y : Nat) : Int) := by rw [hx, hy]; push_cast; rfl
  rw [e0]
  refine ⟨by rw [List.length_set]; exact h.len, fun z hz => ?_, ?_⟩
  · rcases mem_set hz with e | e
    · have := h.bnd z e; omega
    · subst e; omega
  · have h1 := num_set ha ((b + x * y : Nat) : Int)
    have h2 := h.val
    have h3 := take_nat Y hY k
    rw [hx, Int.toNat_natCast] at h2 ⊢
    rw [hy, Int.toNat_natCast] at h3
    simp only [Int.toNat_natCast] at h1
    rw [h3, Nat.mul_add]
    have h4 : x * 10 ^ i * (10 ^ k * y) = 10 ^ (i + k) * (x * y) := by
      rw [Nat.pow_add]
      rw [show x * 10 ^ i * (10 ^ k * y) = (10 ^ i * 10 ^ k) * (x * y) by rw [Nat.mul_comm x, Nat.mul_assoc, Nat.mul_assoc, Nat.mul_left_comm x]]
    rw [h4]
    rw [Nat.mul_add] at h1
    omega
theorem MulAt.next {X Y L : List Int} {i : Nat} (h : MulAt X Y L i Y.length) (hX : Digs X) : MulAt X Y L (i + 1) 0 := by
  refine ⟨h.len, fun x hx => ?_, ?_⟩
  · have := h.bnd x hx
    rw [Nat.add_mul]
    omega
  · have h2 := h.val
    rw [List.take_of_length_le (Nat.le_refl _)] at h2
    rw [h2, take_nat X hX i, List.take_zero, Nat.add_mul]
    simp only [num, Nat.mul_zero, Nat.add_zero]
    rw [Nat.mul_comm (10 ^ i)]
/-- What the loop of carries keeps. -/
structure CarAt (L : List Int) (n V i : Nat) : Prop where
  len : L.length = n
  val : num L = V
  low : ∀ (j : Nat) (x : Int), j < i → L[j]? = some x → x ≤ 9
  bnd : ∀ x ∈ L, 0 ≤ x ∧ x ≤ 60000
  rest : ∀ (j : Nat) (x : Int), i < j → L[j]? = some x → x ≤ 30000
theorem CarAt.start {X Y L : List Int} (h : MulAt X Y L X.length 0) (hx : X.length ≤ 18) (hy : Y.length ≤ 18) : CarAt L (X.length + Y.length + 1) (num X * num Y) 0 := by
  have hb : 81 * (X.length * Y.length + 0) ≤ 81 * (18 * 18) := Nat.mul_le_mul_left 81 (Nat.mul_le_mul hx hy)
  have hv := h.val
  rw [List.take_of_length_le (Nat.le_refl _), List.take_zero] at hv
  refine ⟨h.len, by rw [hv]; simp [num], fun j x hj => absurd hj (by omega), fun x hxl => ?_, fun j x _ hj => ?_⟩
  · have := h.bnd x hxl; omega
  · have := h.bnd x (List.mem_of_getElem? hj); omega
theorem CarAt.step {L : List Int} {n V i : Nat} {a b : Int} (h : CarAt L n V i) (ha : L[i]? = some a) (hb : L[i + 1]? = some b) : CarAt ((L.set (i + 1) (b + a / 10)).set i (a % 10)) n V (i + 1) := by
  have b1 := h.bnd a (List.mem_of_getElem? ha)
  have b2 := h.bnd b (List.mem_of_getElem? hb)
  have b3 := h.rest (i + 1) b (by omega) hb
  have hi := (List.getElem?_eq_some_iff.1 ha).1
  have hi1 := (List.getElem?_eq_some_iff.1 hb).1
  have ha' : (L.set (i + 1) (b + a / 10))[i]? = some a := by rw [List.getElem?_set_ne (by omega)]; exact ha
  refine ⟨by rw [List.length_set, List.length_set]; exact h.len, ?_, fun j x hj hx => ?_, fun x hx => ?_, fun j x hj hx => ?_⟩
  · have e1 := num_set hb (b + a / 10)
    have e2 := num_set ha' (a % 10)
    have e3 := h.val
    have e4 : (b + a / 10).toNat = b.toNat + a.toNat / 10 := by omega
    have e5 : (a % 10).toNat = a.toNat % 10 := by omega
    rw [e4, Nat.mul_add, Nat.pow_succ] at e1
    rw [e5] at e2
    have e6 : 10 ^ i * a.toNat = 10 ^ i * 10 * (a.toNat / 10) + 10 ^ i * (a.toNat % 10) := by
      rw [Nat.mul_assoc, ← Nat.mul_add]
      congr 1
      omega
    omega
  · by_cases e : j = i
    · subst e
      rw [List.getElem?_set_self (by rw [List.length_set]; exact hi)] at hx
      injection hx with hx
      omega
    · rw [List.getElem?_set_ne (by omega), List.getElem?_set_ne (by omega)] at hx
      exact h.low j x (by omega) hx
  · rcases mem_set hx with e | e
    · rcases mem_set e with e | e
      · exact h.bnd x e
      · omega
    · omega
  · rw [List.getElem?_set_ne (by omega), List.getElem?_set_ne (by omega)] at hx
    exact h.rest j x (by omega) hx
theorem CarAt.end {X Y L : List Int} {i : Nat} (h : CarAt L (X.length + Y.length + 1) (num X * num Y) i) (hX : Digs X) (hY : Digs Y) (hi : i = X.length + Y.length) : Digs L ∧ num L = num X * num Y := by
  refine ⟨fun d hd => ?_, h.val⟩
  have b := h.bnd d hd
  refine ⟨b.1, ?_⟩
  obtain ⟨j, hj, e⟩ := List.getElem_of_mem hd
  have hj' : L[j]? = some d := by rw [List.getElem?_eq_getElem hj, e]
  by_cases hji : j < i
  · exact h.low j d hji hj'
  · have hl := h.len
    obtain rfl : j = i := by omega
    have h1 := num_drop (ds := L) (p := j) hj
    have h2 := num_split L j
    have hx := num_lt hX
    have hy := num_lt hY
    have h3 : num X * num Y < 10 ^ j := by
      rw [hi, Nat.pow_add]
      exact Nat.mul_lt_mul'' hx hy
    have h4 := h.val
    have h5 : L.getD j 0 = d := by rw [List.getD_eq_getElem?_getD, hj']; rfl
    rw [h5] at h1
    rw [h1, Nat.mul_add] at h2
    by_cases hd0 : d ≤ 0
    · omega
    · have : 10 ^ j * 1 ≤ 10 ^ j * d.toNat := Nat.mul_le_mul_left _ (by omega)
      omega
end Go.Proofs.Ytpdjooeogpidhaa
