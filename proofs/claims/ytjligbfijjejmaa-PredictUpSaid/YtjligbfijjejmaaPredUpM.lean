/- What Do answers of a row that stands again and again: on lists. -/
import Derived.Test.YtjligbfijjejmaaPredW
namespace Go.Proofs.Ytjligbfijjejmaa

def repB (bs : List Nat) : Nat → List Nat
  | 0 => []
  | k + 1 => repB bs k ++ bs
theorem repB_len (bs : List Nat) : ∀ k, (repB bs k).length = k * bs.length
  | 0 => by simp [repB]
  | k + 1 => by simp [repB, repB_len bs k, Nat.succ_mul]
theorem repB_row (bs : List Nat) (k : Nat) : ∀ M, k < M → rowM (repB bs M) bs.length k = bs
  | 0, h => absurd h (by omega)
  | M + 1, h => by
    have hl := repB_len bs M
    by_cases hk : k < M
    · have ih := repB_row bs k M hk
      have h1 : (k + 1) * bs.length ≤ M * bs.length := Nat.mul_le_mul_right _ hk
      rw [Nat.succ_mul] at h1
      unfold rowM at ih ⊢
      rw [repB, List.drop_append_of_le_length (by omega), List.take_append_of_le_length (by rw [List.length_drop]; omega), ih]
    · obtain rfl : k = M := by omega
      unfold rowM
      rw [repB, List.drop_append_of_le_length (by omega), List.drop_of_length_le (by omega), List.nil_append, List.take_length]
theorem dRow_first {s : Nat} {bs : List Nat} (hb : ∀ x ∈ bs, x < 256) : ∀ k, k ≤ bs.length → dRow 2 s [] bs k = bs.take k
  | 0, _ => by simp [dRow]
  | k + 1, h => by
    have h2 := getD_lt hb k
    rw [dRow, dRow_first hb k (by omega), take_snoc (by omega)]
    simp [foreM]
    rw [List.getD_eq_getElem?_getD] at h2
    omega
theorem dRow_same {s : Nat} {bs : List Nat} : ∀ k, dRow 2 s bs bs k = List.replicate k 0
  | 0 => by simp [dRow]
  | k + 1 => by
    rw [dRow, dRow_same k, List.replicate_succ']
    simp [foreM]
def wantM (bs : List Nat) (i : Nat) : Nat := if i % (bs.length + 1) = 0 then 2 else if i < bs.length + 1 then bs.getD (i % (bs.length + 1) - 1) 0 else 0
theorem up_want {bs : List Nat} (hb : ∀ x ∈ bs, x < 256) (s M : Nat) : ∀ m, m ≤ M → ∀ i, i < m * (1 + bs.length) → (doN 1 bs.length s 2 (repB bs M) m)[i]? = some (wantM bs i)
  | 0, _, i, h => absurd h (by omega)
  | m + 1, hm, i, h => by
    have hl := doN_len 1 bs.length s 2 (repB bs M) m
    rw [doN, repB_row bs m M (by omega)]
    by_cases hi : i < m * (1 + bs.length)
    · rw [List.getElem?_append_left (by omega), up_want hb s M m (by omega) i hi]
    · obtain ⟨j, rfl⟩ : ∃ j, i = m * (1 + bs.length) + j := ⟨i - m * (1 + bs.length), by omega⟩
      rw [Nat.succ_mul] at h
      have hj : j < 1 + bs.length := by omega
      have hmod : (m * (1 + bs.length) + j) % (bs.length + 1) = j := by
        rw [Nat.add_comm 1, Nat.add_comm, Nat.add_mul_mod_self_right, Nat.mod_eq_of_lt (by omega)]
      rw [List.getElem?_append_right (by omega), hl, Nat.add_sub_cancel_left]
      unfold wantM
      rw [hmod]
      cases j with
      | zero => simp
      | succ q =>
        rw [if_neg (by omega)]
        have e1 : ∀ d : List Nat, (List.replicate 1 2 ++ d)[q + 1]? = d[q]? := fun d => by simp [List.replicate_succ]
        rw [e1]
        cases m with
        | zero =>
          rw [if_pos (by omega), show upD (repB bs M) bs.length 0 = [] from rfl, dRow_first hb _ (Nat.le_refl _), List.take_length, Nat.add_sub_cancel, List.getElem?_eq_getElem (by omega), List.getD_eq_getElem?_getD, List.getElem?_eq_getElem (by omega)]
          rfl
        | succ m =>
          have : 1 + bs.length ≤ (m + 1) * (1 + bs.length) := Nat.le_mul_of_pos_left _ (by omega)
          rw [if_neg (by omega), show upD (repB bs M) bs.length (m + 1) = rowM (repB bs M) bs.length m from rfl, repB_row bs m M (by omega), dRow_same, List.getElem?_replicate, if_pos (by omega)]
theorem up_ok {bs : List Nat} (h1 : 1 ≤ bs.length) (h2 : bs.length ≤ 200) {M : Nat} (hM : M ≤ 20) :
    doS ⟨12, 1, 8, bs.length⟩ 2 (repB bs M) = (0, doN 1 bs.length 1 2 (repB bs M) M) := by
  have hok : PaV.Ok ⟨12, 1, 8, bs.length⟩ := by
    refine ⟨.inr (.inr ⟨?_, ?_⟩), ?_, ?_, ?_, ?_, ?_⟩ <;> simp [PaV.BitsOk] <;> omega
  have hE : PaV.E ⟨12, 1, 8, bs.length⟩ = 0 := by unfold PaV.E; rw [if_pos hok, if_neg (by simp)]
  have hn : PaV.n ⟨12, 1, 8, bs.length⟩ = bs.length := by unfold PaV.n; simp; omega
  have hs : PaV.s ⟨12, 1, 8, bs.length⟩ = 1 := by unfold PaV.s; simp
  have hl := repB_len bs M
  have hle : M * bs.length ≤ 20 * 200 := Nat.mul_le_mul hM h2
  unfold doS
  rw [if_neg (by simp [hE]), if_neg (by omega), if_neg (by omega), if_neg (by simp), hn, hs, hl, if_neg (by simp), Nat.mul_div_cancel _ (by omega)]
  simp [headM, tagOf]
end Go.Proofs.Ytjligbfijjejmaa
