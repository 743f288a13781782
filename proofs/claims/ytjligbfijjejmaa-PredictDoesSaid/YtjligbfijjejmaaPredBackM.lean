/- What was done is undone, and what was undone is done: on lists. -/
import Derived.Test.YtjligbfijjejmaaPredW
namespace Go.Proofs.Ytjligbfijjejmaa

theorem rowM_len {b : List Nat} {n m : Nat} (h : (m + 1) * n ≤ b.length) : (rowM b n m).length = n := by
  rw [Nat.succ_mul] at h
  unfold rowM
  rw [List.length_take, List.length_drop]
  omega
theorem rowM_byte {b : List Nat} {n m : Nat} (h : ∀ x ∈ b, x < 256) : ∀ x ∈ rowM b n m, x < 256 := fun x hx => h x (List.mem_of_mem_drop (List.mem_of_mem_take hx))
theorem upD_byte {b : List Nat} {n : Nat} (h : ∀ x ∈ b, x < 256) : ∀ m, ∀ x ∈ upD b n m, x < 256
  | 0, x, hx => by simp [upD] at hx
  | m + 1, x, hx => rowM_byte h x hx
theorem take_rows {b : List Nat} {n m : Nat} : b.take ((m + 1) * n) = b.take (m * n) ++ rowM b n m := by
  rw [Nat.succ_mul, List.take_add]
  rfl
theorem upU_take {b : List Nat} {n : Nat} : ∀ m, upU (b.take (m * n)) n m = upD b n m
  | 0 => rfl
  | m + 1 => by
    show (b.take ((m + 1) * n)).drop (m * n) = rowM b n m
    unfold rowM
    rw [List.drop_take, Nat.succ_mul, Nat.add_sub_cancel_left]
/-- The k-th of the rows that Do tells. -/
theorem doN_row {h n s T : Nat} {b : List Nat} {k : Nat} : ∀ m, k < m → rowM (doN h n s T b m) (h + n) k = List.replicate h T ++ dRow T s (upD b n k) (rowM b n k) n
  | 0, hk => absurd hk (by omega)
  | m + 1, hk => by
    have hl := doN_len h n s T b m
    have hd := dRow_len T s (upD b n m) (rowM b n m) n
    by_cases hkm : k < m
    · have ih := doN_row (h := h) (n := n) (s := s) (T := T) (b := b) m hkm
      have h1 : (k + 1) * (h + n) ≤ m * (h + n) := Nat.mul_le_mul_right _ hkm
      rw [Nat.succ_mul] at h1
      unfold rowM at ih ⊢
      rw [doN, List.drop_append_of_le_length (by omega), List.take_append_of_le_length (by rw [List.length_drop]; omega), ih]
    · obtain rfl : k = m := by omega
      unfold rowM
      rw [doN, List.drop_append_of_le_length (by omega), List.drop_of_length_le (by omega), List.nil_append, List.take_of_length_le (by simp [hd])]
      rfl
theorem undoN_do {h n s T : Nat} {b : List Nat} {m : Nat} (hh : h = 0 ∧ T = 1 ∨ h = 1 ∧ T ≤ 4) (hs : 1 ≤ s) (hb : ∀ x ∈ b, x < 256) (hm : m * n ≤ b.length) :
    ∀ k, k ≤ m → undoN h n s (doN h n s T b m) k = some (b.take (k * n))
  | 0, _ => by simp [undoN]
  | k + 1, hk => by
    have h1 : (k + 1) * n ≤ m * n := Nat.mul_le_mul_right _ hk
    have ht : tagM h (List.replicate h T ++ dRow T s (upD b n k) (rowM b n k) n) = T := by
      unfold tagM
      rcases hh with ⟨rfl, rfl⟩ | ⟨rfl, _⟩
      · simp
      · simp [List.replicate_succ]
    have hd : (List.replicate h T ++ dRow T s (upD b n k) (rowM b n k) n).drop h = dRow T s (upD b n k) (rowM b n k) n := by
      rw [List.drop_append_of_le_length (by simp), List.drop_of_length_le (by simp), List.nil_append]
    rw [undoN, undoN_do hh hs hb hm k (by omega)]
    simp only
    rw [doN_row m (by omega), ht, hd, if_neg (by omega), upU_take, undo_do hs (upD_byte hb k) (rowM_byte hb) (rowM_len (by omega)) n (Nat.le_refl _), take_rows, List.take_of_length_le (l := rowM b n k) (by rw [rowM_len (by omega)]; exact Nat.le_refl _)]
theorem undoN_back {h n s T : Nat} {b : List Nat} {m : Nat} (hh : h = 0 ∧ T = 1 ∨ h = 1) (hs : 1 ≤ s) (hb : ∀ x ∈ b, x < 256) (hm : m * (h + n) ≤ b.length) :
    ∀ k o, k ≤ m → undoN h n s b k = some o → o.length = k * n ∧ (∀ x ∈ o, x < 256) ∧ ((∀ j, j < k → h = 1 → b.getD (j * (h + n)) 0 = T) → ∀ k', k' ≤ k → doN h n s T o k' = b.take (k' * (h + n)))
  | 0, o, _, ho => by
    obtain rfl : o = [] := by simpa [undoN] using ho.symm
    refine ⟨by simp, by simp, fun _ k' hk' => ?_⟩
    obtain rfl : k' = 0 := by omega
    simp [doN]
  | k + 1, o, hk, ho => by
    have h1 : (k + 1) * (h + n) ≤ m * (h + n) := Nat.mul_le_mul_right _ hk
    rw [undoN] at ho
    split at ho
    · cases ho
    · rename_i o' ho'
      obtain ⟨hl, hby, hdo⟩ := undoN_back hh hs hb hm k o' (by omega) ho'
      by_cases ht4 : 4 < tagM h (rowM b (h + n) k)
      · rw [if_pos ht4] at ho; cases ho
      · rw [if_neg ht4] at ho
        injection ho with ho
        have hul := uRow_len (tagM h (rowM b (h + n) k)) s (upU o' n k) ((rowM b (h + n) k).drop h) n
        have hol : o.length = (k + 1) * n := by rw [← ho, List.length_append, hul, hl, Nat.succ_mul]
        have hob : ∀ x ∈ o, x < 256 := by
          intro x hx
          rw [← ho] at hx
          rcases List.mem_append.1 hx with e | e
          · exact hby x e
          · exact uRow_byte _ _ _ _ n x e
        refine ⟨hol, hob, fun htag => ?_⟩
        have hpre : ∀ k', k' ≤ k → doN h n s T o k' = doN h n s T o' k' := by
          intro k'
          induction k' with
          | zero => intro _; rfl
          | succ q ih =>
            intro hq
            have hrow : ∀ j, j < k → rowM o n j = rowM o' n j := fun j hj => by
              have h2 : (j + 1) * n ≤ k * n := Nat.mul_le_mul_right _ hj
              rw [Nat.succ_mul] at h2
              unfold rowM
              rw [← ho, List.drop_append_of_le_length (by omega), List.take_append_of_le_length (by rw [List.length_drop]; omega)]
            have hup : upD o n q = upD o' n q := by
              cases q with
              | zero => rfl
              | succ q => exact hrow q (by omega)
            rw [doN, doN, ih (by omega), hrow q (by omega), hup]
        intro k' hk'
        by_cases hkk : k' ≤ k
        · rw [hpre k' hkk]
          exact hdo (fun j hj => htag j (by omega)) k' hkk
        · obtain rfl : k' = k + 1 := by omega
          have hrl := rowM_len (b := b) (n := h + n) (m := k) (by omega)
          have hT : tagM h (rowM b (h + n) k) = T := by
            unfold tagM
            rcases hh with ⟨rfl, rfl⟩ | rfl
            · simp
            · rw [if_neg (by omega)]
              have := htag k (by omega) rfl
              rw [← this]
              unfold rowM
              rw [List.getD_eq_getElem?_getD, List.getD_eq_getElem?_getD, List.getElem?_take, if_pos (by omega), List.getElem?_drop]
              rfl
          have hrow : rowM o n k = uRow T s (upU o' n k) ((rowM b (h + n) k).drop h) n := by
            unfold rowM
            rw [← ho, List.drop_append_of_le_length (by omega), List.drop_of_length_le (by omega), List.nil_append, hT, List.take_of_length_le (by rw [uRow_len]; exact Nat.le_refl _)]
            rfl
          have hup : upD o n k = upU o' n k := by
            have e : o' = o.take (k * n) := by rw [← ho, ← hl, List.take_left']; rfl
            rw [e, upU_take]
          have hub : ∀ x ∈ upU o' n k, x < 256 := by rw [← hup]; exact upD_byte hob k
          have hdr : ∀ x ∈ (rowM b (h + n) k).drop h, x < 256 := fun x hx => rowM_byte hb x (List.mem_of_mem_drop hx)
          rw [doN, hpre k (Nat.le_refl _), hdo (fun j hj => htag j (by omega)) k (Nat.le_refl _), hup, hrow, take_rows,
            do_undo hs hub hdr (by rw [List.length_drop, hrl]; omega) n (Nat.le_refl _), List.take_of_length_le (l := (rowM b (h + n) k).drop h) (by rw [List.length_drop, hrl]; omega)]
          congr 1
          rcases hh with ⟨rfl, rfl⟩ | rfl
          · simp
          · have h3 : (rowM b (1 + n) k).drop 1 = (rowM b (1 + n) k).tail := by simp
            have h4 : tagM 1 (rowM b (1 + n) k) = (rowM b (1 + n) k).getD 0 0 := by unfold tagM; rw [if_neg (by omega)]
            rw [h4] at hT
            cases hq : rowM b (1 + n) k with
            | nil => rw [hq] at hrl; simp at hrl; omega
            | cons y l =>
              rw [hq] at hT
              simp at hT hrl
              simp [hT]
end Go.Proofs.Ytjligbfijjejmaa
