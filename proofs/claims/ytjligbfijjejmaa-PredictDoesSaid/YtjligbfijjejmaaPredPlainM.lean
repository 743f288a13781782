/- Rows of noughts, done by any tag: on lists. -/
import Derived.Test.YtjligbfijjejmaaPredBackS
namespace Go.Proofs.Ytjligbfijjejmaa
open Go.RowKit

theorem zrow_getD (k j : Nat) : (List.replicate k 0).getD j 0 = 0 := by
  rw [List.getD_eq_getElem?_getD, List.getElem?_replicate]
  split <;> rfl
theorem zrowM (K n m : Nat) (h : (m + 1) * n ≤ K) : rowM (List.replicate K 0) n m = List.replicate n 0 := by
  rw [Nat.succ_mul] at h
  unfold rowM
  rw [List.drop_replicate, List.take_replicate]
  congr 1
  omega
theorem zfore (T : Nat) : foreM T 0 0 0 = 0 := by
  unfold foreM nearM
  repeat' split
  all_goals rfl
theorem zback {l : List Nat} (h : ∀ j, l.getD j 0 = 0) (k s : Nat) : backM l k s = 0 := by
  unfold backM
  split
  · rfl
  · exact h _
theorem zdRow {T s n : Nat} {up : List Nat} (h : ∀ j, up.getD j 0 = 0) : ∀ k, dRow T s up (List.replicate n 0) k = List.replicate k 0
  | 0 => rfl
  | k + 1 => by
    rw [dRow, zdRow h k, zback (zrow_getD n), zback h, h, zrow_getD, zfore, List.replicate_succ']
def zM (n T i : Nat) : Nat := if i % (n + 1) = 0 then T else 0
theorem zdoN {n s T M : Nat} : ∀ m, m ≤ M → ∀ i, i < m * (1 + n) → (doN 1 n s T (List.replicate (M * n) 0) m)[i]? = some (zM n T i)
  | 0, _, i, h => absurd h (by omega)
  | m + 1, hm, i, h => by
    have hl := doN_len 1 n s T (List.replicate (M * n) 0) m
    have h3 : (m + 1) * n ≤ M * n := Nat.mul_le_mul_right _ hm
    have hup : ∀ j, (upD (List.replicate (M * n) 0) n m).getD j 0 = 0 := by
      cases m with
      | zero => intro j; rfl
      | succ m =>
        intro j
        rw [show upD (List.replicate (M * n) 0) n (m + 1) = rowM (List.replicate (M * n) 0) n m from rfl, zrowM _ _ _ (by
          have : (m + 1) * n ≤ M * n := Nat.mul_le_mul_right _ (by omega)
          exact this)]
        exact zrow_getD _ _
    rw [doN, zrowM _ _ _ h3, zdRow hup]
    by_cases hi : i < m * (1 + n)
    · rw [List.getElem?_append_left (by omega), zdoN m (by omega) i hi]
    · obtain ⟨j, rfl⟩ : ∃ j, i = m * (1 + n) + j := ⟨i - m * (1 + n), by omega⟩
      rw [Nat.succ_mul] at h
      have hmod : (m * (1 + n) + j) % (n + 1) = j := by
        rw [Nat.add_comm 1, Nat.add_comm, Nat.add_mul_mod_self_right, Nat.mod_eq_of_lt (by omega)]
      rw [List.getElem?_append_right (by omega), hl, Nat.add_sub_cancel_left]
      unfold zM
      rw [hmod]
      cases j with
      | zero => simp
      | succ q =>
        rw [if_neg (by omega)]
        have e1 : ∀ d : List Nat, (List.replicate 1 T ++ d)[q + 1]? = d[q]? := fun d => by simp [List.replicate_succ]
        rw [e1, List.getElem?_replicate, if_pos (by omega)]
theorem ok_ten {p : PaV} (h : p.Ok) : PaV.Ok ⟨10, p.co, p.bi, p.cl⟩ ∧ PaV.Ok ⟨1, p.co, p.bi, p.cl⟩ := ⟨⟨.inr (.inr ⟨by show (10 : Int) ≤ 10; omega, by show (10 : Int) ≤ 15; omega⟩), h.2⟩, ⟨.inl rfl, h.2⟩⟩
theorem plain_undo {p : PaV} (h : p.Ok) {bs : List Nat} (hl : bs.length ≤ 2000) : undoS ⟨1, p.co, p.bi, p.cl⟩ bs = (0, bs) := by
  have hE : PaV.E ⟨1, p.co, p.bi, p.cl⟩ = 0 := by unfold PaV.E; rw [if_pos (ok_ten h).2, if_neg (by simp)]
  unfold undoS
  rw [if_neg (by simp [hE]), if_neg (by omega), if_pos rfl]
theorem plain_do {p : PaV} (h : p.Ok) (hn : p.n ≤ 200) {M T : Nat} (hM : M ≤ 20) (hT : T ≤ 4) :
    doS ⟨10, p.co, p.bi, p.cl⟩ T (List.replicate (M * p.n) 0) = (0, doN 1 p.n p.s T (List.replicate (M * p.n) 0) M) := by
  have hE : PaV.E ⟨10, p.co, p.bi, p.cl⟩ = 0 := by unfold PaV.E; rw [if_pos (ok_ten h).1, if_neg (by simp)]
  have hle : M * p.n ≤ 20 * 200 := Nat.mul_le_mul hM hn
  have h1 := h.n_is.2
  unfold doS
  rw [if_neg (by simp [hE]), if_neg (by omega), List.length_replicate, if_neg (by omega), if_neg (by simp), show PaV.n ⟨10, p.co, p.bi, p.cl⟩ = p.n from rfl, if_neg (by simp), Nat.mul_div_cancel _ (by omega)]
  simp [headM, tagOf]
  rfl
theorem zero_bytes (w : World) (K : Nat) (hK : K ≤ 100000000) : Bytes (w.alloc (.cells (bvs (List.replicate K 0)).toArray 5)) (some ⟨w.heap.size, 0, none⟩) K K (List.replicate K 0) := by
  have := bytes_lit w (List.replicate K 0) (fun b hb => by rw [List.eq_of_mem_replicate hb]; omega) (by simpa using hK)
  simpa using this
def rowV (p : PaV) : Int := if p.Ok then (p.n : Int) else 0
theorem row_any (p : PaV) (w : World) : Calls Try.prog 15 #[p.val] w fun e w' => e = .returned (.int .i64 (rowV p)) ∧ Below w.heap.size w w' := by
  unfold rowV
  by_cases h : p.Ok
  · rw [if_pos h]; exact row_ok p w h
  · rw [if_neg h]; exact row_bad p w h
end Go.Proofs.Ytjligbfijjejmaa
