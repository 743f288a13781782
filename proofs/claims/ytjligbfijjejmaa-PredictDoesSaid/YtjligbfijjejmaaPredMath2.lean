/- Rows of bytes that are undone in place. No program stands in it. -/
import Derived.Test.YtjligbfijjejmaaPredMath
namespace Go.Proofs.Ytjligbfijjejmaa

theorem mid_getD {T s : Nat} {up r : List Nat} {i : Nat} : (uRow T s up r i ++ r.drop i).getD i 0 = r.getD i 0 := by
  rw [List.getD_eq_getElem?_getD, List.getElem?_append_right (by rw [uRow_len]; exact Nat.le_refl _), uRow_len, List.getElem?_drop, List.getD_eq_getElem?_getD]
  simp
theorem mid_set {T s : Nat} {up r o : List Nat} {i z : Nat} (h : i < r.length) (hz : z = (r.getD i 0 + foreM T (backM (uRow T s up r i) i s) (up.getD i 0) (backM up i s)) % 256) :
    (o ++ (uRow T s up r i ++ r.drop i)).set (o.length + i) z = o ++ (uRow T s up r (i + 1) ++ r.drop (i + 1)) := by
  have e1 : r.drop i = r.getD i 0 :: r.drop (i + 1) := by
    rw [List.drop_eq_getElem_cons h, List.getD_eq_getElem?_getD, List.getElem?_eq_getElem h]; rfl
  rw [List.set_append_right _ _ (by omega), Nat.add_sub_cancel_left, List.set_append_right _ _ (by rw [uRow_len]; exact Nat.le_refl _), uRow_len, Nat.sub_self, e1, List.set_cons_zero, uRow, ← hz]
  simp
theorem mid_back {T s : Nat} {up r : List Nat} {i : Nat} (hs : 1 ≤ s) : backM (uRow T s up r i ++ r.drop i) i s = backM (uRow T s up r i) i s := backM_app (by rw [uRow_len]; omega)
theorem up_back {U V : List Nat} (h : ∀ k, U.getD k 0 = V.getD k 0) (i s : Nat) : backM U i s = backM V i s := by
  unfold backM; split <;> first | rfl | exact h _
theorem mid_len {T s : Nat} {up r o : List Nat} {i n : Nat} (h : r.length = n) (hi : i ≤ n) : (o ++ (uRow T s up r i ++ r.drop i)).length = o.length + n := by
  simp only [List.length_append, uRow_len, List.length_drop]
  omega
theorem doN_len (h n s tag : Nat) (b : List Nat) : ∀ m, (doN h n s tag b m).length = m * (h + n)
  | 0 => by simp [doN]
  | m + 1 => by
    rw [doN, List.length_append, List.length_append, List.length_replicate, dRow_len, doN_len h n s tag b m, Nat.add_mul, Nat.one_mul]
end Go.Proofs.Ytjligbfijjejmaa
