/- ascii's reference: Unhex, its first loop. -/
import Derived.Test.YtbbckpdpahkfkaaAscRe
namespace Go.Proofs.Ytbbckpdpahkfkaa
open Go.RowKit

def finU (ds : List Nat) (most : Int) : Int × List Nat := if most < (((ds.length + 1) / 2 : Nat) : Int) then (2, []) else (0, pairUp ds)
/-- The answer, when these values have been read and this text lies ahead. -/
def restU (ds t : List Nat) (most : Int) : Int × List Nat :=
  match cut1 t with
  | none => (4, [])
  | some b => match hexV b with
    | none => (4, [])
    | some es => finU (ds ++ es) most
theorem restU_start (t : List Nat) (most : Int) (h : ¬ (most < 0 ∨ 1048576 < most)) : unhexR t most = restU [] t most := by
  unfold unhexR restU finU
  rw [if_neg h]
  rfl
theorem restU_end (ds : List Nat) (most : Int) : restU ds [] most = (4, []) := rfl
theorem restU_stop (ds r : List Nat) (most : Int) : restU ds (62 :: r) most = finU ds most := by
  unfold restU
  rw [show cut1 (62 :: r) = some [] from rfl]
  show finU (ds ++ []) most = _
  rw [List.append_nil]
theorem restU_white (ds r : List Nat) (c : Nat) (most : Int) (hc : c ≠ 62) (hw : isW c = true) : restU ds (c :: r) most = restU ds r most := by
  unfold restU
  rw [cut1, if_neg hc]
  cases cut1 r with
  | none => rfl
  | some b =>
    show (match hexV (c :: b) with | none => _ | some es => _) = _
    rw [hexV, if_pos hw]
theorem restU_digit (ds r : List Nat) (c d : Nat) (most : Int) (hc : c ≠ 62) (hw : isW c = false) (hd : digM c = some d) : restU ds (c :: r) most = restU (ds ++ [d]) r most := by
  unfold restU
  rw [cut1, if_neg hc]
  cases cut1 r with
  | none => rfl
  | some b =>
    show (match hexV (c :: b) with | none => _ | some es => _) = _
    rw [hexV, if_neg (by rw [hw]; decide), hd]
    show (match (hexV b).map (d :: ·) with | none => _ | some es => _) = (match hexV b with | none => _ | some es => _)
    cases hexV b with
    | none => rfl
    | some es => show finU (ds ++ d :: es) most = finU (ds ++ [d] ++ es) most; rw [List.append_assoc]; rfl
theorem restU_bad (ds r : List Nat) (c : Nat) (most : Int) (hc : c ≠ 62) (hw : isW c = false) (hd : digM c = none) : restU ds (c :: r) most = (4, []) := by
  unfold restU
  rw [cut1, if_neg hc]
  cases cut1 r with
  | none => rfl
  | some b =>
    show (match hexV (c :: b) with | none => _ | some es => _) = _
    rw [hexV, if_neg (by rw [hw]; decide), hd]
theorem digM_white (c d : Nat) (h : digM c = some d) : isW c = false ∧ d < 16 := by
  unfold digM at h
  split at h
  · injection h with h; exact ⟨by unfold isW; simp; omega, by omega⟩
  · split at h
    · injection h with h; exact ⟨by unfold isW; simp; omega, by omega⟩
    · split at h
      · injection h with h; exact ⟨by unfold isW; simp; omega, by omega⟩
      · cases h
def padU (ds : List Nat) : List Nat := if ds.length % 2 = 1 then ds ++ [0] else ds
theorem pairUp_padU (ds : List Nat) : pairUp (padU ds) = pairUp ds ∧ (padU ds).length = 2 * (pairUp ds).length ∧ (pairUp ds).length = (ds.length + 1) / 2 := by
  have key : ∀ n (ds : List Nat), ds.length ≤ n → pairUp (padU ds) = pairUp ds ∧ (padU ds).length = 2 * (pairUp ds).length ∧ (pairUp ds).length = (ds.length + 1) / 2 := by
    intro n
    induction n with
    | zero => intro ds h; obtain rfl : ds = [] := List.length_eq_zero_iff.1 (by omega); exact ⟨rfl, rfl, rfl⟩
    | succ n ih =>
      intro ds h
      match ds with
      | [] => exact ⟨rfl, rfl, rfl⟩
      | [a] => exact ⟨by simp [padU, pairUp], rfl, by simp [pairUp]⟩
      | a :: b :: r =>
        have h1 := ih r (by simp at h; omega)
        have e : padU (a :: b :: r) = a :: b :: padU r := by
          unfold padU
          simp only [List.length_cons]
          by_cases hp : r.length % 2 = 1
          · rw [if_pos hp, if_pos (by omega)]; rfl
          · rw [if_neg hp, if_neg (by omega)]
        rw [e]
        simp only [pairUp, List.length_cons]
        exact ⟨by rw [h1.1], by omega, by omega⟩
  exact key _ ds (Nat.le_refl _)
theorem pairUp_at (ds : List Nat) (k x y : Nat) (hx : ds[2 * k]? = some x) (hy : ds[2 * k + 1]? = some y) : (pairUp ds)[k]? = some (x * 16 + y) := by
  induction k generalizing ds with
  | zero =>
    match ds, hx, hy with
    | a :: b :: r, hx, hy => simp at hx hy; subst hx hy; rfl
  | succ k ih =>
    match ds, hx, hy with
    | a :: b :: r, hx, hy =>
      rw [show 2 * (k + 1) = 2 * k + 1 + 1 by omega] at hx hy
      simp only [List.getElem?_cons_succ] at hx hy
      simp only [pairUp, List.getElem?_cons_succ]
      exact ih r hx hy
end Go.Proofs.Ytbbckpdpahkfkaa
