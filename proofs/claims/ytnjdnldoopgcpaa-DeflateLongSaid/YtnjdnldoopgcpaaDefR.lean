/- deflate: one byte often; no row is longer, nor nearer: pure. -/
import Derived.Test.YtnjdnldoopgcpaaDefK
namespace Go.Proofs.Ytnjdnldoopgcpaa
open Go.RowKit

theorem bestD_max {b : List Nat} {i : Nat} : ∀ K, ∀ j, 1 ≤ j → j ≤ K → (comD b (i - j) i (mostD b i) < 3 ∨ comD b (i - j) i (mostD b i) ≤ (bestD b i K).1) ∧ (comD b (i - j) i (mostD b i) = (bestD b i K).1 → 0 < (bestD b i K).1 → (bestD b i K).2 ≤ j)
  | 0, j, h1, h2 => by omega
  | K + 1, j, h1, h2 => by
    have hin := bestD_max (b := b) (i := i) K
    unfold bestD
    by_cases hc : 3 ≤ comD b (i - (K + 1)) i (mostD b i) ∧ (bestD b i K).1 < comD b (i - (K + 1)) i (mostD b i)
    · rw [if_pos hc]
      by_cases e : j = K + 1
      · subst e
        exact ⟨.inr (Nat.le_refl _), fun _ _ => Nat.le_refl _⟩
      · obtain ⟨g1, -⟩ := hin j h1 (by omega)
        refine ⟨?_, fun h _ => ?_⟩
        · rcases g1 with g | g
          · exact .inl g
          · exact .inr (by show _ ≤ comD b (i - (K + 1)) i (mostD b i); omega)
        · have h' : comD b (i - j) i (mostD b i) = comD b (i - (K + 1)) i (mostD b i) := h
          rcases g1 with g | g <;> omega
    · rw [if_neg hc]
      by_cases e : j = K + 1
      · subst e
        refine ⟨?_, fun h h0 => ?_⟩
        · by_cases h3 : 3 ≤ comD b (i - (K + 1)) i (mostD b i)
          · exact .inr (by omega)
          · exact .inl (by omega)
        · exact bestD_back b i K h0
      · exact hin j h1 (by omega)
where bestD_back (b : List Nat) (i : Nat) : ∀ K, 0 < (bestD b i K).1 → (bestD b i K).2 ≤ K + 1
  | 0, h => by cases h
  | K + 1, h => by
    unfold bestD at h ⊢
    by_cases hc : 3 ≤ comD b (i - (K + 1)) i (mostD b i) ∧ (bestD b i K).1 < comD b (i - (K + 1)) i (mostD b i)
    · rw [if_pos hc]; show K + 1 ≤ K + 1 + 1; omega
    · rw [if_neg hc] at h ⊢
      have := bestD_back b i K h
      omega
/-- The head of the tokens from some place on. -/
theorem tok_step {b : List Nat} {l : List Tk} {k f pos : Nat} (h : l.drop k = tokGoD b f pos) (hk : k < l.length) (hf : b.length ≤ pos + f) :
    pos < b.length ∧ ∃ f', f = f' + 1 ∧ ((((foundD b pos).1 < 3 ∧ l[k]? = some ⟨(b.getD pos 0 : Nat), 0, 0⟩ ∧ l.drop (k + 1) = tokGoD b f' (pos + 1))) ∨ (3 ≤ (foundD b pos).1 ∧ l[k]? = some ⟨0, (foundD b pos).1, (foundD b pos).2⟩ ∧ l.drop (k + 1) = tokGoD b f' (pos + (foundD b pos).1))) := by
  have hne : tokGoD b f pos ≠ [] := by
    rw [← h]
    intro e
    have := List.drop_eq_nil_iff.1 e
    omega
  cases f with
  | zero => exact absurd rfl hne
  | succ f =>
    have hd : ∀ t r, l.drop k = t :: r → l[k]? = some t ∧ l.drop (k + 1) = r := fun t r e => by
      have e1 : l.drop k = l[k] :: l.drop (k + 1) := List.drop_eq_getElem_cons hk
      rw [e1] at e
      injection e with e2 e3
      exact ⟨by rw [List.getElem?_eq_getElem hk, e2], e3⟩
    rw [tokGoD] at h hne
    by_cases hp : b.length ≤ pos
    · rw [if_pos hp] at hne; exact absurd rfl hne
    rw [if_neg hp] at h
    refine ⟨by omega, f, rfl, ?_⟩
    by_cases h3 : (foundD b pos).1 < 3
    · rw [if_pos h3] at h
      obtain ⟨h4, h5⟩ := hd _ _ h
      exact .inl ⟨h3, h4, h5⟩
    · rw [if_neg h3] at h
      obtain ⟨h4, h5⟩ := hd _ _ h
      exact .inr ⟨by omega, h4, h5⟩
theorem tok_end {b : List Nat} {l : List Tk} {k f pos : Nat} (h : l.drop k = tokGoD b f pos) (hk : l.length ≤ k) (hf : b.length ≤ pos + f) (hp : pos ≤ b.length) : pos = b.length := by
  rw [List.drop_eq_nil_of_le hk] at h
  cases f with
  | zero => omega
  | succ f =>
    rw [tokGoD] at h
    by_cases hq : b.length ≤ pos
    · omega
    · rw [if_neg hq] at h
      split at h <;> cases h
/-- One byte often. -/
theorem rep_com {c n p i : Nat} (hpi : p ≤ i) : ∀ m, i + m ≤ n → comD (List.replicate n c) p i m = m
  | 0, _ => rfl
  | m + 1, h => by
    have hg : ∀ j, j < n → (List.replicate n c).getD j 0 = c := fun j hj => by
      rw [List.getD_eq_getElem?_getD, List.getElem?_replicate, if_pos hj]; rfl
    rw [comD, rep_com hpi m (by omega), hg (p + m) (by omega), hg (i + m) (by omega), if_pos ⟨rfl, rfl⟩]
theorem rep_found0 (c n : Nat) : (foundD (List.replicate n c) 0).1 < 3 := by show (0 : Nat) < 3; decide
theorem rep_found {c n i : Nat} (h0 : 0 < i) (hi : i < n) : (3 ≤ n - i → foundD (List.replicate n c) i = (min (n - i) 258, 1)) ∧ (n - i < 3 → (foundD (List.replicate n c) i).1 < 3) := by
  have hm : mostD (List.replicate n c) i = min (n - i) 258 := by unfold mostD; rw [List.length_replicate]; omega
  refine ⟨fun h3 => ?_, fun h3 => found_small (by rw [hm]; omega)⟩
  have h1 : bestD (List.replicate n c) i 1 = (min (n - i) 258, 1) := by
    rw [bestD, hm, rep_com (by omega) _ (by omega), if_pos ⟨by omega, by show 0 < _; omega⟩]
  unfold foundD
  obtain ⟨d, hd⟩ : ∃ d, min i 1024 = 1 + d := ⟨min i 1024 - 1, by omega⟩
  rw [hd, bestD_skip d (fun j _ _ => .inr (by rw [h1, hm]; exact comD_le _ _ _ _)), h1]
end Go.Proofs.Ytnjdnldoopgcpaa
