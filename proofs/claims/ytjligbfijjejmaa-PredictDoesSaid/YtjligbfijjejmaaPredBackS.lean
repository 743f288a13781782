/- What was done is undone, and what was undone is done: of what Undo and Do answer. -/
import Derived.Test.YtjligbfijjejmaaPredBackM
namespace Go.Proofs.Ytjligbfijjejmaa

theorem undoS_fail {p : PaV} {bs : List Nat} {G : Int} {Z : List Nat} (h : undoS p bs = (G, Z)) (hG : G ≠ 0) : Z = [] := by
  unfold undoS at h
  split at h
  · cases h; rfl
  · split at h
    · cases h; rfl
    · split at h
      · cases h; exact absurd rfl hG
      · split at h
        · cases h; rfl
        · split at h
          · cases h; rfl
          · cases h; exact absurd rfl hG
theorem doS_back {p : PaV} {tag : Int} {bs X : List Nat} (hb : ∀ x ∈ bs, x < 256) (hl : bs.length ≤ 2000) (h : doS p tag bs = (0, X)) : undoS p X = (0, bs) := by
  unfold doS at h
  split at h
  · rename_i hE
    injection h with h _
    exact absurd h hE
  rename_i hE
  split at h
  · injection h with h _
    cases h
  rename_i ht
  split at h
  · injection h with h _
    cases h
  split at h
  · rename_i h1
    injection h with _ h
    subst h
    unfold undoS
    rw [if_neg hE, if_neg (by omega), if_pos h1]
  rename_i h1
  split at h
  · injection h with h _
    cases h
  rename_i hmod
  injection h with _ h
  have hok := (PaV.E_zero (by simpa using hE)).1
  have hn := hok.n_is.2
  have hs := hok.s_is.2
  have hmod : bs.length % p.n = 0 := by simpa using hmod
  have hdiv : bs.length / p.n * p.n = bs.length := Nat.div_mul_cancel (Nat.dvd_of_mod_eq_zero hmod)
  have hdle : bs.length / p.n ≤ bs.length := Nat.div_le_self _ _
  have hXl : X.length = bs.length / p.n * (headM (decide (10 ≤ p.pr)) + p.n) := by rw [← h, doN_len]
  have hH1 : headM (decide (10 ≤ p.pr)) ≤ 1 := by cases decide (10 ≤ p.pr) <;> simp [headM]
  have hXb : X.length ≤ 4000 := by
    rw [hXl, Nat.mul_add, hdiv]
    have := Nat.mul_le_mul (Nat.le_refl (bs.length / p.n)) hH1
    omega
  have hh : headM (decide (10 ≤ p.pr)) = 0 ∧ tagOf p tag = 1 ∨ headM (decide (10 ≤ p.pr)) = 1 ∧ tagOf p tag ≤ 4 := by
    unfold tagOf
    cases decide (10 ≤ p.pr)
    · exact .inl ⟨rfl, rfl⟩
    · refine .inr ⟨rfl, ?_⟩
      simp
      omega
  have hU := undoN_do hh hs.1 hb (m := bs.length / p.n) (n := p.n) (by omega) (bs.length / p.n) (Nat.le_refl _)
  rw [h, hdiv, List.take_length] at hU
  unfold undoS
  rw [if_neg hE, if_neg (by omega), if_neg h1, if_neg (by rw [hXl, Nat.mul_mod_left]; simp), hXl, Nat.mul_div_cancel _ (by omega), hU]
theorem undoS_back {p : PaV} {bs Z : List Nat} {T : Nat} (hT : T ≤ 4) (hb : ∀ x ∈ bs, x < 256) (hl : bs.length ≤ 2000) (h : undoS p bs = (0, Z)) :
    p.Ok ∧ ∃ W, doS p T Z = (0, W) ∧ ((2 < p.pr → ∀ k, k * (p.n + 1) < bs.length → bs.getD (k * (p.n + 1)) 0 = T) → W = bs) := by
  unfold undoS at h
  split at h
  · rename_i hE
    injection h with h _
    exact absurd h hE
  rename_i hE
  have hok := (PaV.E_zero (by simpa using hE)).1
  refine ⟨hok, ?_⟩
  split at h
  · injection h with h _
    cases h
  split at h
  · rename_i h1
    injection h with _ h
    subst h
    refine ⟨bs, ?_, fun _ => rfl⟩
    unfold doS
    rw [if_neg hE, if_neg (by omega), if_neg (by omega), if_pos h1]
  rename_i h1
  split at h
  · injection h with h _
    cases h
  rename_i hmod
  split at h
  · injection h with h _
    cases h
  rename_i o ho
  injection h with _ h
  subst h
  have hn := hok.n_is.2
  have hs := hok.s_is.2
  have hmod : bs.length % (headM (decide (10 ≤ p.pr)) + p.n) = 0 := by simpa using hmod
  have hdiv : bs.length / (headM (decide (10 ≤ p.pr)) + p.n) * (headM (decide (10 ≤ p.pr)) + p.n) = bs.length := Nat.div_mul_cancel (Nat.dvd_of_mod_eq_zero hmod)
  have hh : headM (decide (10 ≤ p.pr)) = 0 ∧ tagOf p T = 1 ∨ headM (decide (10 ≤ p.pr)) = 1 := by
    unfold tagOf
    cases decide (10 ≤ p.pr)
    · exact .inl ⟨rfl, rfl⟩
    · exact .inr rfl
  have hU := undoN_back hh hs.1 hb (m := bs.length / (headM (decide (10 ≤ p.pr)) + p.n)) (n := p.n) (by omega) _ o (Nat.le_refl _) ho
  obtain ⟨hol, -, hW⟩ := hU
  have hle : o.length ≤ bs.length := by
    rw [hol]
    exact Nat.le_trans (Nat.mul_le_mul_left _ (Nat.le_add_left _ _)) (Nat.le_of_eq hdiv)
  refine ⟨doN (headM (decide (10 ≤ p.pr))) p.n p.s (tagOf p T) o (bs.length / (headM (decide (10 ≤ p.pr)) + p.n)), ?_, fun htag => ?_⟩
  · unfold doS
    rw [if_neg hE, if_neg (by omega), if_neg (by omega), if_neg h1, if_neg (by rw [hol, Nat.mul_mod_left]; simp), hol, Nat.mul_div_cancel _ (by omega)]
  · rw [hW (fun j hj h10 => ?_) _ (Nat.le_refl _), hdiv, List.take_length]
    have hpr : 10 ≤ p.pr := by
      by_cases e : 10 ≤ p.pr
      · exact e
      · rw [decide_eq_false e] at h10
        simp [headM] at h10
    have hj2 : j * (headM (decide (10 ≤ p.pr)) + p.n) < bs.length := by
      rw [← hdiv]
      exact Nat.mul_lt_mul_of_pos_right hj (by omega)
    rw [h10, Nat.add_comm 1] at hj2 ⊢
    rw [htag (by omega) j hj2]
    unfold tagOf
    rw [decide_eq_true hpr]
    simp
end Go.Proofs.Ytjligbfijjejmaa
