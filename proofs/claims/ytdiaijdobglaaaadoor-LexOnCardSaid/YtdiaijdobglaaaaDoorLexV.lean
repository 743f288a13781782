/- Two tokens printed, white and comments between, read again: pure. -/
import Derived.Test.YtdiaijdobglaaaaDoorLexU
namespace Go.Proofs.YtdiaijdobglaaaaDoor
open Go.RowKit

theorem gap_a (r : List Nat) : gapL (32 :: 37 :: 120 :: 10 :: r) = gapL r := rfl
theorem gap_b (r : List Nat) : gapL (10 :: 9 :: 37 :: 41 :: 13 :: r) = gapL r := rfl
theorem next_gap {l m : List Nat} (h : gapL l = gapL m) : nextL PN l = nextL PN m := by unfold nextL; rw [h]
theorem next_at {bs l q : List Nat} {t : TokV} {p : Int} {k : Nat} (hp : p = (k : Int)) (hk : k ≤ bs.length) (hd : bs.drop k = l) (hn : nextL PN l = (0, t, q)) : nextI bs p = (0, t, (bs.length : Int) - (q.length : Int)) := by
  subst hp
  unfold nextI
  rw [if_neg (by omega), show ((k : Int).toNat) = k by omega, hd, hn, if_pos rfl]
theorem end_tok {t : TokV} (h : validB t = true) (hk : t.kind = 0) : t = noTok := by
  obtain ⟨kind, m, s, l⟩ := t
  simp only at hk
  subst hk
  unfold validB at h
  rw [if_neg (by simp), if_neg (by simp), if_neg (by simp), if_neg (by simp), Bool.and_eq_true] at h
  obtain ⟨h1, h2⟩ := h
  have g1 : m = 0 ∧ s = 0 := of_decide_eq_true h1
  have g2 : (0 : Int) ≤ 0 ∧ (0 : Int) ≤ 8 ∧ l.length = 0 := of_decide_eq_true h2
  clear h1 h2
  obtain ⟨rfl, rfl⟩ := g1
  rw [List.eq_nil_of_length_eq_zero g2.2.2]
  rfl
theorem tail_ok {u : TokV} (h : validB u = true) (hb : ∀ c ∈ u.text, c < 256) : ∃ q, nextL PN (printT DN u ++ [32]) = (0, u, q) ∧ (q = [32] ∨ q = []) := by
  by_cases hk : u.kind = 0
  · rw [end_tok h hk]
    exact ⟨[], by rfl, .inr rfl⟩
  · exact ⟨[32], print_next h hb hk [] rfl, .inl rfl⟩
def backL (a b : List Nat) : List Nat := [32, 37, 120, 10] ++ a ++ [10, 9, 37, 41, 13] ++ b ++ [32]
theorem back_len (a b : List Nat) : (backL a b).length = a.length + b.length + 10 := by simp [backL]; omega
theorem back_one {t u : TokV} (ht : validB t = true) (hk : t.kind = 0) (hu : validB u = true) (hbu : ∀ c ∈ u.text, c < 256) : ∃ z9 : Int, nextI (backL (printT DN t) (printT DN u)) 0 = (0, u, z9) := by
  obtain ⟨q, hq, -⟩ := tail_ok hu hbu
  have hn : nextL PN (backL (printT DN t) (printT DN u)) = (0, u, q) := by
    rw [end_tok ht hk]
    have e : backL (printT DN noTok) (printT DN u) = 32 :: 37 :: 120 :: 10 :: 10 :: 9 :: 37 :: 41 :: 13 :: (printT DN u ++ [32]) := by
      simp [backL, show printT DN noTok = [] from rfl]
    rw [e, next_gap (gap_a _), next_gap (gap_b _), hq]
  exact ⟨_, next_at (k := 0) rfl (Nat.zero_le _) rfl hn⟩
theorem back_two {t u : TokV} (ht : validB t = true) (hbt : ∀ c ∈ t.text, c < 256) (hk : t.kind ≠ 0) (hu : validB u = true) (hbu : ∀ c ∈ u.text, c < 256) :
    ∃ p z9 : Int, nextI (backL (printT DN t) (printT DN u)) 0 = (0, t, p) ∧ nextI (backL (printT DN t) (printT DN u)) p = (0, u, z9) ∧ nextI (backL (printT DN t) (printT DN u)) z9 = (0, noTok, ((backL (printT DN t) (printT DN u)).length : Int)) := by
  obtain ⟨q, hq, hq2⟩ := tail_ok hu hbu
  obtain ⟨a, ha⟩ : ∃ a, printT DN t = a := ⟨_, rfl⟩
  obtain ⟨b, hb⟩ : ∃ b, printT DN u = b := ⟨_, rfl⟩
  have h1 := print_next ht hbt hk (9 :: 37 :: 41 :: 13 :: (b ++ [32])) (s := 10) rfl
  rw [ha] at h1 ⊢
  rw [hb] at hq ⊢
  have hl := back_len a b
  have e1 : backL a b = 32 :: 37 :: 120 :: 10 :: (a ++ 10 :: (9 :: 37 :: 41 :: 13 :: (b ++ [32]))) := by simp [backL]
  have n1 : nextL PN (backL a b) = (0, t, 10 :: (9 :: 37 :: 41 :: 13 :: (b ++ [32]))) := by rw [e1, next_gap (gap_a _), h1]
  have e2 : (backL a b).drop (4 + a.length) = 10 :: 9 :: 37 :: 41 :: 13 :: (b ++ [32]) := by
    have : backL a b = ([32, 37, 120, 10] ++ a) ++ (10 :: 9 :: 37 :: 41 :: 13 :: (b ++ [32])) := by simp [backL]
    rw [this]
    exact List.drop_left' (by simp; omega)
  have n2 : nextL PN (10 :: 9 :: 37 :: 41 :: 13 :: (b ++ [32])) = (0, u, q) := by rw [next_gap (gap_b _), hq]
  have N1 := next_at (p := 0) (k := 0) rfl (Nat.zero_le _) rfl n1
  have N2 := next_at (p := ((backL a b).length : Int) - ((10 :: (9 :: 37 :: 41 :: 13 :: (b ++ [32]))).length : Int)) (k := 4 + a.length) (by rw [hl]; simp; omega) (by omega) e2 n2
  refine ⟨_, _, N1, N2, ?_⟩
  have ql : q.length ≤ 1 := by rcases hq2 with rfl | rfl <;> simp
  have e3 : (backL a b).drop ((backL a b).length - q.length) = q := by
    rcases hq2 with rfl | rfl
    · have : backL a b = ([32, 37, 120, 10] ++ a ++ [10, 9, 37, 41, 13] ++ b) ++ [32] := by simp [backL]
      rw [this]
      exact List.drop_left' (by simp; omega)
    · exact List.drop_eq_nil_of_le (by simp)
  have n3 : nextL PN q = (0, noTok, []) := by rcases hq2 with rfl | rfl <;> rfl
  have N3 := next_at (p := ((backL a b).length : Int) - (q.length : Int)) (k := (backL a b).length - q.length) (by omega) (by omega) e3 n3
  simpa using N3
/-- What is printed is of bytes. -/
theorem print_lt {t : TokV} (hb : ∀ c ∈ t.text, c < 256) : ∀ c ∈ printT DN t, c < 256 := by
  unfold printT
  split
  · intro c hc
    unfold DN at hc
    obtain ⟨b, -, rfl⟩ := List.mem_map.1 hc
    exact b.toNat_lt
  · split
    · intro c hc
      rcases List.mem_cons.1 hc with rfl | hc
      · decide
      · exact nameE_lt hb c hc
    · split
      · intro c hc
        rcases List.mem_cons.1 hc with rfl | hc
        · decide
        · rcases List.mem_append.1 hc with hc | hc
          · exact textE_lt hb c hc
          · rw [List.mem_singleton.1 hc]; decide
      · split
        · exact hb
        · split
          · intro c hc; rw [List.mem_singleton.1 hc]; decide
          · split
            · intro c hc; rw [List.mem_singleton.1 hc]; decide
            · split
              · intro c hc; simp at hc; omega
              · split
                · intro c hc; simp at hc; omega
                · intro c hc; cases hc
theorem print_len {t : TokV} (h : validB t = true) : (printT DN t).length ≤ 3 * t.text.length + 50 := by
  unfold printT
  split
  · rename_i h1
    have h2 : Dec.Valid t.m t.s := by
      obtain ⟨k, m, s, l⟩ := t
      simp only at h1
      subst h1
      exact (valid_num h).1
    unfold DN
    rw [List.length_map]
    have hD := digits_le t.m.natAbs (by have := h2.1; have := h2.2.1; omega)
    have h4 := h2.2.2.2.1
    have h3 := h2.2.2.1
    rw [printL_len]
    split <;> split <;> omega
  · split
    · have := nameE_len t.text
      simp only [List.length_cons]
      omega
    · split
      · have := textE_len t.text
        simp only [List.length_cons, List.length_append, List.length_nil]
        omega
      · split
        · omega
        · (repeat' split) <;> simp
end Go.Proofs.YtdiaijdobglaaaaDoor
