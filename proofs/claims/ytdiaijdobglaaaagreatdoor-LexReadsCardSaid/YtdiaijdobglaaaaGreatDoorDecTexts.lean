/- The plain mathematics of dec's texts: what is printed is parsed as itself; what is parsed is valid, and its shortest text is no longer. No program stands in it. -/
import Derived.Test.YtdiaijdobglaaaaGreatDoorDecPrint
namespace Go.Proofs.YtdiaijdobglaaaaGreatDoor
open Go.RowKit Dec

/-- Cut at the first point. -/
def cutD : List UInt8 → List UInt8 × List UInt8
  | [] => ([], [])
  | c :: l => if c = 46 then ([], l) else (c :: (cutD l).1, (cutD l).2)

theorem cut_eq (B : List UInt8) : (Lib.index B [46] = -1 ∧ cutD B = (B, [])) ∨ (∃ i : Nat, Lib.index B [46] = i ∧ cutD B = (B.take i, B.drop (i + 1))) := by
  induction B with
  | nil => left; exact ⟨by decide, rfl⟩
  | cons c l ih =>
    by_cases hc : c = 46
    · subst hc
      right
      refine ⟨0, ?_, by simp [cutD]⟩
      unfold Lib.index
      rw [if_pos (by simp)]; rfl
    · have hp : ¬ ([46] : List UInt8).isPrefixOf (c :: l) = true := by
        simp only [List.isPrefixOf_cons_cons, Bool.and_eq_true, beq_iff_eq]
        exact fun h => hc h.1.symm
      rcases ih with ⟨h1, h2⟩ | ⟨i, h1, h2⟩
      · left
        refine ⟨?_, ?_⟩
        · unfold Lib.index
          rw [if_neg hp, h1]; rfl
        · rw [cutD, if_neg hc, h2]
      · right
        refine ⟨i + 1, ?_, ?_⟩
        · unfold Lib.index
          rw [if_neg hp, h1, if_neg (by rw [beq_iff_eq]; omega)]; rfl
        · rw [cutD, if_neg hc, h2]; simp
theorem cut_is (B : List UInt8) : (Lib.cut B [46]).1 = (cutD B).1 ∧ (Lib.cut B [46]).2.1 = (cutD B).2 := by
  unfold Lib.cut
  rcases cut_eq B with ⟨h1, h2⟩ | ⟨i, h1, h2⟩
  · rw [if_neg (by omega), h2]; exact ⟨rfl, rfl⟩
  · rw [if_pos (by omega), h1, h2]; exact ⟨by simp, by simp⟩
theorem cutD_none {l : List UInt8} (h : ∀ c ∈ l, c ≠ 46) : cutD l = (l, []) := by
  induction l with
  | nil => rfl
  | cons c l ih => rw [cutD, if_neg (h c (List.mem_cons_self ..)), ih (fun d hd => h d (List.mem_cons_of_mem _ hd))]
theorem cutD_at {W P : List UInt8} (h : ∀ c ∈ W, c ≠ 46) : cutD (W ++ 46 :: P) = (W, P) := by
  induction W with
  | nil => rw [List.nil_append, cutD, if_pos rfl]
  | cons c l ih => rw [List.cons_append, cutD, if_neg (h c (List.mem_cons_self ..)), ih (fun d hd => h d (List.mem_cons_of_mem _ hd))]
theorem cutD_len (B : List UInt8) : (cutD B).1.length + 1 + (cutD B).2.length = B.length ∨ ((cutD B).1.length = B.length ∧ (cutD B).2 = []) := by
  induction B with
  | nil => right; exact ⟨rfl, rfl⟩
  | cons c l ih =>
    rw [cutD]
    by_cases hc : c = 46
    · rw [if_pos hc]; left; simp; omega
    · rw [if_neg hc]
      rcases ih with h | ⟨h1, h2⟩
      · left; simp; omega
      · right; exact ⟨by simp [h1], h2⟩

theorem rd_err (l : List UInt8) : ∀ m e : Int, (e = 0 ∨ e = 5) → ((rd m e l).2 = 0 ∨ (rd m e l).2 = 5 ∨ (rd m e l).2 = 4) := by
  induction l with
  | nil => intro m e h; rcases h with h | h; exact .inl h; exact .inr (.inl h)
  | cons c l ih =>
    intro m e h
    rw [rd]
    split
    · exact .inr (.inr rfl)
    · split
      · exact ih m 5 (.inr rfl)
      · split
        · exact ih 0 5 (.inr rfl)
        · exact ih _ e h
theorem rd_snoc (l : List UInt8) (c : UInt8) : ∀ m e : Int, (e = 0 ∨ e = 5) → rd m e (l ++ [c]) = if (rd m e l).2 = 4 then (0, 4) else rd (rd m e l).1 (rd m e l).2 [c] := by
  induction l with
  | nil => intro m e h; rw [List.nil_append, show rd m e [] = (m, e) from rfl, if_neg (show ¬ e = 4 by omega)]
  | cons d l ih =>
    intro m e h
    rw [List.cons_append, rd, rd.eq_2 m e d l]
    split
    · rw [if_pos rfl]
    · split
      · exact ih m 5 (.inr rfl)
      · split
        · exact ih 0 5 (.inr rfl)
        · exact ih _ e h
theorem rd_one5 (m : Int) (c : UInt8) : (rd m 5 [c]).2 ≠ 0 := by
  rw [rd]; split
  · decide
  · rw [if_pos rfl]; show (5 : Int) ≠ 0; decide
theorem rd_last {l : List UInt8} {c : UInt8} {M : Int} (h : rd 0 0 (l ++ [c]) = (M, 0)) : ∃ M', rd 0 0 l = (M', 0) ∧ 48 ≤ (c.toNat : Int) ∧ (c.toNat : Int) ≤ 57 ∧ M = M' * 10 + ((c.toNat : Int) - 48) := by
  rw [rd_snoc l c 0 0 (.inl rfl)] at h
  obtain ⟨M1, E1, hl⟩ : ∃ M1 E1, rd 0 0 l = (M1, E1) := ⟨_, _, rfl⟩
  have he := rd_err l 0 0 (.inl rfl)
  rw [hl] at h he
  rcases he with h0 | h5 | h4
  · have h0' : E1 = 0 := h0
    subst h0'
    rw [if_neg (show ¬ (0 : Int) = 4 by decide)] at h
    refine ⟨M1, hl, ?_⟩
    rw [rd] at h
    split at h
    · cases h
    · rw [if_neg (show ¬ (0 : Int) = 5 by decide)] at h
      split at h
      · cases h
      · cases h
        rename_i hd _
        exact ⟨by omega, by omega, rfl⟩
  · have h5' : E1 = 5 := h5
    subst h5'
    rw [if_neg (show ¬ (5 : Int) = 4 by decide)] at h
    exact absurd (congrArg Prod.snd h) (rd_one5 M1 c)
  · have h4' : E1 = 4 := h4
    subst h4'
    rw [if_pos rfl] at h
    cases h

theorem rd_lt : ∀ (n : Nat) (l : List UInt8) (M : Int), l.length = n → rd 0 0 l = (M, 0) → 0 ≤ M ∧ M < 10 ^ n := by
  intro n
  induction n with
  | zero =>
    intro l M hl h
    obtain rfl := List.eq_nil_of_length_eq_zero hl
    cases h
    exact ⟨by decide, by decide⟩
  | succ n ih =>
    intro l M hl h
    rcases List.eq_nil_or_concat l with rfl | ⟨q, c, rfl⟩
    · simp at hl
    · rw [List.concat_eq_append] at h hl
      obtain ⟨M', h1, h2, h3, rfl⟩ := rd_last h
      have := ih q M' (by simpa using hl) h1
      rw [Int.pow_succ]
      omega

theorem nDigits_le : ∀ (k u : Nat), 1 ≤ k → u < 10 ^ k → Lib.nDigits u ≤ k := by
  intro k
  induction k with
  | zero => intro u h; omega
  | succ k ih =>
    intro u _ hu
    by_cases h : u < 10
    · rw [Lib.nDigits_small h]; omega
    · rw [Lib.nDigits_big h]
      have hk : 1 ≤ k := by
        rcases Nat.eq_zero_or_pos k with h0 | h0
        · subst h0; simp at hu; omega
        · exact h0
      have := ih (u / 10) hk (by rw [Nat.pow_succ] at hu; omega)
      omega

theorem drop_head {p : UInt8 → Bool} (l : List UInt8) : l.dropWhile p = [] ∨ ∃ d q, l.dropWhile p = d :: q ∧ p d = false := by
  induction l with
  | nil => left; rfl
  | cons c l ih =>
    rw [List.dropWhile_cons]
    by_cases h : p c = true
    · rw [if_pos h]; exact ih
    · rw [if_neg h]; right; exact ⟨c, l, rfl, by simpa using h⟩
theorem trim_last (P : List UInt8) : Lib.trimRightB P 48 = [] ∨ ∃ q d, Lib.trimRightB P 48 = q ++ [d] ∧ d ≠ 48 := by
  unfold Lib.trimRightB
  rcases drop_head (p := (· == (48 : UInt8))) P.reverse with h | ⟨d, q, h, hd⟩
  · left; rw [h]; rfl
  · right; refine ⟨q.reverse, d, by rw [h, List.reverse_cons], ?_⟩
    intro e; subst e; simp at hd
theorem trim_same (q : List UInt8) (d : UInt8) (h : d ≠ 48) : Lib.trimRightB (q ++ [d]) 48 = q ++ [d] := by
  unfold Lib.trimRightB
  rw [List.reverse_append, List.reverse_cons, List.reverse_nil, List.nil_append, List.singleton_append, List.dropWhile_cons, if_neg (by simpa using h), List.reverse_cons, List.reverse_reverse]
theorem keptL_last (t : List UInt8) (h : Lib.trimRightB (partL t) 48 ≠ []) : ∃ q d, keptL t = q ++ [d] ∧ d ≠ 48 := by
  rcases trim_last (partL t) with h0 | ⟨q, d, h1, h2⟩
  · exact absurd h0 h
  · exact ⟨wholeL t ++ q, d, by unfold keptL; rw [h1, List.append_assoc], h2⟩

/-- What a text that is parsed tells. -/
theorem parse_inv {t : List UInt8} {m s : Int} (h : parseL t = (m, s, 0)) :
    t.length ≤ 40 ∧ (wholeL t ++ partL t) ≠ [] ∧ (∃ M, rd 0 0 (keptL t) = (M, 0) ∧ m = (signOf t).1 * M) ∧ s = (Lib.trimRightB (partL t) 48).length ∧ (Lib.trimRightB (partL t) 48).length ≤ 9 := by
  unfold parseL at h
  split at h
  · cases h
  · split at h
    · cases h
    · split at h
      · rename_i hE
        exact absurd (congrArg (fun x : Int × Int × Int => x.2.2) h) hE
      · split at h
        · cases h
        · rename_i h1 h2 h3 h4
          cases h
          refine ⟨by omega, ?_, ⟨_, ?_, rfl⟩, rfl, by omega⟩
          · intro e; rw [e] at h2; exact h2 rfl
          · exact Prod.ext rfl (Decidable.not_not.1 h3)
theorem parse_err {t : List UInt8} {m s e : Int} (h : parseL t = (m, s, e)) (he : e ≠ 0) : m = 0 ∧ s = 0 := by
  unfold parseL at h
  split at h
  · cases h; exact ⟨rfl, rfl⟩
  · split at h
    · cases h; exact ⟨rfl, rfl⟩
    · split at h
      · cases h; exact ⟨rfl, rfl⟩
      · split at h
        · cases h; exact ⟨rfl, rfl⟩
        · cases h; exact absurd rfl he

theorem parse_valid {t : List UInt8} {m s : Int} (h : parseL t = (m, s, 0)) : Valid m s := by
  obtain ⟨_, _, ⟨M, hr, rfl⟩, rfl, h9⟩ := parse_inv h
  have hb := rd_bounds (keptL t) 0 0 (by decide) (by decide)
  rw [hr] at hb
  have hb' : 0 ≤ M ∧ M ≤ 999999999999999999 := hb
  have hsg := signOf_one t
  have hlast : Lib.trimRightB (partL t) 48 = [] ∨ M % 10 ≠ 0 := by
    by_cases h0 : Lib.trimRightB (partL t) 48 = []
    · exact .inl h0
    · right
      obtain ⟨q, d, hq, hd⟩ := keptL_last t h0
      rw [hq] at hr
      obtain ⟨M', _, h1, h2, rfl⟩ := rd_last hr
      have hd' : (d.toNat : Int) ≠ 48 := by
        intro e
        apply hd
        apply UInt8.toNat_inj.1
        show d.toNat = 48
        omega
      omega
  refine ⟨?_, ?_, by omega, by omega, ?_⟩
  · rcases hsg with h | h <;> rw [h] <;> omega
  · rcases hsg with h | h <;> rw [h] <;> omega
  · rcases hlast with h | h
    · left; rw [h]; rfl
    · right; rcases hsg with h' | h' <;> rw [h'] <;> omega

theorem signOf_len (t : List UInt8) : (signOf t).2.length + (if (signOf t).1 = -1 then 1 else 0) ≤ t.length := by
  unfold signOf
  split
  · rename_i h
    cases t with
    | nil => simp [Lib.hasPrefix] at h
    | cons c l => simp
  · show (Lib.trimPrefix t [43]).length + (if (1 : Int) = -1 then 1 else 0) ≤ t.length
    rw [if_neg (by decide)]
    unfold Lib.trimPrefix
    split <;> simp

theorem signL_len (m : Int) : (signL m).length = if m < 0 then 1 else 0 := by unfold signL; split <;> rfl
theorem rowL_len (m : Int) (s : Nat) : (rowL m s).length = s + 1 - (Lib.decDigits m.natAbs).length + (Lib.decDigits m.natAbs).length := by
  unfold rowL
  rw [List.length_append, Lib.repeatL_length]; simp
theorem printL_len (m : Int) (s : Nat) : (printL m s).length = (if m < 0 then 1 else 0) + if s = 0 then (Lib.decDigits m.natAbs).length else s + 1 - (Lib.decDigits m.natAbs).length + (Lib.decDigits m.natAbs).length + 1 := by
  unfold printL
  rw [List.length_append, signL_len]
  congr 1
  by_cases h : s = 0
  · rw [if_pos h, if_pos h]
  · rw [if_neg h, if_neg h, List.length_append, List.length_cons, List.length_take, List.length_drop, rowL_len]
    omega

/-- The shortest text is no longer, but for a nought ahead of the point. -/
theorem print_short {t : List UInt8} {m : Int} {s : Nat} (h : parseL t = (m, (s : Int), 0)) : (printL m s).length ≤ t.length + 1 := by
  obtain ⟨_, hne, ⟨M, hr, hm⟩, hs, h9⟩ := parse_inv h
  have hs' : s = (Lib.trimRightB (partL t) 48).length := by omega
  have hlt := rd_lt _ _ _ rfl hr
  have hk : (keptL t).length = (wholeL t).length + s := by unfold keptL; rw [List.length_append, ← hs']
  have htr := trimRightB_le (partL t) 48
  have hsl := signOf_len t
  have hsg := signOf_one t
  have hbody := cutD_len (signOf t).2
  have hci := cut_is (signOf t).2
  have hW : (wholeL t).length = (cutD (signOf t).2).1.length := by unfold wholeL; rw [hci.1]
  have hP : (partL t).length = (cutD (signOf t).2).2.length := by unfold partL; rw [hci.2]
  have hnel : 1 ≤ (wholeL t).length + (partL t).length := by
    have : (wholeL t ++ partL t).length ≠ 0 := fun e => hne (List.eq_nil_of_length_eq_zero e)
    rw [List.length_append] at this; omega
  have hab : m.natAbs = M.natAbs := by rcases hsg with h | h <;> rw [hm, h] <;> omega
  have hD : (Lib.decDigits m.natAbs).length ≤ max 1 ((wholeL t).length + s) := by
    rw [Lib.decDigits_length, hab]
    by_cases h0 : (keptL t).length = 0
    · rw [h0] at hlt
      have : M = 0 := by simp at hlt; omega
      subst this
      rw [show (0 : Int).natAbs = 0 from rfl, Lib.nDigits_small (by omega)]; omega
    · have hu : M.natAbs < 10 ^ (keptL t).length := by
        have e : ((10 ^ (keptL t).length : Nat) : Int) = (10 : Int) ^ (keptL t).length := by rw [Int.natCast_pow]; rfl
        omega
      have := nDigits_le _ _ (by omega) hu
      omega
  have hneg : m < 0 → (signOf t).1 = -1 := by
    intro hm0
    rcases hsg with h | h
    · rw [hm, h] at hm0; omega
    · exact h
  rw [printL_len]
  have hlast : (cutD (signOf t).2).2 = [] → (cutD (signOf t).2).2.length = 0 := fun h => by rw [h]; rfl
  have hsgn : (if m < 0 then 1 else 0) ≤ (if (signOf t).1 = -1 then 1 else 0 : Nat) := by
    by_cases hm0 : m < 0
    · rw [if_pos hm0, if_pos (hneg hm0)]; exact Nat.le_refl _
    · rw [if_neg hm0]; exact Nat.zero_le _
  generalize (if m < 0 then 1 else 0 : Nat) = a at *
  generalize (if (signOf t).1 = -1 then 1 else 0 : Nat) = b at *
  by_cases h0 : s = 0
  · rw [if_pos h0]
    rcases hbody with h | ⟨h1, h2⟩
    · omega
    · have := hlast h2; omega
  · rw [if_neg h0]
    rcases hbody with h | ⟨h1, h2⟩
    · omega
    · have := hlast h2; omega
theorem ofNat_digit (d : Nat) (h : d < 10) : (UInt8.ofNat (48 + d)).toNat = 48 + d := by
  rw [UInt8.toNat_ofNat']; omega

theorem digits_snoc (u : Nat) : ∃ q, Lib.decDigits u = q ++ [UInt8.ofNat (48 + u % 10)] := by
  by_cases h : u < 10
  · exact ⟨[], by rw [Lib.decDigits, dif_pos h, Nat.mod_eq_of_lt h]; rfl⟩
  · exact ⟨Lib.decDigits (u / 10), by rw [Lib.decDigits, dif_neg h]⟩

theorem digits_all (u : Nat) : ∀ c ∈ Lib.decDigits u, 48 ≤ c.toNat ∧ c.toNat ≤ 57 := by
  induction u using Nat.strongRecOn with
  | _ u ih =>
    intro c hc
    by_cases h : u < 10
    · rw [Lib.decDigits, dif_pos h] at hc
      obtain rfl := List.mem_singleton.1 hc
      rw [ofNat_digit u h]; omega
    · rw [Lib.decDigits, dif_neg h] at hc
      rcases List.mem_append.1 hc with h1 | h1
      · exact ih (u / 10) (by omega) c h1
      · obtain rfl := List.mem_singleton.1 h1
        rw [ofNat_digit _ (by omega)]; omega

theorem rd_digits (u : Nat) : u ≤ 999999999999999999 → rd 0 0 (Lib.decDigits u) = ((u : Int), 0) := by
  induction u using Nat.strongRecOn with
  | _ u ih =>
    intro hu
    by_cases h : u < 10
    · rw [Lib.decDigits, dif_pos h]
      have e := ofNat_digit u h
      rw [rd_go (by rw [e]; omega) (by rw [e]; omega), e]
      show (0 * 10 + (((48 + u : Nat) : Int) - 48), (0 : Int)) = _
      rw [show (0 : Int) * 10 + (((48 + u : Nat) : Int) - 48) = u by omega]
    · rw [Lib.decDigits, dif_neg h]
      have e := ofNat_digit (u % 10) (by omega)
      rw [rd_snoc _ _ 0 0 (.inl rfl), ih (u / 10) (by omega) (by omega)]
      show (if (0 : Int) = 4 then _ else rd ((u / 10 : Nat) : Int) 0 _) = _
      rw [if_neg (by decide), rd_go (by rw [e]; omega) (by rw [e]; omega), e]
      show ((((u / 10 : Nat) : Int) * 10 + (((48 + u % 10 : Nat) : Int) - 48)), (0 : Int)) = _
      rw [show ((u / 10 : Nat) : Int) * 10 + (((48 + u % 10 : Nat) : Int) - 48) = u by omega]

theorem rd_zeros (k : Nat) (l : List UInt8) : rd 0 0 (Lib.repeatL [48] k ++ l) = rd 0 0 l := by
  induction k with
  | zero => rfl
  | succ k ih =>
    show rd 0 0 (48 :: (Lib.repeatL [48] k ++ l)) = _
    rw [rd_go (by decide) (by decide)]
    exact ih
theorem zeros_all (k : Nat) : ∀ c ∈ Lib.repeatL [48] k, 48 ≤ c.toNat ∧ c.toNat ≤ 57 := by
  induction k with
  | zero => intro c hc; cases hc
  | succ k ih =>
    intro c hc
    rcases List.mem_append.1 (show c ∈ [48] ++ Lib.repeatL [48] k from hc) with h | h
    · obtain rfl := List.mem_singleton.1 h; decide
    · exact ih c h

theorem rowL_all (m : Int) (s : Nat) : ∀ c ∈ rowL m s, 48 ≤ c.toNat ∧ c.toNat ≤ 57 := by
  intro c hc
  rcases List.mem_append.1 hc with h | h
  · exact zeros_all _ c h
  · exact digits_all _ c h
theorem not_point {c : UInt8} (h : 48 ≤ c.toNat ∧ c.toNat ≤ 57) : c ≠ 46 := by intro e; subst e; exact absurd h.1 (by decide)

/-- The sign of what is printed. -/
theorem signOf_print (m : Int) (c : UInt8) (l : List UInt8) (hc : 48 ≤ c.toNat ∧ c.toNat ≤ 57) : signOf (signL m ++ c :: l) = (if m < 0 then -1 else 1, c :: l) := by
  unfold signL
  by_cases h : m < 0
  · rw [if_pos h, if_pos h]
    unfold signOf
    rw [if_pos (by simp [Lib.hasPrefix])]; rfl
  · rw [if_neg h, if_neg h, List.nil_append]
    have p1 : ¬ Lib.hasPrefix (c :: l) [45] = true := by
      unfold Lib.hasPrefix
      simp only [List.isPrefixOf_cons_cons, Bool.and_eq_true, beq_iff_eq]
      intro e; rw [← e.1] at hc; exact absurd hc.1 (by decide)
    have p2 : ¬ Lib.hasPrefix (c :: l) [43] = true := by
      unfold Lib.hasPrefix
      simp only [List.isPrefixOf_cons_cons, Bool.and_eq_true, beq_iff_eq]
      intro e; rw [← e.1] at hc; exact absurd hc.1 (by decide)
    unfold signOf
    rw [if_neg p1]
    unfold Lib.trimPrefix
    rw [if_neg p2]

theorem parse_print {m : Int} {s : Nat} (hv : Valid m s) : parseL (printL m s) = (m, (s : Int), 0) := by
  obtain ⟨v1, v2, _, v4, v5⟩ := hv
  have hD := digits_le m.natAbs (by omega)
  have hlen := printL_len m s
  have h40 : ¬ 40 < (printL m s).length := by
    rw [hlen]
    split <;> split <;> omega
  have hsgm : (if m < 0 then -1 else 1 : Int) * (m.natAbs : Int) = m := by split <;> omega
  have hrow := rowL_len m s
  have hall := rowL_all m s
  -- the parts of what is printed
  have key : ∃ W P, signOf (printL m s) = (if m < 0 then -1 else 1, if s = 0 then W else W ++ 46 :: P) ∧ W ++ P = (if s = 0 then Lib.decDigits m.natAbs else rowL m s) ∧ P.length = s ∧ (∀ c ∈ W, c ≠ 46) ∧ W ≠ [] ∧ (s ≠ 0 → ∃ q, P = q ++ [UInt8.ofNat (48 + m.natAbs % 10)]) := by
    by_cases h0 : s = 0
    · subst h0
      refine ⟨Lib.decDigits m.natAbs, [], ?_, by simp, rfl, fun c hc => not_point (digits_all _ c hc), ?_, fun h => absurd rfl h⟩
      · unfold printL
        rw [if_pos rfl, if_pos rfl]
        cases hd : Lib.decDigits m.natAbs with
        | nil => obtain ⟨q, hq⟩ := digits_snoc m.natAbs; rw [hd] at hq; simp at hq
        | cons c l => exact signOf_print m c l (digits_all m.natAbs c (by rw [hd]; exact List.mem_cons_self ..))
      · intro e; obtain ⟨q, hq⟩ := digits_snoc m.natAbs; rw [e] at hq; simp at hq
    · refine ⟨(rowL m s).take ((rowL m s).length - s), (rowL m s).drop ((rowL m s).length - s), ?_, by rw [if_neg h0, List.take_append_drop], by rw [List.length_drop]; omega, fun c hc => not_point (hall c (List.mem_of_mem_take hc)), ?_, fun _ => ?_⟩
      · unfold printL
        rw [if_neg h0, if_neg h0]
        cases hd : (rowL m s).take ((rowL m s).length - s) with
        | nil => have := congrArg List.length hd; rw [List.length_take] at this; simp at this; omega
        | cons c l => exact signOf_print m c _ (hall c (List.mem_of_mem_take (by rw [hd]; exact List.mem_cons_self ..)))
      · intro e; have := congrArg List.length e; rw [List.length_take] at this; simp at this; omega
      · obtain ⟨q, hq⟩ := digits_snoc m.natAbs
        have e : rowL m s = (Lib.repeatL [48] (s + 1 - (Lib.decDigits m.natAbs).length) ++ q) ++ [UInt8.ofNat (48 + m.natAbs % 10)] := by
          rw [List.append_assoc, ← hq]; rfl
        generalize Lib.repeatL [48] (s + 1 - (Lib.decDigits m.natAbs).length) ++ q = Q at e
        refine ⟨Q.drop ((rowL m s).length - s), ?_⟩
        have hQ : (rowL m s).length = Q.length + 1 := by rw [e]; simp
        have hle : (rowL m s).length - s ≤ Q.length := by omega
        rw [e] at hle ⊢
        rw [List.drop_append_of_le_length hle]
  obtain ⟨W, P, hsign, hWP, hPs, hW, hWne, hlast⟩ := key
  have hcut : cutD (signOf (printL m s)).2 = (W, P) := by
    rw [hsign]
    show cutD (if s = 0 then W else W ++ 46 :: P) = (W, P)
    by_cases h0 : s = 0
    · rw [if_pos h0, cutD_none hW]
      rw [h0] at hPs
      rw [List.eq_nil_of_length_eq_zero hPs]
    · rw [if_neg h0, cutD_at hW]
  have hwhole : wholeL (printL m s) = W := by unfold wholeL; rw [(cut_is _).1, hcut]
  have hpart : partL (printL m s) = P := by unfold partL; rw [(cut_is _).2, hcut]
  have htrim : Lib.trimRightB P 48 = P := by
    by_cases h0 : s = 0
    · rw [h0] at hPs; rw [List.eq_nil_of_length_eq_zero hPs]; rfl
    · obtain ⟨q, hq⟩ := hlast h0
      rw [hq]
      refine trim_same _ _ ?_
      intro e
      have e2 := congrArg UInt8.toNat e
      rw [ofNat_digit _ (by omega)] at e2
      have e3 : (48 : UInt8).toNat = 48 := rfl
      omega
  have hkept : rd 0 0 (keptL (printL m s)) = ((m.natAbs : Int), 0) := by
    unfold keptL
    rw [hwhole, hpart, htrim, hWP]
    split
    · exact rd_digits _ (by omega)
    · unfold rowL
      rw [rd_zeros]
      exact rd_digits _ (by omega)
  unfold parseL
  rw [if_neg h40, hwhole, hpart, htrim, hkept, if_neg (by intro e; rw [List.isEmpty_iff] at e; exact hWne (List.append_eq_nil_iff.1 e).1), if_neg (fun h => h rfl), if_neg (by omega), hsign]
  show ((if m < 0 then -1 else 1 : Int) * (m.natAbs : Int), ((P.length : Nat) : Int), (0 : Int)) = _
  rw [hsgm, hPs]
end Go.Proofs.YtdiaijdobglaaaaGreatDoor
