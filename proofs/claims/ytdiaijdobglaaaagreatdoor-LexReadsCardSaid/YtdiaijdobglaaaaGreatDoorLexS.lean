/- lex: what is printed is read as itself; what is read is right. -/
import Derived.Test.YtdiaijdobglaaaaGreatDoorLexR
import Derived.Test.YtdiaijdobglaaaaGreatDoorDecTexts
namespace Go.Proofs.YtdiaijdobglaaaaGreatDoor
open Go.RowKit

theorem of_to (l : List UInt8) : (l.map UInt8.toNat).map UInt8.ofNat = l := by
  rw [List.map_map]
  have : (UInt8.ofNat ∘ UInt8.toNat) = id := by funext b; simp
  rw [this, List.map_id]
theorem to_of {l : List Nat} (h : ∀ c ∈ l, c < 256) : (l.map UInt8.ofNat).map UInt8.toNat = l := nats_str h
theorem rg_small {n : Nat} (h : (48 ≤ n ∧ n ≤ 57) ∨ n = 45 ∨ n = 46) : rgB n = true := by
  rcases (by omega : n = 48 ∨ n = 49 ∨ n = 50 ∨ n = 51 ∨ n = 52 ∨ n = 53 ∨ n = 54 ∨ n = 55 ∨ n = 56 ∨ n = 57 ∨ n = 45 ∨ n = 46) with rfl | rfl | rfl | rfl | rfl | rfl | rfl | rfl | rfl | rfl | rfl | rfl <;> rfl
theorem printL_rg (m : Int) (s : Nat) : ∀ c ∈ printL m s, rgB c.toNat = true := by
  intro c hc
  unfold printL at hc
  rcases List.mem_append.1 hc with h | h
  · unfold signL at h
    split at h
    · rw [List.mem_singleton.1 h]; rfl
    · cases h
  · split at h
    · exact rg_small (.inl (digits_all _ c h))
    · rcases List.mem_append.1 h with h | h
      · exact rg_small (.inl (rowL_all _ _ c (List.mem_of_mem_take h)))
      · rcases List.mem_cons.1 h with h | h
        · rw [h]; rfl
        · exact rg_small (.inl (rowL_all _ _ c (List.mem_of_mem_drop h)))
theorem dn_good {m s : Int} (h : Dec.Valid m s) : PN (DN m s) = (m, s, 0) ∧ DN m s ≠ [] ∧ ∀ c ∈ DN m s, rgB c = true := by
  have hs : ((s.toNat : Nat) : Int) = s := by have := h.2.2.1; omega
  have hv : Dec.Valid m (s.toNat : Nat) := by rw [hs]; exact h
  have hp := parse_print hv
  have e : PN (DN m s) = (m, s, 0) := by
    unfold PN DN
    rw [of_to, hp, hs]
  refine ⟨e, fun h0 => ?_, fun c hc => ?_⟩
  · rw [h0] at e
    have : PN [] = (0, 0, 4) := by decide
    rw [this] at e
    injection e with _ e
    injection e with _ e
    cases e
  · unfold DN at hc
    obtain ⟨b, hb, rfl⟩ := List.mem_map.1 hc
    exact printL_rg _ _ b hb
theorem right_of {t : TokV} (h : validB t = true) (hb : ∀ c ∈ t.text, c < 256) : RightT PN Dec.Valid t := by
  have hr := valid_range h
  obtain ⟨kind, m, s, l⟩ := t
  simp only at hr hb
  unfold validB at h
  simp only at h
  by_cases k1 : kind = 1
  · subst k1
    rw [if_pos rfl] at h
    have h2 : Dec.Valid m s ∧ l.length = 0 := of_decide_eq_true h
    exact ⟨hb, hr, fun h => absurd rfl h, fun _ => ⟨h2.1, List.eq_nil_of_length_eq_zero h2.2⟩, fun h => by simp at h, fun h => by simp at h, fun h => by simp at h, fun h => by simp at h⟩
  rw [if_neg k1, Bool.and_eq_true] at h
  obtain ⟨h0, h⟩ := h
  have hz : m = 0 ∧ s = 0 := of_decide_eq_true h0
  clear h0
  by_cases k2 : kind = 2
  · subst k2
    rw [if_pos rfl] at h
    have h2 := of_decide_eq_true h
    exact ⟨hb, hr, fun _ => hz, fun h => by simp at h, fun _ => h2, fun h => by simp at h, fun h => by simp at h, fun h => by simp at h⟩
  rw [if_neg k2] at h
  by_cases k3 : kind = 3
  · subst k3
    rw [if_pos rfl] at h
    have h2 := of_decide_eq_true h
    exact ⟨hb, hr, fun _ => hz, fun h => by simp at h, fun h => by simp at h, fun _ => h2, fun h => by simp at h, fun h => by simp at h⟩
  rw [if_neg k3] at h
  by_cases k4 : kind = 4
  · subst k4
    rw [if_pos rfl] at h
    have h2 : l.length ≠ 0 ∧ l.length ≤ 127 ∧ (∀ c ∈ l, rgB c = true) ∧ (PN l).2.2 = 4 := of_decide_eq_true h
    exact ⟨hb, hr, fun _ => hz, fun h => by simp at h, fun h => by simp at h, fun h => by simp at h, fun _ => ⟨fun e => h2.1 (by rw [show l = [] from e]; rfl), h2.2⟩, fun h => by simp at h⟩
  rw [if_neg k4] at h
  have h2 := of_decide_eq_true h
  exact ⟨hb, hr, fun _ => hz, fun h => absurd h k1, fun h => absurd h k2, fun h => absurd h k3, fun h => absurd h k4, fun _ => List.eq_nil_of_length_eq_zero h2.2.2⟩
/-- What is printed, with white behind it, is read as itself. -/
theorem print_next {t : TokV} (h : validB t = true) (hb : ∀ c ∈ t.text, c < 256) (hk : t.kind ≠ 0) (m : List Nat) {s : Nat} (hs : spB s = true) : nextL PN (printT DN t ++ s :: m) = (0, t, s :: m) :=
  next_print (right_of h hb) hk (fun hv => dn_good hv) m hs
theorem nm_ok : ∀ (n : Nat) (l acc t : List Nat), l.length ≤ n → nmL acc l = some t → (∀ c ∈ acc, c < 256 ∧ c ≠ 0) → (∀ c ∈ l, c < 256 ∧ c ≠ 0) → ∀ c ∈ t, c < 256 ∧ c ≠ 0
  | 0, l, acc, t, hn, h, ha, _ => by
    rw [nmL_eq, if_pos (by omega)] at h
    injection h with h
    rw [← h]
    exact ha
  | n + 1, l, acc, t, hn, h, ha, hl => by
    rw [nmL_eq] at h
    by_cases h0 : l.length = 0
    · rw [if_pos h0] at h
      injection h with h
      rw [← h]
      exact ha
    rw [if_neg h0] at h
    have hh : hd l < 256 ∧ hd l ≠ 0 := by
      have := cons_hd h0
      exact hl _ (by rw [this]; exact List.mem_cons_self ..)
    have hd1 : ∀ k, ∀ c ∈ l.drop k, c < 256 ∧ c ≠ 0 := fun k c hc => hl c (List.mem_of_mem_drop hc)
    by_cases h35 : hd l ≠ 35
    · rw [if_pos h35] at h
      refine nm_ok n (l.drop 1) _ t (by rw [List.length_drop]; omega) h (fun c hc => ?_) (hd1 1)
      rcases List.mem_append.1 hc with hc | hc
      · exact ha c hc
      · rw [List.mem_singleton.1 hc]; exact hh
    rw [if_neg h35] at h
    by_cases h3 : l.length < 3
    · rw [if_pos h3] at h; cases h
    rw [if_neg h3] at h
    cases e1 : hexD (hd (l.drop 1)) with
    | none => rw [e1] at h; cases h
    | some a =>
      cases e2 : hexD (hd (l.drop 2)) with
      | none => rw [e1, e2] at h; cases h
      | some b =>
        rw [e1, e2] at h
        simp only at h
        have ha' := hexD_lt e1
        have hb' := hexD_lt e2
        by_cases hz : 16 * a + b = 0
        · rw [if_pos hz] at h; cases h
        rw [if_neg hz] at h
        refine nm_ok n (l.drop 3) _ t (by rw [List.length_drop]; omega) h (fun c hc => ?_) (hd1 3)
        rcases List.mem_append.1 hc with hc | hc
        · exact ha c hc
        · rw [List.mem_singleton.1 hc]; omega
theorem rg_pos {c : Nat} (h : rgB c = true) : c ≠ 0 := by rintro rfl; cases h
theorem skN_sub {l : List Nat} (h : ∀ c ∈ l, c < 256) : ∀ c ∈ skN l, c < 256 := by
  unfold skN
  split
  · exact fun c hc => h c (List.mem_of_mem_drop hc)
  · exact h
theorem hd_lt {l : List Nat} (h : ∀ c ∈ l, c < 256) : hd l < 256 := by
  cases l with
  | nil => exact (by decide : (0 : Nat) < 256)
  | cons c r => exact h c (List.mem_cons_self ..)
theorem escB_lt {c v : Nat} (h : escB c = some v) : v < 256 := by
  unfold escB at h
  split at h
  · injection h with h; omega
  · split at h
    · injection h with h; omega
    · split at h
      · injection h with h; omega
      · split at h
        · injection h with h; omega
        · split at h
          · injection h with h; omega
          · cases h
theorem esc_lt {l : List Nat} (h : ∀ c ∈ l, c < 256) : (∀ c ∈ (escL l).1, c < 256) ∧ ∀ c ∈ (escL l).2, c < 256 := by
  have hdr : ∀ k, ∀ c ∈ l.drop k, c < 256 := fun k c hc => h c (List.mem_of_mem_drop hc)
  have one : ∀ v : Nat, v < 256 → ∀ c ∈ [v], c < 256 := fun v hv c hc => by rw [List.mem_singleton.1 hc]; exact hv
  unfold escL
  split
  · exact ⟨fun c hc => (by cases hc), fun c hc => (by cases hc)⟩
  · split
    · rename_i v hv
      exact ⟨one _ (escB_lt hv), hdr 1⟩
    · split
      · exact ⟨fun c hc => (by cases hc), hdr 1⟩
      · split
        · exact ⟨fun c hc => (by cases hc), skN_sub (hdr 1)⟩
        · split
          · rename_i ho
            have h0 := oct_in ho
            unfold octL
            split
            · rename_i h1
              have h1 := oct_in h1
              split
              · exact ⟨one _ (Nat.mod_lt _ (by decide)), hdr 3⟩
              · exact ⟨one _ (by omega), hdr 2⟩
            · exact ⟨one _ (by omega), hdr 1⟩
          · exact ⟨one _ (hd_lt h), hdr 1⟩
theorem str_lt : ∀ (n d : Nat) (acc l t q : List Nat), l.length ≤ n → strL d acc l = some (t, q) → (∀ c ∈ acc, c < 256) → (∀ c ∈ l, c < 256) → ∀ c ∈ t, c < 256
  | 0, d, acc, l, t, q, hn, h, ha, hl => by
    rw [strL_eq, if_pos (by omega)] at h
    cases h
  | n + 1, d, acc, l, t, q, hn, h, ha, hl => by
    have hdr : ∀ k, ∀ c ∈ l.drop k, c < 256 := fun k c hc => hl c (List.mem_of_mem_drop hc)
    have app : ∀ z : List Nat, (∀ c ∈ z, c < 256) → ∀ c ∈ acc ++ z, c < 256 := fun z hz c hc => by
      rcases List.mem_append.1 hc with hc | hc
      · exact ha c hc
      · exact hz c hc
    have one : ∀ v : Nat, v < 256 → ∀ c ∈ [v], c < 256 := fun v hv c hc => by rw [List.mem_singleton.1 hc]; exact hv
    have hl1 : (l.drop 1).length = l.length - 1 := List.length_drop
    rw [strL_eq] at h
    by_cases h0 : l.length = 0
    · rw [if_pos h0] at h; cases h
    rw [if_neg h0] at h
    by_cases h1 : hd l = 40
    · rw [if_pos h1] at h
      exact str_lt n _ _ _ t q (by omega) h (app _ (one 40 (by decide))) (hdr 1)
    rw [if_neg h1] at h
    by_cases h2 : hd l = 41
    · rw [if_pos h2] at h
      by_cases hd1 : d = 1
      · rw [if_pos hd1] at h
        injection h with h
        injection h with h _
        rw [← h]
        exact ha
      · rw [if_neg hd1] at h
        exact str_lt n _ _ _ t q (by omega) h (app _ (one 41 (by decide))) (hdr 1)
    rw [if_neg h2] at h
    by_cases h3 : hd l = 13
    · rw [if_pos h3] at h
      exact str_lt n _ _ _ t q (by have := skN_len (l.drop 1); omega) h (app _ (one 10 (by decide))) (skN_sub (hdr 1))
    rw [if_neg h3] at h
    by_cases h4 : hd l = 92
    · rw [if_pos h4] at h
      have he := esc_lt (hdr 1)
      exact str_lt n _ _ _ t q (by have := esc_len (l.drop 1); omega) h (app _ he.1) he.2
    rw [if_neg h4] at h
    exact str_lt n _ _ _ t q (by omega) h (app _ (one _ (hd_lt hl))) (hdr 1)
theorem pr_lt : ∀ (l : List Nat), (∀ c ∈ l, c < 16) → ∀ c ∈ prL l, c < 256
  | [], _, c, hc => by cases hc
  | [a], h, c, hc => by
    have := h a (List.mem_cons_self ..)
    rw [List.mem_singleton.1 hc]; omega
  | a :: b :: r, h, c, hc => by
    have h1 := h a (List.mem_cons_self ..)
    have h2 := h b (List.mem_cons_of_mem _ (List.mem_cons_self ..))
    rcases List.mem_cons.1 hc with hc | hc
    · omega
    · exact pr_lt r (fun x hx => h x (List.mem_cons_of_mem _ (List.mem_cons_of_mem _ hx))) c hc
theorem dg_lt : ∀ (l d : List Nat), dgL l = some d → ∀ c ∈ d, c < 16
  | [], d, h, c, hc => by injection h with h; rw [← h] at hc; cases hc
  | x :: r, d, h, c, hc => by
    unfold dgL at h
    split at h
    · exact dg_lt r d h c hc
    · cases e : hexD x with
      | none => rw [e] at h; cases h
      | some v =>
        rw [e] at h
        obtain ⟨d', e2, e3⟩ := Option.map_eq_some_iff.1 h
        rw [← e3] at hc
        rcases List.mem_cons.1 hc with hc | hc
        · rw [hc]; exact hexD_lt e
        · exact dg_lt r d' e2 c hc
theorem valid_txt {k : Int} {t : List Nat} (hk : k = 2 ∨ k = 3) (hl : t.length ≤ 65535) (h0 : k = 2 → ∀ c ∈ t, c ≠ 0) : validB ⟨k, 0, 0, t⟩ = true := by
  unfold validB
  rcases hk with rfl | rfl
  · rw [if_neg (by simp), if_pos rfl, decide_eq_true (show (0 : Int) = 0 ∧ (0 : Int) = 0 from ⟨rfl, rfl⟩), Bool.true_and]
    exact decide_eq_true ⟨hl, h0 rfl⟩
  · rw [if_neg (by simp), if_neg (by simp), if_pos rfl, decide_eq_true (show (0 : Int) = 0 ∧ (0 : Int) = 0 from ⟨rfl, rfl⟩), Bool.true_and]
    exact decide_eq_true hl
def Good (t : TokV) : Prop := validB t = true ∧ ∀ c ∈ t.text, c < 256
theorem good_mark {k : Int} (h : k = 0 ∨ k = 5 ∨ k = 6 ∨ k = 7 ∨ k = 8) : Good ⟨k, 0, 0, []⟩ := by
  refine ⟨?_, fun c hc => (by cases hc)⟩
  rcases h with rfl | rfl | rfl | rfl | rfl <;> rfl
theorem nextG_good {g q : List Nat} {t : TokV} (h : nextG PN g = (0, t, q)) (hg : ∀ c ∈ g, c < 256) : Good t := by
  have hdr : ∀ k, ∀ c ∈ g.drop k, c < 256 := fun k c hc => hg c (List.mem_of_mem_drop hc)
  unfold nextG at h
  split at h
  · injection h with _ h
    injection h with h _
    rw [← h]
    exact good_mark (.inl rfl)
  rename_i h0
  split at h
  · rename_i hr
    have hne : regL g ≠ [] := by
      have := cons_hd h0
      rw [this]
      unfold regL
      rw [List.takeWhile_cons, if_pos hr]
      simp
    have hsub : ∀ c ∈ regL g, c < 256 := fun c hc => hg c (by have := reg_off g; rw [← this]; exact List.mem_append_left _ hc)
    obtain ⟨⟨M, S, E⟩, hE⟩ : ∃ z, PN (regL g) = z := ⟨_, rfl⟩
    unfold plainL at h
    simp only [hE] at h
    split at h
    · rename_i he
      injection h with _ h
      injection h with h _
      subst he
      rw [← h]
      exact ⟨decide_eq_true ⟨parse_valid hE, rfl⟩, fun c hc => (by cases hc)⟩
    · rename_i he
      split at h
      · exact absurd (err_no h) he
      · rename_i h4
        split at h
        · exact absurd (err_no h) (by decide)
        · rename_i hl
          injection h with _ h
          injection h with h _
          rw [← h]
          refine ⟨?_, hsub⟩
          unfold validB
          rw [if_neg (by simp), if_neg (by simp), if_neg (by simp), if_pos rfl, decide_eq_true (show (0 : Int) = 0 ∧ (0 : Int) = 0 from ⟨rfl, rfl⟩), Bool.true_and]
          refine decide_eq_true ⟨fun e => hne (List.eq_nil_of_length_eq_zero e), by show (regL g).length ≤ 127; omega, rg_all g, ?_⟩
          show (PN (regL g)).2.2 = 4
          rw [hE]
          exact Decidable.not_not.1 h4
  split at h
  · rw [(mark_on h).2]; exact good_mark (.inr (.inl rfl))
  split at h
  · rw [(mark_on h).2]; exact good_mark (.inr (.inr (.inl rfl)))
  split at h
  · obtain ⟨a, e1, rfl, hl, -⟩ := lim_on h
    obtain ⟨a', e2, e3⟩ := Option.map_eq_some_iff.1 e1
    injection e3 with e3 _
    subst e3
    have hok := nm_ok _ _ [] a' (Nat.le_refl _) e2 (fun c hc => by cases hc) (fun c hc => ⟨hdr 1 c (by have := reg_off (g.drop 1); rw [← this]; exact List.mem_append_left _ hc), rg_pos (rg_all _ c hc)⟩)
    exact ⟨valid_txt (.inl rfl) hl (fun _ c hc => (hok c hc).2), fun c hc => (hok c hc).1⟩
  split at h
  · obtain ⟨a, e1, rfl, hl, -⟩ := lim_on h
    exact ⟨valid_txt (.inr rfl) hl (fun h => absurd h (by decide)), str_lt _ _ _ _ _ _ (Nat.le_refl _) e1 (fun c hc => by cases hc) (hdr 1)⟩
  split at h
  · split at h
    · rw [(mark_on h).2]; exact good_mark (.inr (.inr (.inr (.inl rfl))))
    · obtain ⟨a, e1, rfl, hl, -⟩ := lim_on h
      unfold hxL at e1
      split at e1
      · cases e1
      · obtain ⟨dd, e2, e3⟩ := Option.map_eq_some_iff.1 e1
        injection e3 with e3 _
        rw [← e3] at hl ⊢
        exact ⟨valid_txt (.inr rfl) hl (fun h => absurd h (by decide)), pr_lt _ (dg_lt _ _ e2)⟩
  split at h
  · split at h
    · rw [(mark_on h).2]; exact good_mark (.inr (.inr (.inr (.inr rfl))))
    · exact absurd (err_no h) (by decide)
  exact absurd (err_no h) (by decide)
/-- What is read is right. -/
theorem next_good {l q : List Nat} {t : TokV} (h : nextL PN l = (0, t, q)) (hl : ∀ c ∈ l, c < 256) : Good t := by
  unfold nextL gapL at h
  obtain ⟨p, e1, _⟩ := gap_pre false l
  exact nextG_good h (fun c hc => hl c (by rw [e1]; exact List.mem_append_right _ hc))
end Go.Proofs.YtdiaijdobglaaaaGreatDoor
