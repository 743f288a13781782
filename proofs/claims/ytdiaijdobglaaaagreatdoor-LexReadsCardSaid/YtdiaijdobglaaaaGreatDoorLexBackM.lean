/- Tokens printed, as pure lists: what is printed is read as itself. No program stands in it. -/
import Derived.Test.YtdiaijdobglaaaaGreatDoorLexOnM
namespace Go.Proofs.YtdiaijdobglaaaaGreatDoor

def dig16 (v : Nat) : Nat := if v < 10 then 48 + v else 87 + v
theorem below16 {p : Nat → Prop} (h : p 0 ∧ p 1 ∧ p 2 ∧ p 3 ∧ p 4 ∧ p 5 ∧ p 6 ∧ p 7 ∧ p 8 ∧ p 9 ∧ p 10 ∧ p 11 ∧ p 12 ∧ p 13 ∧ p 14 ∧ p 15) (v : Nat) (hv : v < 16) : p v := by
  obtain ⟨h0, h1, h2, h3, h4, h5, h6, h7, h8, h9, h10, h11, h12, h13, h14, h15⟩ := h
  rcases (by omega : v = 0 ∨ v = 1 ∨ v = 2 ∨ v = 3 ∨ v = 4 ∨ v = 5 ∨ v = 6 ∨ v = 7 ∨ v = 8 ∨ v = 9 ∨ v = 10 ∨ v = 11 ∨ v = 12 ∨ v = 13 ∨ v = 14 ∨ v = 15) with rfl | rfl | rfl | rfl | rfl | rfl | rfl | rfl | rfl | rfl | rfl | rfl | rfl | rfl | rfl | rfl <;> assumption
theorem dig_hex (v : Nat) (h : v < 16) : hexD (dig16 v) = some v := below16 (p := fun v => hexD (dig16 v) = some v) (by decide) v h
theorem dig_rg (v : Nat) (h : v < 16) : rgB (dig16 v) = true := below16 (p := fun v => rgB (dig16 v) = true) (by decide) v h
theorem dig_sp (v : Nat) (h : v < 16) : spB (dig16 v) = false := below16 (p := fun v => spB (dig16 v) = false) (by decide) v h
theorem dig_no (v : Nat) (h : v < 16) : dig16 v ≠ 60 ∧ dig16 v ≠ 62 := below16 (p := fun v => dig16 v ≠ 60 ∧ dig16 v ≠ 62) (by decide) v h
/-- Does a byte stand for itself in a name? -/
def selfB (c : Nat) : Bool := rgB c && (c != 35 && (decide (33 ≤ c) && decide (c ≤ 126)))
def encN (c : Nat) : List Nat := if selfB c = true then [c] else [35, dig16 (c / 16), dig16 (c % 16)]
def nameE (l : List Nat) : List Nat := l.flatMap encN
def textE (l : List Nat) : List Nat := l.flatMap fun c => [dig16 (c / 16), dig16 (c % 16)]
theorem nameE_cons (c : Nat) (l : List Nat) : nameE (c :: l) = encN c ++ nameE l := by simp [nameE]
theorem textE_cons (c : Nat) (l : List Nat) : textE (c :: l) = dig16 (c / 16) :: dig16 (c % 16) :: textE l := by simp [textE]
theorem nameE_snoc (l : List Nat) (c : Nat) : nameE (l ++ [c]) = nameE l ++ encN c := by simp [nameE]
theorem textE_snoc (l : List Nat) (c : Nat) : textE (l ++ [c]) = textE l ++ [dig16 (c / 16), dig16 (c % 16)] := by simp [textE]
theorem textE_len (l : List Nat) : (textE l).length = 2 * l.length := by
  induction l with
  | nil => rfl
  | cons c l ih => rw [textE_cons]; simp [ih]; omega
theorem encN_len (c : Nat) : 1 ≤ (encN c).length ∧ (encN c).length ≤ 3 := by unfold encN; split <;> simp
theorem nameE_len (l : List Nat) : (nameE l).length ≤ 3 * l.length := by
  induction l with
  | nil => simp [nameE]
  | cons c l ih => rw [nameE_cons, List.length_append]; have := encN_len c; simp; omega
theorem self_in {c : Nat} (h : selfB c = true) : rgB c = true ∧ c ≠ 35 ∧ 33 ≤ c ∧ c ≤ 126 := by
  unfold selfB at h
  simp only [Bool.and_eq_true, bne_iff_ne, decide_eq_true_eq] at h
  exact ⟨h.1, h.2.1, h.2.2.1, h.2.2.2⟩
theorem nameE_rg : ∀ (l : List Nat), (∀ c ∈ l, c < 256) → ∀ x ∈ nameE l, rgB x = true
  | [], _, x, h => by simp [nameE] at h
  | c :: l, hl, x, h => by
    have hc := hl c (List.mem_cons_self ..)
    rw [nameE_cons] at h
    rcases List.mem_append.1 h with h | h
    · unfold encN at h
      split at h
      · rename_i hs
        rw [List.mem_singleton.1 h]
        exact (self_in hs).1
      · simp only [List.mem_cons, List.not_mem_nil, or_false] at h
        rcases h with rfl | rfl | rfl
        · rfl
        · exact dig_rg _ (by omega)
        · exact dig_rg _ (by omega)
    · exact nameE_rg l (fun y hy => hl y (List.mem_cons_of_mem _ hy)) x h
theorem nm_enc : ∀ (l acc : List Nat), (∀ c ∈ l, c < 256 ∧ c ≠ 0) → nmL acc (nameE l) = some (acc ++ l)
  | [], acc, _ => by rw [nmL_eq, if_pos (by rfl), List.append_nil]
  | c :: l, acc, hl => by
    obtain ⟨h1, h2⟩ := hl c (List.mem_cons_self ..)
    have ih := nm_enc l (acc ++ [c]) (fun y hy => hl y (List.mem_cons_of_mem _ hy))
    rw [List.append_assoc] at ih
    rw [nameE_cons, nmL_eq]
    unfold encN
    by_cases hs : selfB c = true
    · rw [if_pos hs, if_neg (by simp), if_pos (show hd ([c] ++ nameE l) ≠ 35 from (self_in hs).2.1)]
      exact ih
    · rw [if_neg hs, if_neg (by simp), if_neg (show ¬ hd ([35, dig16 (c / 16), dig16 (c % 16)] ++ nameE l) ≠ 35 from fun h => h rfl), if_neg (by simp)]
      have e1 : hexD (hd (([35, dig16 (c / 16), dig16 (c % 16)] ++ nameE l).drop 1)) = some (c / 16) := dig_hex _ (by omega)
      have e2 : hexD (hd (([35, dig16 (c / 16), dig16 (c % 16)] ++ nameE l).drop 2)) = some (c % 16) := dig_hex _ (by omega)
      rw [e1, e2]
      have e3 : 16 * (c / 16) + c % 16 = c := by omega
      simp only [e3, if_neg h2]
      exact ih
theorem cut_enc : ∀ (l z : List Nat), (∀ c ∈ l, c < 256) → cutGt (textE l ++ 62 :: z) = some (textE l, z)
  | [], z, _ => by show cutGt (62 :: z) = _; rw [cutGt, if_pos rfl]; rfl
  | c :: l, z, hl => by
    have hc := hl c (List.mem_cons_self ..)
    have ih := cut_enc l z (fun y hy => hl y (List.mem_cons_of_mem _ hy))
    rw [textE_cons]
    show cutGt (dig16 (c / 16) :: dig16 (c % 16) :: (textE l ++ 62 :: z)) = _
    rw [cutGt, if_neg (dig_no _ (by omega)).2, cutGt, if_neg (dig_no _ (by omega)).2, ih]
    rfl
def digs16 (l : List Nat) : List Nat := l.flatMap fun c => [c / 16, c % 16]
theorem dg_enc : ∀ (l : List Nat), (∀ c ∈ l, c < 256) → dgL (textE l) = some (digs16 l)
  | [], _ => rfl
  | c :: l, hl => by
    have hc := hl c (List.mem_cons_self ..)
    have ih := dg_enc l (fun y hy => hl y (List.mem_cons_of_mem _ hy))
    rw [textE_cons, dgL, if_neg (by rw [dig_sp _ (by omega)]; decide), dig_hex _ (by omega)]
    simp only
    rw [dgL, if_neg (by rw [dig_sp _ (by omega)]; decide), dig_hex _ (by omega)]
    simp only
    rw [ih]
    simp [digs16]
theorem pr_digs : ∀ (l : List Nat), prL (digs16 l) = l
  | [] => rfl
  | c :: l => by
    have ih := pr_digs l
    have e : digs16 (c :: l) = c / 16 :: c % 16 :: digs16 l := by simp [digs16]
    rw [e, prL, ih, show 16 * (c / 16) + c % 16 = c by omega]
section
variable (P : List Nat → Int × Int × Int) (D : Int → Int → List Nat)
/-- Is a token right? P reads numbers, V tells which are. -/
structure RightT (V : Int → Int → Prop) (t : TokV) : Prop where
  byte : ∀ c ∈ t.text, c < 256
  range : 0 ≤ t.kind ∧ t.kind ≤ 8
  plain : t.kind ≠ 1 → t.m = 0 ∧ t.s = 0
  num : t.kind = 1 → V t.m t.s ∧ t.text = []
  name : t.kind = 2 → t.text.length ≤ 65535 ∧ ∀ c ∈ t.text, c ≠ 0
  text : t.kind = 3 → t.text.length ≤ 65535
  word : t.kind = 4 → t.text ≠ [] ∧ t.text.length ≤ 127 ∧ (∀ c ∈ t.text, rgB c = true) ∧ (P t.text).2.2 = 4
  mark : t.kind = 0 ∨ 5 ≤ t.kind → t.text = []
/-- A token printed. D prints numbers. -/
def printT (t : TokV) : List Nat :=
  if t.kind = 1 then D t.m t.s else if t.kind = 2 then 47 :: nameE t.text else if t.kind = 3 then 60 :: (textE t.text ++ [62]) else if t.kind = 4 then t.text
  else if t.kind = 5 then [91] else if t.kind = 6 then [93] else if t.kind = 7 then [60, 60] else if t.kind = 8 then [62, 62] else []
theorem gap_at {c : Nat} {r : List Nat} (h : spB c = false) (h2 : c ≠ 37) : gapL (c :: r) = c :: r := by
  unfold gapL
  rw [gapM, if_neg (by rw [h]; decide), if_neg h2]
theorem rg_no {c : Nat} (h : rgB c = true) : spB c = false ∧ c ≠ 37 := by
  unfold rgB at h
  simp only [Bool.and_eq_true, Bool.not_eq_true'] at h
  refine ⟨h.1, ?_⟩
  rintro rfl
  exact absurd h.2 (by decide)
theorem next_reg {l m : List Nat} {s : Nat} (hl : ∀ c ∈ l, rgB c = true) (hne : l ≠ []) (hs : spB s = true) : nextL P (l ++ s :: m) = plainL P l (s :: m) := by
  cases l with
  | nil => exact absurd rfl hne
  | cons c r =>
    have hc := hl c (List.mem_cons_self ..)
    obtain ⟨k1, k2⟩ := reg_stop (z := m) hl (sp_rg hs)
    unfold nextL
    rw [List.cons_append, gap_at (rg_no hc).1 (rg_no hc).2, ← List.cons_append]
    unfold nextG
    rw [if_neg (by simp), if_pos (show rgB (hd (c :: r ++ s :: m)) = true from hc), k1, k2]
theorem next_other {c : Nat} {z : List Nat} (hs : spB c = false) (hp : c ≠ 37) (hr : rgB c = false) : nextL P (c :: z) = if c = 91 then (0, ⟨5, 0, 0, []⟩, z)
      else if c = 93 then (0, ⟨6, 0, 0, []⟩, z)
      else if c = 47 then limL 2 ((nmL [] (regL z)).map fun t => (t, offL z))
      else if c = 40 then limL 3 (strL 1 [] z)
      else if c = 60 then (if hd z = 60 then (0, ⟨7, 0, 0, []⟩, z.drop 1) else limL 3 (hxL z))
      else if c = 62 then (if hd z = 62 then (0, ⟨8, 0, 0, []⟩, z.drop 1) else errN 4)
      else errN 4 := by
  unfold nextL
  rw [gap_at hs hp]
  unfold nextG
  rw [if_neg (by simp), if_neg (show ¬ rgB (hd (c :: z)) = true by show ¬ rgB c = true; rw [hr]; decide)]
  rfl
variable {P D}
theorem next_print {V : Int → Int → Prop} {t : TokV} (h : RightT P V t) (hk : t.kind ≠ 0) (hD : V t.m t.s → P (D t.m t.s) = (t.m, t.s, 0) ∧ D t.m t.s ≠ [] ∧ ∀ c ∈ D t.m t.s, rgB c = true) (m : List Nat) {s : Nat} (hs : spB s = true) :
    nextL P (printT D t ++ s :: m) = (0, t, s :: m) := by
  obtain ⟨kind, mm, ss, text⟩ := t
  obtain ⟨hr0, hr1⟩ := h.range
  have hP := h.plain
  have hN := h.num
  have hM := h.name
  have hT := h.text
  have hW := h.word
  have hK := h.mark
  have hB := h.byte
  simp only at hk hD hr0 hr1 hP hN hM hT hW hK hB
  rcases (by omega : kind = 1 ∨ kind = 2 ∨ kind = 3 ∨ kind = 4 ∨ kind = 5 ∨ kind = 6 ∨ kind = 7 ∨ kind = 8) with rfl | rfl | rfl | rfl | rfl | rfl | rfl | rfl
  · obtain ⟨hv, rfl⟩ := hN rfl
    obtain ⟨h1, h2, h3⟩ := hD hv
    show nextL P (D mm ss ++ s :: m) = _
    rw [next_reg P h3 h2 hs]
    unfold plainL
    rw [h1, if_pos rfl]
  · obtain ⟨rfl, rfl⟩ := hP (by decide)
    obtain ⟨hl, h0⟩ := hM rfl
    show nextL P (47 :: (nameE text ++ s :: m)) = _
    obtain ⟨k1, k2⟩ := reg_stop (z := m) (nameE_rg text hB) (sp_rg hs)
    rw [next_other P (by decide) (by decide) (by decide), if_neg (by decide), if_neg (by decide), if_pos rfl, k1, k2, nm_enc text [] (fun c hc => ⟨hB c hc, h0 c hc⟩)]
    show limL 2 (some (text, s :: m)) = _
    unfold limL
    simp only
    rw [if_neg (by omega)]
  · obtain ⟨rfl, rfl⟩ := hP (by decide)
    have hl := hT rfl
    show nextL P (60 :: (textE text ++ [62] ++ s :: m)) = _
    have hh : ¬ hd (textE text ++ [62] ++ s :: m) = 60 := by
      cases text with
      | nil => exact (by decide : ¬ (62 : Nat) = 60)
      | cons c r =>
        rw [textE_cons]
        have := hB c (List.mem_cons_self ..)
        exact (dig_no (c / 16) (by omega)).1
    rw [next_other P (by decide) (by decide) (by decide), if_neg (by decide), if_neg (by decide), if_neg (by decide), if_neg (by decide), if_pos rfl, if_neg hh]
    unfold hxL
    rw [List.append_assoc, List.singleton_append, cut_enc text _ hB]
    show limL 3 ((dgL (textE text)).map fun d => (prL d, s :: m)) = _
    rw [dg_enc text hB]
    show limL 3 (some (prL (digs16 text), s :: m)) = _
    rw [pr_digs]
    unfold limL
    simp only
    rw [if_neg (by omega)]
  · obtain ⟨rfl, rfl⟩ := hP (by decide)
    obtain ⟨h1, h2, h3, h4⟩ := hW rfl
    show nextL P (text ++ s :: m) = _
    rw [next_reg P h3 h1 hs]
    unfold plainL
    rw [h4, if_neg (by decide), if_neg (by decide), if_neg (by omega)]
  · obtain ⟨rfl, rfl⟩ := hP (by decide)
    obtain rfl : text = [] := hK (.inr (by decide))
    show nextL P (91 :: (s :: m)) = _
    rw [next_other P (by decide) (by decide) (by decide), if_pos rfl]
  · obtain ⟨rfl, rfl⟩ := hP (by decide)
    obtain rfl : text = [] := hK (.inr (by decide))
    show nextL P (93 :: (s :: m)) = _
    rw [next_other P (by decide) (by decide) (by decide), if_neg (by decide), if_pos rfl]
  · obtain ⟨rfl, rfl⟩ := hP (by decide)
    obtain rfl : text = [] := hK (.inr (by decide))
    show nextL P (60 :: (60 :: s :: m)) = _
    rw [next_other P (by decide) (by decide) (by decide), if_neg (by decide), if_neg (by decide), if_neg (by decide), if_neg (by decide), if_pos rfl, if_pos (show hd (60 :: s :: m) = 60 from rfl)]
    rfl
  · obtain ⟨rfl, rfl⟩ := hP (by decide)
    obtain rfl : text = [] := hK (.inr (by decide))
    show nextL P (62 :: (62 :: s :: m)) = _
    rw [next_other P (by decide) (by decide) (by decide), if_neg (by decide), if_neg (by decide), if_neg (by decide), if_neg (by decide), if_neg (by decide), if_pos rfl, if_pos (show hd (62 :: s :: m) = 62 from rfl)]
    rfl
end
end Go.Proofs.YtdiaijdobglaaaaGreatDoor
