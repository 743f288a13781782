/- The next token of bytes, as pure lists; what stands behind a token turns nothing. No program stands in it. -/
import Derived.Test.YtdiaijdobglaaaaGreatDoorLexMath
namespace Go.Proofs.YtdiaijdobglaaaaGreatDoor

section
variable (P : List Nat → Int × Int × Int)
/-- A row of others: a number or a word. P reads numbers. -/
def plainL (t r : List Nat) : NX :=
  if (P t).2.2 = 0 then (0, ⟨1, (P t).1, (P t).2.1, []⟩, r) else if (P t).2.2 ≠ 4 then errN (P t).2.2 else if 127 < t.length then errN 2 else (0, ⟨4, 0, 0, t⟩, r)
def nextG (g : List Nat) : NX :=
  if g.length = 0 then (0, noTok, g)
  else if rgB (hd g) = true then plainL P (regL g) (offL g)
  else if hd g = 91 then (0, ⟨5, 0, 0, []⟩, g.drop 1)
  else if hd g = 93 then (0, ⟨6, 0, 0, []⟩, g.drop 1)
  else if hd g = 47 then limL 2 ((nmL [] (regL (g.drop 1))).map fun t => (t, offL (g.drop 1)))
  else if hd g = 40 then limL 3 (strL 1 [] (g.drop 1))
  else if hd g = 60 then (if hd (g.drop 1) = 60 then (0, ⟨7, 0, 0, []⟩, g.drop 2) else limL 3 (hxL (g.drop 1)))
  else if hd g = 62 then (if hd (g.drop 1) = 62 then (0, ⟨8, 0, 0, []⟩, g.drop 2) else errN 4)
  else errN 4
def nextL (l : List Nat) : NX := nextG P (gapL l)
end
theorem gap_pre : ∀ (b : Bool) (l : List Nat), ∃ p, l = p ++ gapM b l ∧ ∀ c r r', gapM b l = c :: r → gapM b (p ++ c :: r') = c :: r'
  | b, [] => ⟨[], by cases b <;> rfl, fun c r r' h => by cases b <;> cases h⟩
  | false, c :: l => by
    by_cases h1 : spB c = true
    · obtain ⟨p, e1, e2⟩ := gap_pre false l
      have e : gapM false (c :: l) = gapM false l := by rw [gapM, if_pos h1]
      refine ⟨c :: p, by rw [e]; show c :: l = c :: (p ++ _); rw [← e1], fun d r r' h => ?_⟩
      rw [e] at h
      show gapM false (c :: (p ++ d :: r')) = _
      rw [gapM, if_pos h1]
      exact e2 d r r' h
    · by_cases h2 : c = 37
      · obtain ⟨p, e1, e2⟩ := gap_pre true l
        have e : gapM false (c :: l) = gapM true l := by rw [gapM, if_neg h1, if_pos h2]
        refine ⟨c :: p, by rw [e]; show c :: l = c :: (p ++ _); rw [← e1], fun d r r' h => ?_⟩
        rw [e] at h
        show gapM false (c :: (p ++ d :: r')) = _
        rw [gapM, if_neg h1, if_pos h2]
        exact e2 d r r' h
      · have e : gapM false (c :: l) = c :: l := by rw [gapM, if_neg h1, if_neg h2]
        refine ⟨[], by rw [e]; rfl, fun d r r' h => ?_⟩
        rw [e] at h
        injection h with h3 h4
        subst h3
        show gapM false (c :: r') = _
        rw [gapM, if_neg h1, if_neg h2]
  | true, c :: l => by
    by_cases h1 : c = 10 ∨ c = 13
    · obtain ⟨p, e1, e2⟩ := gap_pre false l
      have e : gapM true (c :: l) = gapM false l := by rw [gapM, if_pos h1]
      refine ⟨c :: p, by rw [e]; show c :: l = c :: (p ++ _); rw [← e1], fun d r r' h => ?_⟩
      rw [e] at h
      show gapM true (c :: (p ++ d :: r')) = _
      rw [gapM, if_pos h1]
      exact e2 d r r' h
    · obtain ⟨p, e1, e2⟩ := gap_pre true l
      have e : gapM true (c :: l) = gapM true l := by rw [gapM, if_neg h1]
      refine ⟨c :: p, by rw [e]; show c :: l = c :: (p ++ _); rw [← e1], fun d r r' h => ?_⟩
      rw [e] at h
      show gapM true (c :: (p ++ d :: r')) = _
      rw [gapM, if_neg h1]
      exact e2 d r r' h
theorem rg_all : ∀ (l : List Nat), ∀ c ∈ regL l, rgB c = true
  | [], c, h => by simp [regL] at h
  | a :: l, c, h => by
    unfold regL at h
    rw [List.takeWhile_cons] at h
    cases ha : rgB a
    · rw [ha] at h; simp at h
    · rw [ha, if_pos rfl] at h
      rcases List.mem_cons.1 h with rfl | h
      · exact ha
      · exact rg_all l c h
theorem reg_stop {p z : List Nat} {s : Nat} (hp : ∀ c ∈ p, rgB c = true) (hs : rgB s = false) : regL (p ++ s :: z) = p ∧ offL (p ++ s :: z) = s :: z := by
  unfold regL offL
  induction p with
  | nil => exact ⟨by simp [hs], by simp [hs]⟩
  | cons a p ih =>
    have h1 := hp a (List.mem_cons_self ..)
    obtain ⟨i1, i2⟩ := ih (fun c hc => hp c (List.mem_cons_of_mem _ hc))
    simp only [List.cons_append, List.takeWhile_cons, List.dropWhile_cons, h1, if_true]
    exact ⟨by rw [i1], i2⟩
theorem cons_hd {l : List Nat} (h : l.length ≠ 0) : l = hd l :: l.drop 1 := by
  cases l with
  | nil => exact absurd rfl h
  | cons a r => rfl
theorem hd_app {p z : List Nat} (h : p ≠ []) : hd (p ++ z) = hd p := by
  cases p with
  | nil => exact absurd rfl h
  | cons a r => rfl
theorem drop1_app {p z : List Nat} (h : p ≠ []) : (p ++ z).drop 1 = p.drop 1 ++ z := by
  cases p with
  | nil => exact absurd rfl h
  | cons a r => rfl
theorem skN_app {p z : List Nat} (h : p ≠ []) : skN (p ++ z) = (if hd p = 10 then p.drop 1 else p) ++ z := by
  unfold skN
  rw [hd_app h]
  split
  · exact drop1_app h
  · rfl
/-- What a text in brackets reads is a beginning of the bytes, whatever stands behind it. -/
def Reads (d : Nat) (acc l t q : List Nat) : Prop := ∃ p, p ≠ [] ∧ l = p ++ q ∧ ∀ z, strL d acc (p ++ z) = some (t, z)
theorem str_pre : ∀ (n d : Nat) (acc l t q : List Nat), l.length ≤ n → strL d acc l = some (t, q) → Reads d acc l t q
  | 0, d, acc, l, t, q, hn, h => by
    rw [strL_eq, if_pos (by omega)] at h
    cases h
  | n + 1, d, acc, l, t, q, hn, h => by
    have hne : l.length ≠ 0 := by
      intro e
      rw [strL_eq, if_pos e] at h
      cases h
    have hl := cons_hd hne
    generalize hc : hd l = c at hl
    generalize hr : l.drop 1 = r at hl
    have hrn : r.length ≤ n := by rw [← hr, List.length_drop]; omega
    have hstep : ∀ z : List Nat, strL d acc (c :: z) = if c = 40 then strL (d + 1) (acc ++ [40]) z
        else if c = 41 then (if d = 1 then some (acc, z) else strL (d - 1) (acc ++ [41]) z)
        else if c = 13 then strL d (acc ++ [10]) (skN z)
        else if c = 92 then strL d (acc ++ (escL z).1) (escL z).2
        else strL d (acc ++ [c]) z := fun z => by
      rw [strL_eq, if_neg (by simp)]
      rfl
    rw [hl, hstep] at h
    -- one more byte, and then some
    have one : ∀ (d' : Nat) (acc' : List Nat), (∀ z, strL d acc (c :: z) = strL d' acc' z) → strL d' acc' r = some (t, q) → Reads d acc l t q := fun d' acc' hs h' => by
      obtain ⟨p, hp, e, hz⟩ := str_pre n d' acc' r t q hrn h'
      exact ⟨c :: p, by simp, by rw [hl, e]; rfl, fun z => by rw [List.cons_append, hs]; exact hz z⟩
    by_cases h40 : c = 40
    · rw [if_pos h40] at h
      exact one _ _ (fun z => by rw [hstep, if_pos h40]) h
    rw [if_neg h40] at h
    by_cases h41 : c = 41
    · rw [if_pos h41] at h
      by_cases hd1 : d = 1
      · rw [if_pos hd1] at h
        injection h with h
        injection h with h1 h2
        subst h1 h2
        exact ⟨[c], by simp, by rw [hl]; rfl, fun z => by rw [List.cons_append, hstep, if_neg h40, if_pos h41, if_pos hd1]; rfl⟩
      · rw [if_neg hd1] at h
        exact one _ _ (fun z => by rw [hstep, if_neg h40, if_pos h41, if_neg hd1]) h
    rw [if_neg h41] at h
    by_cases h13 : c = 13
    · rw [if_pos h13] at h
      have hs : ∀ z, strL d acc (c :: z) = strL d (acc ++ [10]) (skN z) := fun z => by rw [hstep, if_neg h40, if_neg h41, if_pos h13]
      unfold skN at h
      by_cases h10 : hd r = 10
      · rw [if_pos h10] at h
        obtain ⟨p, hp, e, hz⟩ := str_pre n d _ (r.drop 1) t q (by rw [List.length_drop]; omega) h
        have hrl : r = 10 :: r.drop 1 := by
          have := cons_hd (l := r) (by intro e0; rw [List.eq_nil_of_length_eq_zero e0] at h10; cases h10)
          rwa [h10] at this
        refine ⟨c :: 10 :: p, by simp, by rw [hl, hrl, e]; rfl, fun z => ?_⟩
        rw [List.cons_append, hs, List.cons_append]
        show strL d (acc ++ [10]) (skN (10 :: (p ++ z))) = _
        have : skN (10 :: (p ++ z)) = p ++ z := rfl
        rw [this]
        exact hz z
      · rw [if_neg h10] at h
        obtain ⟨p, hp, e, hz⟩ := str_pre n d _ r t q hrn h
        refine ⟨c :: p, by simp, by rw [hl, e]; rfl, fun z => ?_⟩
        rw [List.cons_append, hs, skN_app hp, if_neg (by rw [e, hd_app hp] at h10; exact h10)]
        exact hz z
    rw [if_neg h13] at h
    by_cases h92 : c = 92
    · rw [if_pos h92] at h
      have hs : ∀ z, strL d acc (c :: z) = strL d (acc ++ (escL z).1) (escL z).2 := fun z => by rw [hstep, if_neg h40, if_neg h41, if_neg h13, if_pos h92]
      have hrne : r.length ≠ 0 := by
        intro e0
        have : escL r = ([], []) := by unfold escL; rw [if_pos e0]
        rw [this] at h
        simp only [List.append_nil] at h
        rw [strL_eq, if_pos (show ([] : List Nat).length = 0 from rfl)] at h
        cases h
      obtain ⟨p, hp, e, hz⟩ := str_pre n d _ (escL r).2 t q (by have := esc_len r; omega) h
      have hrl := cons_hd hrne
      generalize hx : hd r = x at hrl
      generalize hr2 : r.drop 1 = r2 at hrl
      subst hrl
      have he : ∀ z, escL (x :: z) = match escB x with
          | some c => ([c], z)
          | none => if x = 10 then ([], z) else if x = 13 then ([], skN z) else if octB x = true then octL (x :: z) else ([x], z) := fun z => by
        unfold escL
        rw [if_neg (by simp)]
        rfl
      -- what the escape takes, and what stands behind
      have key : ∃ pe, x :: r2 = pe ++ (p ++ q) ∧ pe ≠ [] ∧ ∀ z, escL (pe ++ (p ++ z)) = ((escL (x :: r2)).1, p ++ z) := by
        rw [he] at e ⊢
        cases hb : escB x with
        | some y =>
          rw [hb] at e
          refine ⟨[x], by rw [show r2 = p ++ q from e]; rfl, by simp, fun z => ?_⟩
          rw [List.cons_append, List.nil_append, he, hb]
        | none =>
          rw [hb] at e
          simp only at e ⊢
          by_cases x10 : x = 10
          · rw [if_pos x10] at e ⊢
            refine ⟨[x], by rw [show r2 = p ++ q from e]; rfl, by simp, fun z => ?_⟩
            rw [List.cons_append, List.nil_append, he, hb]
            simp only
            rw [if_pos x10]
          rw [if_neg x10] at e ⊢
          by_cases x13 : x = 13
          · rw [if_pos x13] at e ⊢
            by_cases h10 : hd r2 = 10
            · have hr2l : r2 = 10 :: r2.drop 1 := by
                have := cons_hd (l := r2) (by intro e0; rw [List.eq_nil_of_length_eq_zero e0] at h10; cases h10)
                rwa [h10] at this
              have e' : r2.drop 1 = p ++ q := by
                have : skN r2 = r2.drop 1 := by unfold skN; rw [if_pos h10]
                rw [← this]; exact e
              refine ⟨[x, 10], by rw [hr2l, e']; rfl, by simp, fun z => ?_⟩
              rw [List.cons_append, he, hb]
              simp only
              rw [if_neg x10, if_pos x13]
              rfl
            · have e' : r2 = p ++ q := by
                have : skN r2 = r2 := by unfold skN; rw [if_neg h10]
                rw [← this]; exact e
              refine ⟨[x], by rw [e']; rfl, by simp, fun z => ?_⟩
              rw [List.cons_append, List.nil_append, he, hb]
              simp only
              rw [if_neg x10, if_pos x13, skN_app hp, if_neg (by rw [e', hd_app hp] at h10; exact h10)]
          rw [if_neg x13] at e ⊢
          by_cases xo : octB x = true
          · rw [if_pos xo] at e ⊢
            have ho : ∀ z, octL (x :: z) = if octB (hd z) = true then
                if octB (hd (z.drop 1)) = true then ([(64 * (x - 48) + 8 * (hd z - 48) + (hd (z.drop 1) - 48)) % 256], z.drop 2)
                else ([8 * (x - 48) + (hd z - 48)], z.drop 1)
              else ([x - 48], z) := fun z => rfl
            rw [ho] at e ⊢
            by_cases o1 : octB (hd r2) = true
            · rw [if_pos o1] at e ⊢
              have hr2l : r2 = hd r2 :: r2.drop 1 := cons_hd (by intro e0; rw [List.eq_nil_of_length_eq_zero e0] at o1; cases o1)
              by_cases o2 : octB (hd (r2.drop 1)) = true
              · rw [if_pos o2] at e ⊢
                have hr3l : r2.drop 1 = hd (r2.drop 1) :: r2.drop 2 := by
                  have := cons_hd (l := r2.drop 1) (by intro e0; rw [List.eq_nil_of_length_eq_zero e0] at o2; cases o2)
                  rwa [List.drop_drop] at this
                have hsp : r2 = hd r2 :: hd (r2.drop 1) :: (p ++ q) := by rw [← show r2.drop 2 = p ++ q from e, ← hr3l]; exact hr2l
                refine ⟨[x, hd r2, hd (r2.drop 1)], congrArg (x :: ·) hsp, by simp, fun z => ?_⟩
                rw [show [x, hd r2, hd (r2.drop 1)] ++ (p ++ z) = x :: hd r2 :: hd (r2.drop 1) :: (p ++ z) from rfl, he, hb]
                simp only
                rw [if_neg x10, if_neg x13, if_pos xo, ho, if_pos (show octB (hd (hd r2 :: hd (r2.drop 1) :: (p ++ z))) = true from o1), if_pos (show octB (hd ((hd r2 :: hd (r2.drop 1) :: (p ++ z)).drop 1)) = true from o2)]
                rfl
              · rw [if_neg o2] at e ⊢
                have hsp : r2 = hd r2 :: (p ++ q) := by rw [← show r2.drop 1 = p ++ q from e]; exact hr2l
                refine ⟨[x, hd r2], congrArg (x :: ·) hsp, by simp, fun z => ?_⟩
                have o2' : ¬ octB (hd p) = true := by rw [show r2.drop 1 = p ++ q from e, hd_app hp] at o2; exact o2
                rw [show [x, hd r2] ++ (p ++ z) = x :: hd r2 :: (p ++ z) from rfl, he, hb]
                simp only
                rw [if_neg x10, if_neg x13, if_pos xo, ho, if_pos (show octB (hd (hd r2 :: (p ++ z))) = true from o1), if_neg (show ¬ octB (hd ((hd r2 :: (p ++ z)).drop 1)) = true by show ¬ octB (hd (p ++ z)) = true; rw [hd_app hp]; exact o2')]
                rfl
            · rw [if_neg o1] at e ⊢
              have o1' : ¬ octB (hd p) = true := by rw [show r2 = p ++ q from e, hd_app hp] at o1; exact o1
              refine ⟨[x], by rw [show r2 = p ++ q from e]; rfl, by simp, fun z => ?_⟩
              rw [show [x] ++ (p ++ z) = x :: (p ++ z) from rfl, he, hb]
              simp only
              rw [if_neg x10, if_neg x13, if_pos xo, ho, if_neg (by rw [hd_app hp]; exact o1')]
          · rw [if_neg xo] at e ⊢
            refine ⟨[x], by rw [show r2 = p ++ q from e]; rfl, by simp, fun z => ?_⟩
            rw [show [x] ++ (p ++ z) = x :: (p ++ z) from rfl, he, hb]
            simp only
            rw [if_neg x10, if_neg x13, if_neg xo]
      obtain ⟨pe, k1, k2, k3⟩ := key
      refine ⟨c :: (pe ++ p), by simp, by rw [hl, k1]; simp, fun z => ?_⟩
      rw [List.cons_append, hs, List.append_assoc, k3]
      exact hz z
    · rw [if_neg h92] at h
      exact one _ _ (fun z => by rw [hstep, if_neg h40, if_neg h41, if_neg h13, if_neg h92]) h
theorem cut_pre : ∀ (l b r : List Nat), cutGt l = some (b, r) → l = b ++ 62 :: r ∧ ∀ z, cutGt (b ++ 62 :: z) = some (b, z)
  | [], b, r, h => by cases h
  | c :: l, b, r, h => by
    rw [cutGt] at h
    by_cases hc : c = 62
    · rw [if_pos hc] at h
      injection h with h
      injection h with h1 h2
      subst h1 h2 hc
      exact ⟨rfl, fun z => by rw [List.nil_append, cutGt, if_pos rfl]⟩
    · rw [if_neg hc] at h
      obtain ⟨⟨b', r'⟩, e1, e2⟩ := Option.map_eq_some_iff.1 h
      injection e2 with e2 e3
      subst e2 e3
      obtain ⟨i1, i2⟩ := cut_pre l b' r' e1
      exact ⟨by rw [i1]; rfl, fun z => by rw [List.cons_append, cutGt, if_neg hc, i2]; rfl⟩
section
variable {P : List Nat → Int × Int × Int}
theorem err_no {e : Int} {t : TokV} {q : List Nat} (h : errN e = (0, t, q)) : e = 0 := by
  have := congrArg Prod.fst h
  exact this
theorem plain_on {a r q : List Nat} {t : TokV} (h : plainL P a r = (0, t, q)) : q = r ∧ ∀ z, plainL P a z = (0, t, z) := by
  unfold plainL at h ⊢
  by_cases h0 : (P a).2.2 = 0
  · rw [if_pos h0] at h
    injection h with _ h
    injection h with h1 h2
    subst h1 h2
    exact ⟨rfl, fun z => by rw [if_pos h0]⟩
  · rw [if_neg h0] at h
    by_cases h4 : (P a).2.2 ≠ 4
    · rw [if_pos h4] at h
      exact absurd (err_no h) h0
    · rw [if_neg h4] at h
      by_cases hl : 127 < a.length
      · rw [if_pos hl] at h
        exact absurd (err_no h) (by decide)
      · rw [if_neg hl] at h
        injection h with _ h
        injection h with h1 h2
        subst h1 h2
        exact ⟨rfl, fun z => by rw [if_neg h0, if_neg h4, if_neg hl]⟩
theorem lim_on {k : Int} {o : Option (List Nat × List Nat)} {t : TokV} {q : List Nat} (h : limL k o = (0, t, q)) : ∃ a, o = some (a, q) ∧ t = ⟨k, 0, 0, a⟩ ∧ a.length ≤ 65535 ∧ ∀ z, limL k (some (a, z)) = (0, t, z) := by
  cases o with
  | none => exact absurd (err_no h) (by decide)
  | some x =>
    obtain ⟨a, r⟩ := x
    unfold limL at h ⊢
    simp only at h ⊢
    by_cases hl : 65535 < a.length
    · rw [if_pos hl] at h
      exact absurd (err_no h) (by decide)
    · rw [if_neg hl] at h
      injection h with _ h
      injection h with h1 h2
      subst h1 h2
      exact ⟨a, rfl, rfl, by omega, fun z => by rw [if_neg hl]⟩
theorem mark_on {k : Int} {r q : List Nat} {t : TokV} (h : ((0, ⟨k, 0, 0, []⟩, r) : NX) = (0, t, q)) : q = r ∧ t = ⟨k, 0, 0, []⟩ := by
  injection h with _ h
  injection h with h1 h2
  exact ⟨h2.symm, h1.symm⟩
theorem sp_rg {s : Nat} (h : spB s = true) : rgB s = false := by unfold rgB; rw [h]; rfl
theorem nextG_on {g q : List Nat} {t : TokV} (h : nextG P g = (0, t, q)) (hk : t.kind ≠ 0) : ∃ c p, g = c :: p ++ q ∧ ∀ s m, spB s = true → nextG P (c :: p ++ s :: m) = (0, t, s :: m) := by
  unfold nextG at h
  by_cases h0 : g.length = 0
  · rw [if_pos h0] at h
    injection h with _ h
    injection h with h1 _
    subst h1
    exact absurd rfl hk
  rw [if_neg h0] at h
  have hg := cons_hd h0
  by_cases hr : rgB (hd g) = true
  · rw [if_pos hr] at h
    obtain ⟨rfl, hp⟩ := plain_on h
    have hne : regL g = hd g :: regL (g.drop 1) := by
      conv => lhs; rw [hg]
      unfold regL
      rw [List.takeWhile_cons, if_pos hr]
    refine ⟨hd g, regL (g.drop 1), by rw [← hne]; exact (reg_off g).symm, fun s m hs => ?_⟩
    rw [← hne]
    obtain ⟨e1, e2⟩ := reg_stop (p := regL g) (z := m) (rg_all g) (sp_rg hs)
    unfold nextG
    rw [if_neg (by simp), if_pos (by rw [hne]; exact hr), e1, e2]
    exact hp _
  rw [if_neg hr] at h
  generalize hd g = c at hg h hr
  generalize hrr : g.drop 1 = r at hg h
  subst hg
  have hd2 : (c :: r).drop 2 = r.drop 1 := rfl
  have hG : ∀ z, nextG P (c :: z) = if c = 91 then (0, ⟨5, 0, 0, []⟩, z)
      else if c = 93 then (0, ⟨6, 0, 0, []⟩, z)
      else if c = 47 then limL 2 ((nmL [] (regL z)).map fun t => (t, offL z))
      else if c = 40 then limL 3 (strL 1 [] z)
      else if c = 60 then (if hd z = 60 then (0, ⟨7, 0, 0, []⟩, z.drop 1) else limL 3 (hxL z))
      else if c = 62 then (if hd z = 62 then (0, ⟨8, 0, 0, []⟩, z.drop 1) else errN 4)
      else errN 4 := fun z => by
    unfold nextG
    rw [if_neg (by simp), if_neg (show ¬ rgB (hd (c :: z)) = true from hr)]
    rfl
  rw [hd2] at h
  by_cases h91 : c = 91
  · rw [if_pos h91] at h
    obtain ⟨rfl, rfl⟩ := mark_on h
    exact ⟨c, [], rfl, fun s m _ => by rw [List.cons_append, hG, if_pos h91]; rfl⟩
  rw [if_neg h91] at h
  by_cases h93 : c = 93
  · rw [if_pos h93] at h
    obtain ⟨rfl, rfl⟩ := mark_on h
    exact ⟨c, [], rfl, fun s m _ => by rw [List.cons_append, hG, if_neg h91, if_pos h93]; rfl⟩
  rw [if_neg h93] at h
  by_cases h47 : c = 47
  · rw [if_pos h47] at h
    obtain ⟨a, e1, rfl, -, hl⟩ := lim_on h
    obtain ⟨b, e2, e3⟩ := Option.map_eq_some_iff.1 e1
    injection e3 with e3 e4
    subst e3 e4
    refine ⟨c, regL r, by rw [List.cons_append, reg_off], fun s m hs => ?_⟩
    obtain ⟨k1, k2⟩ := reg_stop (p := regL r) (z := m) (rg_all r) (sp_rg hs)
    rw [List.cons_append, hG, if_neg h91, if_neg h93, if_pos h47, k1, k2, e2]
    exact hl _
  rw [if_neg h47] at h
  by_cases h40 : c = 40
  · rw [if_pos h40] at h
    obtain ⟨a, e1, rfl, -, hl⟩ := lim_on h
    obtain ⟨p, hp, e2, hz⟩ := str_pre _ _ _ _ _ _ (Nat.le_refl _) e1
    refine ⟨c, p, by rw [e2]; rfl, fun s m hs => ?_⟩
    rw [List.cons_append, hG, if_neg h91, if_neg h93, if_neg h47, if_pos h40, hz]
    exact hl _
  rw [if_neg h40] at h
  by_cases h60 : c = 60
  · rw [if_pos h60] at h
    by_cases hh : hd r = 60
    · rw [if_pos hh] at h
      obtain ⟨rfl, rfl⟩ := mark_on h
      have hrl : r = hd r :: r.drop 1 := cons_hd (by intro e0; rw [List.eq_nil_of_length_eq_zero e0] at hh; cases hh)
      refine ⟨c, [60], by rw [← hh]; exact congrArg (c :: ·) hrl, fun s m hs => ?_⟩
      rw [List.cons_append, hG, if_neg h91, if_neg h93, if_neg h47, if_neg h40, if_pos h60, if_pos (show hd ([60] ++ s :: m) = 60 from rfl)]
      rfl
    · rw [if_neg hh] at h
      obtain ⟨a, e1, rfl, -, hl⟩ := lim_on h
      unfold hxL at e1
      cases hc : cutGt r with
      | none => rw [hc] at e1; cases e1
      | some x =>
        obtain ⟨b, r'⟩ := x
        rw [hc] at e1
        obtain ⟨dd, e2, e3⟩ := Option.map_eq_some_iff.1 e1
        injection e3 with e3 e4
        subst e3 e4
        obtain ⟨k1, k2⟩ := cut_pre _ _ _ hc
        refine ⟨c, b ++ [62], by rw [k1]; simp, fun s m hs => ?_⟩
        have hh' : ¬ hd (b ++ 62 :: s :: m) = 60 := by
          rw [k1] at hh
          cases b with
          | nil => exact (by decide : ¬ (62 : Nat) = 60)
          | cons x b => exact hh
        rw [show c :: (b ++ [62]) ++ s :: m = c :: (b ++ 62 :: s :: m) by simp, hG, if_neg h91, if_neg h93, if_neg h47, if_neg h40, if_pos h60, if_neg hh']
        unfold hxL
        rw [k2]
        show limL 3 ((dgL b).map fun d => (prL d, s :: m)) = _
        rw [e2]
        exact hl _
  rw [if_neg h60] at h
  by_cases h62 : c = 62
  · rw [if_pos h62] at h
    by_cases hh : hd r = 62
    · rw [if_pos hh] at h
      obtain ⟨rfl, rfl⟩ := mark_on h
      have hrl : r = hd r :: r.drop 1 := cons_hd (by intro e0; rw [List.eq_nil_of_length_eq_zero e0] at hh; cases hh)
      refine ⟨c, [62], by rw [← hh]; exact congrArg (c :: ·) hrl, fun s m hs => ?_⟩
      rw [List.cons_append, hG, if_neg h91, if_neg h93, if_neg h47, if_neg h40, if_neg h60, if_pos h62, if_pos (show hd ([62] ++ s :: m) = 62 from rfl)]
      rfl
    · rw [if_neg hh] at h
      exact absurd (err_no h) (by decide)
  rw [if_neg h62] at h
  exact absurd (err_no h) (by decide)
/-- What stands behind a token turns nothing, if white stands between. -/
theorem next_on {l q : List Nat} {t : TokV} (h : nextL P l = (0, t, q)) (hk : t.kind ≠ 0) : ∃ p, p ≠ [] ∧ l = p ++ q ∧ ∀ s m, spB s = true → nextL P (p ++ s :: m) = (0, t, s :: m) := by
  unfold nextL at h
  obtain ⟨pg, e1, e2⟩ := gap_pre false l
  obtain ⟨c, p, e3, e4⟩ := nextG_on h hk
  refine ⟨pg ++ c :: p, by simp, ?_, fun s m hs => ?_⟩
  · rw [List.append_assoc, ← e3]
    exact e1
  · unfold nextL gapL
    rw [List.append_assoc, List.cons_append, e2 c (p ++ q) (p ++ s :: m) e3, ← List.cons_append]
    exact e4 s m hs
end
end Go.Proofs.YtdiaijdobglaaaaGreatDoor
