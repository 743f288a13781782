/- The plain mathematics of the reference's Parse: a row of digits whose noughts behind are struck. No program stands in it. -/
import Derived.Test.YtdiaijdobglaaaaGreatDoorRefLess
import Derived.Test.YtdiaijdobglaaaaGreatDoorDecTexts
namespace Go.Proofs.YtdiaijdobglaaaaGreatDoor
open Go.RowKit Dec

/-- Noughts behind the point are struck one by one: what is left begins with another digit, or nothing stands behind the point any more. -/
theorem strip_list (r : List Int) : ∀ q : List Int, Digs q → strip q.length (num (q ++ r)) = (num (q.dropWhile (· == 0) ++ r), (q.dropWhile (· == 0)).length) := by
  intro q
  induction q with
  | nil => intro _; rfl
  | cons d l ih =>
    intro h
    have hd := h d (List.mem_cons_self ..)
    obtain ⟨h1, h2⟩ := num_mod (l := l ++ r) hd
    by_cases h0 : d = 0
    · rw [List.length_cons, List.cons_append, strip_go _ _ (by rw [h1, h0]; rfl), h2, ih (fun x hx => h x (List.mem_cons_of_mem _ hx)), List.dropWhile_cons_of_pos (by simp [h0])]
    · rw [List.length_cons, List.cons_append, strip_stop _ _ (by rw [h1]; omega), List.dropWhile_cons_of_neg (by simp [h0])]
      rfl

def IsDig (c : UInt8) : Prop := 48 ≤ (c.toNat : Int) ∧ (c.toNat : Int) ≤ 57
def digL (l : List UInt8) : List Int := l.map fun c => (c.toNat : Int) - 48
theorem digL_digs {l : List UInt8} (h : ∀ c ∈ l, IsDig c) : Digs (digL l) := by
  intro d hd
  obtain ⟨c, hc, rfl⟩ := List.mem_map.1 hd
  have := h c hc
  unfold IsDig at this
  omega

/-- What read reckons over digits: the number, or too great a one. -/
theorem rd_digs (l : List UInt8) : ∀ m : Int, 0 ≤ m → (∀ c ∈ l, IsDig c) →
    rd m 5 l = (m, 5) ∧ (m * 10 ^ l.length + num (digL l).reverse ≤ 999999999999999999 → rd m 0 l = (m * 10 ^ l.length + num (digL l).reverse, 0)) ∧ (m ≤ 999999999999999999 → 999999999999999999 < m * 10 ^ l.length + num (digL l).reverse → (rd m 0 l).2 = 5) := by
  induction l with
  | nil =>
    intro m _ _
    refine ⟨rfl, fun _ => ?_, fun h1 h2 => ?_⟩
    · simp [rd, digL, num]
    · simp [digL, num] at h2; omega
  | cons c l ih =>
    intro m hm h
    have hc := h c (List.mem_cons_self ..)
    unfold IsDig at hc
    have hl : ∀ x ∈ l, IsDig x := fun x hx => h x (List.mem_cons_of_mem _ hx)
    have hbad : ¬ ((c.toNat : Int) < 48 ∨ 57 < (c.toNat : Int)) := by omega
    have hnum : (num (digL (c :: l)).reverse : Int) = num (digL l).reverse + 10 ^ l.length * ((c.toNat : Int) - 48) := by
      have e : (digL (c :: l)).reverse = (digL l).reverse ++ [(c.toNat : Int) - 48] := by simp [digL]
      rw [e, num_append]
      have h1 : num [(c.toNat : Int) - 48] = ((c.toNat : Int) - 48).toNat := by simp [num]
      rw [h1, List.length_reverse]
      have h2 : (digL l).length = l.length := by simp [digL]
      rw [h2]
      push_cast
      rw [Int.toNat_of_nonneg (by omega)]
    have hacc : m * 10 ^ (c :: l).length + (num (digL (c :: l)).reverse : Int) = (m * 10 + ((c.toNat : Int) - 48)) * 10 ^ l.length + num (digL l).reverse := by
      rw [hnum, List.length_cons, Int.pow_succ, Int.add_mul, Int.mul_comm (10 ^ l.length) ((c.toNat : Int) - 48)]
      have e : m * (10 ^ l.length * 10) = m * 10 * 10 ^ l.length := by rw [Int.mul_comm (10 ^ l.length) 10, Int.mul_assoc]
      omega
    have hp := pow_pos10 l.length
    obtain ⟨i1, i2, i3⟩ := ih (m * 10 + ((c.toNat : Int) - 48)) (by omega) hl
    refine ⟨?_, fun hle => ?_, fun hm9 hgt => ?_⟩
    · rw [rd_over hbad]; exact (ih m hm hl).1
    · have hno : ¬ (999999999999999999 - ((c.toNat : Int) - 48)) / 10 < m := by
        have h0 : (0 : Int) ≤ num (digL l).reverse := Int.natCast_nonneg _
        have h1 : (m * 10 + ((c.toNat : Int) - 48)) * 1 ≤ (m * 10 + ((c.toNat : Int) - 48)) * 10 ^ l.length := Int.mul_le_mul_of_nonneg_left (by omega) (by omega)
        omega
      rw [rd_go hbad hno, i2 (by omega), hacc]
    · by_cases hb : (999999999999999999 - ((c.toNat : Int) - 48)) / 10 < m
      · rw [rd_big hbad hb, (ih 0 (Int.le_refl _) hl).1]
      · rw [rd_go hbad hb]
        exact i3 (by omega) (by omega)

/-- What the reference's Parse gathers: the digits in their order, and how many stand behind the point. -/
def scanL : Bool → List UInt8 → Option (List Int × Nat)
  | _, [] => some ([], 0)
  | p, c :: r => if c = 46 ∧ p = false then scanL true r else if (c.toNat : Int) < 48 ∨ 57 < (c.toNat : Int) then none else (scanL p r).map fun x => (((c.toNat : Int) - 48) :: x.1, x.2 + if p then 1 else 0)
def refL (t : List UInt8) : Option (Int × Nat) :=
  match scanL false (signOf t).2 with
  | none => none
  | some (ds, b) => if ds = [] ∨ 40 < t.length then none else some ((signOf t).1 * (num ds.reverse : Int), b)

theorem not_dig {c : UInt8} : ¬ IsDig c ↔ ((c.toNat : Int) < 48 ∨ 57 < (c.toNat : Int)) := by unfold IsDig; omega
theorem scan_ok (P : List UInt8) : (∀ c ∈ P, IsDig c) → scanL true P = some (digL P, P.length) := by
  induction P with
  | nil => intro _; rfl
  | cons c l ih =>
    intro h
    have hc : ¬ ((c.toNat : Int) < 48 ∨ 57 < (c.toNat : Int)) := fun e => not_dig.2 e (h c (List.mem_cons_self ..))
    rw [scanL, if_neg (by simp), if_neg hc, ih (fun x hx => h x (List.mem_cons_of_mem _ hx))]; rfl
theorem scan_bad (P : List UInt8) : (∃ c ∈ P, ¬ IsDig c) → scanL true P = none := by
  induction P with
  | nil => rintro ⟨c, hc, _⟩; cases hc
  | cons c l ih =>
    rintro ⟨x, hx, hb⟩
    rw [scanL, if_neg (by simp)]
    by_cases hc : (c.toNat : Int) < 48 ∨ 57 < (c.toNat : Int)
    · rw [if_pos hc]
    · rw [if_neg hc, ih ?_]; rfl
      rcases List.mem_cons.1 hx with rfl | hx
      · exact absurd (not_dig.1 hb) hc
      · exact ⟨x, hx, hb⟩
theorem scanF_ok (B : List UInt8) : (∀ c ∈ (cutD B).1 ++ (cutD B).2, IsDig c) → scanL false B = some (digL ((cutD B).1 ++ (cutD B).2), (cutD B).2.length) := by
  induction B with
  | nil => intro _; rfl
  | cons c l ih =>
    intro h
    by_cases hp : c = 46
    · subst hp
      rw [scanL, if_pos ⟨rfl, rfl⟩]
      rw [cutD, if_pos rfl] at h ⊢
      exact scan_ok l h
    · rw [cutD, if_neg hp] at h ⊢
      have hc : ¬ ((c.toNat : Int) < 48 ∨ 57 < (c.toNat : Int)) := fun e => not_dig.2 e (h c (List.mem_cons_self ..))
      rw [scanL, if_neg (fun e => hp e.1), if_neg hc, ih (fun x hx => h x (List.mem_cons_of_mem _ hx))]; rfl
theorem scanF_bad (B : List UInt8) : (∃ c ∈ (cutD B).1 ++ (cutD B).2, ¬ IsDig c) → scanL false B = none := by
  induction B with
  | nil => rintro ⟨c, hc, _⟩; cases hc
  | cons c l ih =>
    rintro ⟨x, hx, hb⟩
    by_cases hp : c = 46
    · subst hp
      rw [scanL, if_pos ⟨rfl, rfl⟩]
      rw [cutD, if_pos rfl] at hx
      exact scan_bad l ⟨x, hx, hb⟩
    · rw [cutD, if_neg hp] at hx
      rw [scanL, if_neg (fun e => hp e.1)]
      by_cases hc : (c.toNat : Int) < 48 ∨ 57 < (c.toNat : Int)
      · rw [if_pos hc]
      · rw [if_neg hc, ih ?_]; rfl
        rcases List.mem_cons.1 hx with rfl | hx
        · exact absurd (not_dig.1 hb) hc
        · exact ⟨x, hx, hb⟩
theorem rd_bads (l : List UInt8) : ∀ m e : Int, (e = 0 ∨ e = 5) → (∃ c ∈ l, ¬ IsDig c) → (rd m e l).2 = 4 := by
  induction l with
  | nil => rintro m e _ ⟨c, hc, _⟩; cases hc
  | cons c l ih =>
    rintro m e he ⟨x, hx, hb⟩
    by_cases hc : (c.toNat : Int) < 48 ∨ 57 < (c.toNat : Int)
    · rw [rd_bad hc]
    · have hl : ∃ c ∈ l, ¬ IsDig c := by
        rcases List.mem_cons.1 hx with rfl | hx
        · exact absurd (not_dig.1 hb) hc
        · exact ⟨x, hx, hb⟩
      rcases he with rfl | rfl
      · by_cases hg : (999999999999999999 - ((c.toNat : Int) - 48)) / 10 < m
        · rw [rd_big hc hg]; exact ih 0 5 (.inr rfl) hl
        · rw [rd_go hc hg]; exact ih _ 0 (.inl rfl) hl
      · rw [rd_over hc]; exact ih m 5 (.inr rfl) hl
theorem mem_trim {P : List UInt8} {c : UInt8} (h : c ∈ P) (hc : c ≠ 48) : c ∈ Lib.trimRightB P 48 := by
  unfold Lib.trimRightB
  rw [List.mem_reverse]
  have h1 : c ∈ P.reverse.takeWhile (· == 48) ++ P.reverse.dropWhile (· == 48) := by rw [List.takeWhile_append_dropWhile]; simpa using h
  rcases List.mem_append.1 h1 with h | h
  · have : ∀ (l : List UInt8), c ∈ l.takeWhile (· == 48) → c = 48 := by
      intro l
      induction l with
      | nil => intro h; cases h
      | cons d l ih =>
        intro h
        by_cases hd : d = 48
        · rw [List.takeWhile_cons_of_pos (by simp [hd])] at h
          rcases List.mem_cons.1 h with rfl | h
          · exact hd
          · exact ih h
        · rw [List.takeWhile_cons_of_neg (by simp [hd])] at h; cases h
    exact absurd (this _ h) hc
  · exact h
theorem trim_mem {P : List UInt8} {c : UInt8} (h : c ∈ Lib.trimRightB P 48) : c ∈ P := by
  unfold Lib.trimRightB at h
  rw [List.mem_reverse] at h
  have := (List.dropWhile_sublist (fun x : UInt8 => x == 48) (l := P.reverse)).mem h
  simpa using this
theorem digL_drop : ∀ (l : List UInt8), (∀ c ∈ l, IsDig c) → (digL l).dropWhile (· == 0) = digL (l.dropWhile (· == 48)) := by
  intro l
  induction l with
  | nil => intro _; rfl
  | cons c l ih =>
    intro h
    have hc := h c (List.mem_cons_self ..)
    unfold IsDig at hc
    by_cases h48 : c = 48
    · subst h48
      have e : digL ((48 : UInt8) :: l) = 0 :: digL l := rfl
      rw [e, List.dropWhile_cons_of_pos (by decide), List.dropWhile_cons_of_pos (by decide)]
      exact ih (fun x hx => h x (List.mem_cons_of_mem _ hx))
    · have hne : ((c.toNat : Int) - 48) ≠ 0 := by
        intro e
        exact h48 (UInt8.toNat_inj.1 (by show c.toNat = 48; omega))
      have e : digL (c :: l) = ((c.toNat : Int) - 48) :: digL l := rfl
      rw [e, List.dropWhile_cons_of_neg (by simpa using hne), List.dropWhile_cons_of_neg (by simpa using h48)]
      rfl
/-- The noughts behind a row's point are struck as the text's are. -/
theorem strip_text {W P : List UInt8} (h : ∀ c ∈ W ++ P, IsDig c) : strip P.length (num (digL (W ++ P)).reverse) = (num (digL (W ++ Lib.trimRightB P 48)).reverse, (Lib.trimRightB P 48).length) := by
  have hP : ∀ c ∈ P.reverse, IsDig c := fun c hc => h c (List.mem_append_right _ (by simpa using hc))
  have e1 : (digL (W ++ P)).reverse = digL P.reverse ++ (digL W).reverse := by simp [digL]
  have e2 : (digL (W ++ Lib.trimRightB P 48)).reverse = (digL P.reverse).dropWhile (· == 0) ++ (digL W).reverse := by
    rw [digL_drop _ hP]; simp [digL, Lib.trimRightB]
  have e3 : (Lib.trimRightB P 48).length = ((digL P.reverse).dropWhile (· == 0)).length := by
    rw [digL_drop _ hP]; simp [digL, Lib.trimRightB]
  have := strip_list (digL W).reverse (digL P.reverse) (digL_digs hP)
  rw [e1, e2, e3, ← this]
  simp [digL]

theorem parse_ref (t : List UInt8) : (refL t = none → parseL t = (0, 0, 4)) ∧ (∀ V b, refL t = some (V, b) → ∃ M S E, parseL t = (M, S, E) ∧ Denotes V b M S E) := by
  obtain ⟨c1, c2⟩ := cut_is (signOf t).2
  have hW : wholeL t = (cutD (signOf t).2).1 := c1
  have hP : partL t = (cutD (signOf t).2).2 := c2
  have hok := scanF_ok (signOf t).2
  have hbad := scanF_bad (signOf t).2
  rw [← hW, ← hP] at hok hbad
  have hsg := signOf_one t
  unfold refL parseL keptL
  generalize wholeL t = W at *
  generalize partL t = P at *
  generalize (signOf t).1 = sg at *
  by_cases hlen : 40 < t.length
  · rw [if_pos hlen]
    refine ⟨fun _ => rfl, fun V b h => ?_⟩
    split at h
    · cases h
    · rw [if_pos (.inr hlen)] at h; cases h
  · rw [if_neg hlen]
    by_cases hall : ∀ c ∈ W ++ P, IsDig c
    · rw [hok hall]
      by_cases hE : W ++ P = []
      · rw [hE]
        refine ⟨fun _ => rfl, fun V b h => ?_⟩
        have h' : (if digL [] = [] ∨ 40 < t.length then none else some (sg * (num (digL []).reverse : Int), P.length)) = some (V, b) := h
        rw [if_pos (.inl rfl)] at h'; cases h'
      · have hne : digL (W ++ P) ≠ [] := by intro e; exact hE (by simpa [digL] using e)
        have hem : (W ++ P).isEmpty = false := by
          cases h : W ++ P with
          | nil => exact absurd h hE
          | cons => rfl
        have hif : (if digL (W ++ P) = [] ∨ 40 < t.length then none else some (sg * (num (digL (W ++ P)).reverse : Int), P.length)) = some (sg * (num (digL (W ++ P)).reverse : Int), P.length) := if_neg (by rintro (h | h); exact hne h; exact hlen h)
        refine ⟨fun h => ?_, fun V b h => ?_⟩
        · have h' := hif.symm.trans h; cases h'
        · have h' := hif.symm.trans h
          cases h'
          rw [hem, if_neg (by decide)]
          have hK : ∀ c ∈ W ++ Lib.trimRightB P 48, IsDig c := by
            intro c hc
            rcases List.mem_append.1 hc with h | h
            · exact hall c (List.mem_append_left _ h)
            · exact hall c (List.mem_append_right _ (trim_mem h))
          have hst := strip_text hall
          obtain ⟨-, r1, r2⟩ := rd_digs (W ++ Lib.trimRightB P 48) 0 (Int.le_refl _) hK
          rw [Int.zero_mul, Int.zero_add] at r1 r2
          generalize hN : num (digL (W ++ Lib.trimRightB P 48)).reverse = N at *
          generalize hL : (Lib.trimRightB P 48).length = L at *
          generalize num (digL (W ++ P)).reverse = Q at *
          have hab : (sg * (Q : Int)).natAbs = Q := by rcases hsg with rfl | rfl <;> simp
          by_cases hbig : 999999999999999999 < (N : Int)
          · have h5 := r2 (by decide) hbig
            rw [h5, if_pos (by decide)]
            refine ⟨0, 0, 5, rfl, den_over hab ?_⟩
            rw [hst]; left; show 999999999999999999 < N; omega
          · rw [r1 (by omega), if_neg (fun h => h rfl)]
            by_cases h9 : 9 < L
            · rw [if_pos h9]
              refine ⟨0, 0, 5, rfl, den_over hab ?_⟩
              rw [hst]; exact .inr h9
            · rw [if_neg h9]
              refine ⟨_, _, _, rfl, den_strip hab ?_ ?_ (by rw [hst]) ?_ (by omega)⟩
              · rw [hst]; rcases hsg with rfl | rfl <;> simp
              · rcases hsg with rfl | rfl
                · right; constructor <;> simp
                · left; constructor <;> simp
              · have : (sg * (N : Int)).natAbs = N := by rcases hsg with rfl | rfl <;> simp
                rw [this]; omega
    · have hex : ∃ c ∈ W ++ P, ¬ IsDig c := by
        rcases Classical.em (∃ c ∈ W ++ P, ¬ IsDig c) with h | h
        · exact h
        · exact absurd (fun c hc => Classical.byContradiction fun hn => h ⟨c, hc, hn⟩) hall
      rw [hbad hex]
      refine ⟨fun _ => ?_, fun V b h => by cases h⟩
      have hK : ∃ c ∈ W ++ Lib.trimRightB P 48, ¬ IsDig c := by
        obtain ⟨c, hc, hn⟩ := hex
        refine ⟨c, ?_, hn⟩
        rcases List.mem_append.1 hc with h | h
        · exact List.mem_append_left _ h
        · exact List.mem_append_right _ (mem_trim h (by intro e; subst e; exact hn (by unfold IsDig; decide)))
      have h4 := rd_bads (W ++ Lib.trimRightB P 48) 0 0 (.inl rfl) hK
      have hem : (W ++ P).isEmpty = false := by
        obtain ⟨c, hc, -⟩ := hex
        cases h : W ++ P with
        | nil => rw [h] at hc; cases hc
        | cons => rfl
      rw [hem, if_neg (by decide), h4, if_pos (by decide)]
end Go.Proofs.YtdiaijdobglaaaaGreatDoor
