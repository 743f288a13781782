/- Run-length parts on lists of bytes: what is put, what is got. No program stands in it. -/
namespace Go.Proofs.Ytbghmbcipekboaa

/-- How many bytes x a row begins with. -/
def lead (x : Nat) : List Nat → Nat
  | [] => 0
  | y :: l => if y = x then lead x l + 1 else 0
theorem lead_le (x : Nat) : ∀ l : List Nat, lead x l ≤ l.length
  | [] => Nat.le_refl _
  | y :: l => by
    unfold lead
    have := lead_le x l
    split <;> simp <;> omega
theorem lead_take (x : Nat) : ∀ (l : List Nat) (n : Nat), n ≤ lead x l → l.take n = List.replicate n x
  | _, 0, _ => rfl
  | [], n + 1, h => by simp [lead] at h
  | y :: l, n + 1, h => by
    unfold lead at h
    split at h
    · subst y
      rw [List.take_succ_cons, lead_take x l n (by omega), List.replicate_succ]
    · omega
theorem lead_at (x : Nat) : ∀ (l : List Nat) (n : Nat), n < lead x l → l[n]? = some x
  | [], n, h => by simp [lead] at h
  | y :: l, 0, h => by
    unfold lead at h
    split at h
    · subst y; rfl
    · omega
  | y :: l, n + 1, h => by
    unfold lead at h
    split at h
    · rw [List.getElem?_cons_succ]; exact lead_at x l n (by omega)
    · omega
theorem lead_end (x : Nat) : ∀ (l : List Nat), l[lead x l]? ≠ some x
  | [] => by simp [lead]
  | y :: l => by
    unfold lead
    split
    · rw [List.getElem?_cons_succ]; exact lead_end x l
    · rename_i h
      simp only [List.getElem?_cons_zero]
      intro e
      injection e with e
      exact h e
theorem lead_step (x : Nat) (l : List Nat) (n : Nat) (h : n ≤ lead x l) (hx : l[n]? = some x) : n + 1 ≤ lead x l := by
  rcases Nat.lt_or_ge n (lead x l) with hlt | hge
  · exact hlt
  · obtain rfl : n = lead x l := by omega
    exact absurd hx (lead_end x l)
/-- How many same bytes a part takes. -/
def rep : List Nat → Nat
  | [] => 0
  | x :: l => min 128 (lead x l + 1)
theorem rep_cons (x : Nat) (l : List Nat) : rep (x :: l) = min 128 (lead x (x :: l)) := by
  simp [rep, lead]
theorem rep_le (b : List Nat) : rep b ≤ 128 ∧ rep b ≤ b.length := by
  cases b with
  | nil => simp [rep]
  | cons x l =>
    have := lead_le x l
    simp only [rep, List.length_cons]
    omega
theorem rep_pos {b : List Nat} (h : b ≠ []) : 1 ≤ rep b := by
  cases b with
  | nil => exact absurd rfl h
  | cons x l => simp only [rep]; omega
theorem rep_take (x : Nat) (l : List Nat) : (x :: l).take (rep (x :: l)) = List.replicate (rep (x :: l)) x :=
  lead_take x _ _ (by rw [rep_cons]; omega)
/-- Two same bytes at the beginning? -/
theorem rep_two (x y : Nat) (l : List Nat) : 2 ≤ rep (x :: y :: l) ↔ x = y := by
  simp only [rep, lead]
  by_cases h : y = x
  · rw [if_pos h]; constructor
    · intro _; exact h.symm
    · intro _; omega
  · rw [if_neg h]; constructor
    · intro k; omega
    · intro k; exact absurd k.symm h
theorem rep_one (x : Nat) : rep [x] = 1 := by simp [rep, lead]
/-- How many bytes a part takes up to the next ones that are repeated, f at most. -/
def sglF : Nat → List Nat → Nat
  | 0, _ => 0
  | _ + 1, [] => 0
  | f + 1, x :: l => if rep (x :: l) < 2 then sglF f l + 1 else 0
def sgl (b : List Nat) : Nat := sglF 128 b
theorem sglF_le : ∀ (f : Nat) (b : List Nat), sglF f b ≤ f ∧ sglF f b ≤ b.length
  | 0, _ => by simp [sglF]
  | f + 1, [] => by simp [sglF]
  | f + 1, x :: l => by
    have := sglF_le f l
    unfold sglF
    split <;> simp <;> omega
theorem sgl_le (b : List Nat) : sgl b ≤ 128 ∧ sgl b ≤ b.length := sglF_le 128 b
theorem sglF_at : ∀ (f : Nat) (b : List Nat) (n : Nat), n < sglF f b → rep (b.drop n) < 2
  | 0, b, n, h => by simp [sglF] at h
  | f + 1, [], n, h => by simp [sglF] at h
  | f + 1, x :: l, 0, h => by
    unfold sglF at h
    split at h
    · assumption
    · omega
  | f + 1, x :: l, n + 1, h => by
    unfold sglF at h
    split at h
    · exact sglF_at f l n (by omega)
    · omega
theorem sglF_end : ∀ (f : Nat) (b : List Nat), sglF f b < f → sglF f b < b.length → ¬ rep (b.drop (sglF f b)) < 2
  | 0, b, h, _ => by omega
  | f + 1, [], _, h => by simp [sglF] at h
  | f + 1, x :: l, h, h' => by
    unfold sglF at h h' ⊢
    split at h
    · rename_i hr
      rw [if_pos hr] at h' ⊢
      rw [List.drop_succ_cons]
      exact sglF_end f l (by omega) (by simp at h'; omega)
    · rename_i hr
      rw [if_neg hr]
      exact hr
theorem sgl_step {b : List Nat} {n : Nat} (h : n ≤ sgl b) (h1 : n < 128) (h2 : n < b.length) (hr : rep (b.drop n) < 2) : n + 1 ≤ sgl b := by
  rcases Nat.lt_or_ge n (sgl b) with hlt | hge
  · exact hlt
  · obtain rfl : n = sgl b := by omega
    exact absurd hr (sglF_end 128 b h1 h2)
theorem sgl_stop {b : List Nat} {n : Nat} (h : n ≤ sgl b) (hr : ¬ rep (b.drop n) < 2) : n = sgl b := by
  rcases Nat.lt_or_ge n (sgl b) with hlt | hge
  · exact absurd (sglF_at 128 b n hlt) hr
  · omega
theorem sgl_pos {b : List Nat} (h : b ≠ []) (hr : rep b < 2) : 1 ≤ sgl b := by
  cases b with
  | nil => exact absurd rfl h
  | cons x l => simp only [sgl, sglF]; rw [if_pos hr]; omega
/-- How many bytes the next part stands for. -/
def psz (b : List Nat) : Nat := if rep b < 2 then sgl b else rep b
theorem psz_le (b : List Nat) : psz b ≤ 128 ∧ psz b ≤ b.length := by
  unfold psz
  split
  · exact sgl_le b
  · exact rep_le b
theorem psz_pos {b : List Nat} (h : b ≠ []) : 1 ≤ psz b := by
  unfold psz
  split
  · exact sgl_pos h ‹_›
  · exact rep_pos h
/-- The next part, as it is put. -/
def enc1 (b : List Nat) : List Nat := if rep b < 2 then (sgl b - 1) :: b.take (sgl b) else [257 - rep b, b.headD 0]
theorem enc1_len {b : List Nat} (h : b ≠ []) : 2 ≤ (enc1 b).length ∧ (enc1 b).length ≤ 2 * psz b := by
  unfold enc1 psz
  have := rep_pos h
  split
  · have := sgl_le b
    have := sgl_pos h ‹_›
    simp only [List.length_cons, List.length_take]
    omega
  · simp only [List.length_cons, List.length_nil]
    omega
def putF : Nat → List Nat → List Nat
  | 0, _ => []
  | _ + 1, [] => []
  | f + 1, x :: l => enc1 (x :: l) ++ putF f ((x :: l).drop (psz (x :: l)))
/-- The parts of a row of bytes, without the end. -/
def putM (b : List Nat) : List Nat := putF b.length b
theorem putF_fuel : ∀ (f g : Nat) (b : List Nat), b.length ≤ f → b.length ≤ g → putF f b = putF g b
  | 0, 0, _, _, _ => rfl
  | 0, g + 1, [], _, _ => rfl
  | f + 1, 0, [], _, _ => rfl
  | f + 1, g + 1, [], _, _ => rfl
  | 0, _, _ :: _, h, _ => by simp at h
  | _, 0, _ :: _, _, h => by simp at h
  | f + 1, g + 1, x :: l, h1, h2 => by
    have hp := psz_pos (b := x :: l) (by simp)
    simp only [List.length_cons] at h1 h2
    unfold putF
    rw [putF_fuel f g _ (by rw [List.length_drop, List.length_cons]; omega) (by rw [List.length_drop, List.length_cons]; omega)]
theorem putM_nil : putM [] = [] := rfl
theorem putM_step {b : List Nat} (h : b ≠ []) : putM b = enc1 b ++ putM (b.drop (psz b)) := by
  cases b with
  | nil => exact absurd rfl h
  | cons x l =>
    have hp := psz_pos h
    unfold putM
    rw [show (x :: l).length = l.length + 1 from rfl]
    simp only [putF]
    rw [putF_fuel l.length _ _ (by rw [List.length_drop, List.length_cons]; omega) (Nat.le_refl _)]
/-- Strong induction on the length of what is left. -/
theorem putM_ind {p : List Nat → Prop} (h0 : p []) (h1 : ∀ b, b ≠ [] → p (b.drop (psz b)) → p b) (b : List Nat) : p b := by
  suffices h : ∀ n b, b.length ≤ n → p b from h _ b (Nat.le_refl _)
  intro n
  induction n with
  | zero => intro b hb; obtain rfl : b = [] := List.eq_nil_of_length_eq_zero (by omega); exact h0
  | succ n ih =>
    intro b hb
    by_cases hn : b = []
    · subst hn; exact h0
    · exact h1 b hn (ih _ (by rw [List.length_drop]; have := psz_pos hn; omega))
theorem putM_len (b : List Nat) : (putM b).length ≤ 2 * b.length := by
  induction b using putM_ind with
  | h0 => simp [putM_nil]
  | h1 b hb ih =>
    rw [putM_step hb, List.length_append]
    have := enc1_len hb
    have := psz_le b
    rw [List.length_drop] at ih
    omega
theorem mem_head {b : List Nat} (h : b ≠ []) : b.headD 0 ∈ b := by
  cases b with
  | nil => exact absurd rfl h
  | cons x l => exact List.mem_cons_self ..
theorem putM_byte (b : List Nat) (h : ∀ x ∈ b, x < 256) : ∀ x ∈ putM b, x < 256 := by
  revert h
  induction b using putM_ind with
  | h0 => intro _ x hx; simp [putM_nil] at hx
  | h1 b hb ih =>
    intro h x hx
    rw [putM_step hb] at hx
    rcases List.mem_append.1 hx with hx | hx
    · unfold enc1 at hx
      have hp := rep_pos hb
      have hs := sgl_le b
      split at hx
      · rcases List.mem_cons.1 hx with rfl | hx
        · omega
        · exact h x (List.mem_of_mem_take hx)
      · simp only [List.mem_cons, List.not_mem_nil, or_false] at hx
        rcases hx with rfl | rfl
        · omega
        · exact h _ (mem_head hb)
    · exact ih (fun y hy => h y (List.mem_of_mem_drop hy)) x hx

/-- What Get answers. -/
inductive Got where
  | more : Got
  | long : Got
  | ok : List Nat → Got
/-- What is got of a row of parts; o has come ahead. -/
def getF (most : Nat) : Nat → List Nat → List Nat → Got
  | 0, _, _ => .more
  | _ + 1, [], _ => .more
  | f + 1, x :: l, o =>
    if x = 128 then .ok o
    else if x < 128 then
      if l.length < x + 1 then .more
      else if most < o.length + (x + 1) then .long
      else getF most f (l.drop (x + 1)) (o ++ l.take (x + 1))
    else match l with
      | [] => .more
      | y :: l => if most < o.length + (257 - x) then .long else getF most f l (o ++ List.replicate (257 - x) y)
theorem getF_one (most f x : Nat) (l o : List Nat) : getF most (f + 1) (x :: l) o =
    if x = 128 then .ok o
    else if x < 128 then
      if l.length < x + 1 then .more
      else if most < o.length + (x + 1) then .long
      else getF most f (l.drop (x + 1)) (o ++ l.take (x + 1))
    else match l with
      | [] => .more
      | y :: l => if most < o.length + (257 - x) then .long else getF most f l (o ++ List.replicate (257 - x) y) := rfl
def getM (most : Nat) (l o : List Nat) : Got := getF most (l.length + 1) l o
theorem getF_fuel (most : Nat) : ∀ (f g : Nat) (l o : List Nat), l.length < f → l.length < g → getF most f l o = getF most g l o
  | 0, _, _, _, h, _ => by omega
  | _, 0, _, _, _, h => by omega
  | f + 1, g + 1, [], o, _, _ => rfl
  | f + 1, g + 1, x :: l, o, h1, h2 => by
    simp only [List.length_cons] at h1 h2
    unfold getF
    rw [getF_fuel most f g (l.drop (x + 1)) _ (by rw [List.length_drop]; omega) (by rw [List.length_drop]; omega)]
    cases l with
    | nil => rfl
    | cons y l =>
      simp only [List.length_cons] at h1 h2
      simp only
      rw [getF_fuel most f g l _ (by omega) (by omega)]
theorem getM_nil (most : Nat) (o : List Nat) : getM most [] o = .more := rfl
theorem getM_end (most : Nat) (l o : List Nat) : getM most (128 :: l) o = .ok o := by simp [getM, getF]
theorem getM_copy (most x : Nat) (l o : List Nat) (h : x < 128) : getM most (x :: l) o =
    if l.length < x + 1 then .more else if most < o.length + (x + 1) then .long else getM most (l.drop (x + 1)) (o ++ l.take (x + 1)) := by
  unfold getM
  rw [show (x :: l).length + 1 = (l.length + 1) + 1 from rfl]
  rw [getF_one, if_neg (by omega), if_pos h, getF_fuel most (l.length + 1) _ _ _ (by rw [List.length_drop]; omega) (Nat.lt_succ_self _)]
theorem getM_rep0 (most x : Nat) (o : List Nat) (h : 128 < x) : getM most [x] o = .more := by
  unfold getM
  show getF most (1 + 1) [x] o = _
  rw [getF_one, if_neg (by omega), if_neg (by omega)]
theorem getM_rep (most x y : Nat) (l o : List Nat) (h : 128 < x) : getM most (x :: y :: l) o =
    if most < o.length + (257 - x) then .long else getM most l (o ++ List.replicate (257 - x) y) := by
  unfold getM
  rw [show (x :: y :: l).length + 1 = (l.length + 1 + 1) + 1 from rfl]
  rw [getF_one, if_neg (by omega), if_neg (by omega)]
  simp only
  rw [getF_fuel most (l.length + 1 + 1) _ _ _ (by omega) (Nat.lt_succ_self _)]
/-- A part that was put is got. -/
theorem getM_enc1 (most : Nat) {b : List Nat} (hb : b ≠ []) (l o : List Nat) : getM most (enc1 b ++ l) o =
    if most < o.length + psz b then .long else getM most l (o ++ b.take (psz b)) := by
  have hp := rep_pos hb
  have hr := rep_le b
  unfold enc1 psz
  by_cases h2 : rep b < 2
  · have hs := sgl_le b
    have hs1 := sgl_pos hb h2
    have hl : (b.take (sgl b)).length = sgl b := by rw [List.length_take]; omega
    have e : sgl b - 1 + 1 = sgl b := by omega
    rw [if_pos h2, if_pos h2, List.cons_append, getM_copy _ _ _ _ (by omega), e, if_neg (by rw [List.length_append]; omega), List.drop_left' hl, List.take_left' hl]
  · rw [if_neg h2, if_neg h2]
    cases b with
    | nil => exact absurd rfl hb
    | cons x t =>
      have e : 257 - (257 - rep (x :: t)) = rep (x :: t) := by omega
      show getM most ((257 - rep (x :: t)) :: x :: l) o = _
      rw [getM_rep _ _ _ _ _ (by omega), e, rep_take]
theorem getM_put (most : Nat) (b : List Nat) : ∀ (l o : List Nat), getM most (putM b ++ l) o = if b.length ≠ 0 ∧ most < o.length + b.length then .long else getM most l (o ++ b) := by
  induction b using putM_ind with
  | h0 => intro l o; rw [if_neg (by simp), putM_nil, List.nil_append, List.append_nil]
  | h1 b hb ih =>
    intro l o
    have hp := psz_pos hb
    have hp2 := psz_le b
    have hlen : (b.take (psz b)).length = psz b := by rw [List.length_take]; omega
    rw [putM_step hb, List.append_assoc, getM_enc1 most hb]
    by_cases h1 : most < o.length + psz b
    · rw [if_pos h1, if_pos ⟨by omega, by omega⟩]
    · rw [if_neg h1, ih, List.append_assoc, List.take_append_drop, List.length_drop, List.length_append, hlen]
      by_cases h2 : b.length = psz b
      · rw [if_neg (by omega), if_neg (by omega)]
      · by_cases h3 : most < o.length + b.length
        · rw [if_pos ⟨by omega, by omega⟩, if_pos ⟨by omega, h3⟩]
        · rw [if_neg (by omega), if_neg (by omega)]
/-- What was put, with an end and whatever behind it, is got as it was. -/
theorem getM_back (most : Nat) (b l : List Nat) : getM most (putM b ++ 128 :: l) [] = if most < b.length then .long else .ok b := by
  rw [getM_put, getM_end, List.nil_append]
  by_cases h : most < b.length
  · rw [if_pos ⟨by omega, by simpa using h⟩, if_pos h]
  · rw [if_neg (by simp; omega), if_neg h]
theorem getM_cut (most : Nat) (b : List Nat) (h : b.length ≤ most) : getM most (putM b) [] = .more := by
  have := getM_put most b [] []
  rw [List.append_nil] at this
  rw [this, if_neg (by simp; omega), getM_nil]
/-- One byte ever so often. -/
theorem putM_often (c : Nat) : ∀ n : Nat, (putM (List.replicate n c)).length = 2 * ((n + 127) / 128) := by
  have key : ∀ N n : Nat, n ≤ N → (putM (List.replicate n c)).length = 2 * ((n + 127) / 128) := by
    intro N
    induction N with
    | zero => intro n hn; obtain rfl : n = 0 := by omega
              rfl
    | succ N ih =>
      intro n hn
      by_cases h0 : n = 0
      · subst h0; rfl
      · have hne : List.replicate n c ≠ [] := by simp [h0]
        have hlead : ∀ k, lead c (List.replicate k c) = k := by
          intro k
          induction k with
          | zero => rfl
          | succ k ih => rw [List.replicate_succ, lead, if_pos rfl, ih]
        have hrep : rep (List.replicate n c) = min 128 n := by
          obtain ⟨m, rfl⟩ : ∃ m, n = m + 1 := ⟨n - 1, by omega⟩
          rw [List.replicate_succ, rep, hlead]
        have hps : psz (List.replicate n c) = min 128 n ∧ (enc1 (List.replicate n c)).length = 2 := by
          unfold psz enc1
          rw [hrep]
          by_cases h1 : n = 1
          · subst h1
            have e1 : sgl [c] = 1 := by simp [sgl, sglF, rep, lead]
            have : List.replicate 1 c = [c] := rfl
            rw [this, if_pos (by omega), if_pos (by omega), e1]
            exact ⟨by omega, rfl⟩
          · rw [if_neg (by omega), if_neg (by omega)]
            exact ⟨rfl, rfl⟩
        rw [putM_step hne, List.length_append, hps.2, hps.1, List.drop_replicate, ih _ (by omega)]
        omega
  exact fun n => key n n (Nat.le_refl _)
/-- Parts that are as they are, one behind the other. -/
def plainRows : List (List Nat) → List Nat
  | [] => []
  | r :: l => (r.length - 1) :: r ++ plainRows l
theorem plainRows_append : ∀ (a b : List (List Nat)), plainRows (a ++ b) = plainRows a ++ plainRows b
  | [], b => rfl
  | r :: a, b => by simp [plainRows, plainRows_append a b]
theorem getM_rows (most : Nat) : ∀ (rows : List (List Nat)) (l o : List Nat), (∀ r ∈ rows, 1 ≤ r.length ∧ r.length ≤ 128) → o.length + rows.flatten.length ≤ most →
    getM most (plainRows rows ++ l) o = getM most l (o ++ rows.flatten)
  | [], l, o, _, _ => by simp [plainRows]
  | r :: rows, l, o, h, hm => by
    have h1 := h r (List.mem_cons_self ..)
    simp only [List.flatten_cons, List.length_append] at hm
    have e : r.length - 1 + 1 = r.length := by omega
    simp only [plainRows, List.cons_append, List.append_assoc]
    rw [getM_copy _ _ _ _ (by omega), e, if_neg (by simp), if_neg (by omega), List.drop_left' rfl, List.take_left' rfl,
      getM_rows most rows l _ (fun q hq => h q (List.mem_cons_of_mem _ hq)) (by rw [List.length_append]; omega)]
    simp
end Go.Proofs.Ytbghmbcipekboaa
