/- Tokens of bytes, as pure lists: what the next token is. No program stands in it. -/
import Derived.Lib.Hide
namespace Go.Proofs.YtdiaijdobglaaaaGreatDoor

def spB (c : Nat) : Bool := c == 0 || c == 9 || c == 10 || c == 12 || c == 13 || c == 32
def dlB (c : Nat) : Bool := c == 40 || c == 41 || c == 60 || c == 62 || c == 91 || c == 93 || c == 123 || c == 125 || c == 47 || c == 37
def rgB (c : Nat) : Bool := !spB c && !dlB c
/-- The byte at the front; 0 where there is none. -/
def hd (l : List Nat) : Nat := l.getD 0 0
theorem hd_at {l : List Nat} {k c : Nat} (h : l[k]? = some c) : hd (l.drop k) = c := by
  unfold hd
  rw [List.getD_eq_getElem?_getD, List.getElem?_drop, Nat.add_zero, h]
  rfl
theorem hd_none {l : List Nat} {k : Nat} (h : l.length ≤ k) : hd (l.drop k) = 0 := by
  rw [List.drop_eq_nil_of_le h]
  rfl
theorem drop_at {l : List Nat} {k c : Nat} (h : l[k]? = some c) : l.drop k = c :: l.drop (k + 1) := by
  obtain ⟨hi, e⟩ := List.getElem?_eq_some_iff.1 h
  rw [List.drop_eq_getElem_cons hi, e]
/-- Behind a comment's bytes. -/
def comL : List Nat → List Nat
  | [] => []
  | c :: r => if c = 10 ∨ c = 13 then c :: r else comL r
/-- Behind white and comments; are we in one? -/
def gapM : Bool → List Nat → List Nat
  | _, [] => []
  | false, c :: r => if spB c = true then gapM false r else if c = 37 then gapM true r else c :: r
  | true, c :: r => if c = 10 ∨ c = 13 then gapM false r else gapM true r
def gapL (l : List Nat) : List Nat := gapM false l
theorem sp_nl {c : Nat} (h : c = 10 ∨ c = 13) : spB c = true := by rcases h with rfl | rfl <;> rfl
theorem gapM_com : ∀ l : List Nat, gapM true l = gapM false (comL l)
  | [] => rfl
  | c :: r => by
    unfold comL
    by_cases h : c = 10 ∨ c = 13
    · rw [if_pos h, gapM, gapM, if_pos h, if_pos (sp_nl h)]
    · rw [if_neg h, gapM, if_neg h]
      exact gapM_com r
theorem gap_nil {l : List Nat} (h : l.length = 0) : gapL l = l := by
  obtain rfl := List.eq_nil_of_length_eq_zero h
  rfl
theorem gap_sp {l : List Nat} {k c : Nat} (h : l[k]? = some c) (hs : spB c = true) : gapL (l.drop k) = gapL (l.drop (k + 1)) := by
  unfold gapL
  rw [drop_at h, gapM, if_pos hs]
theorem gap_com {l : List Nat} {k : Nat} (h : l[k]? = some 37) : gapL (l.drop k) = gapL (comL (l.drop (k + 1))) := by
  unfold gapL
  rw [drop_at h, gapM, if_neg (by decide), if_pos rfl, gapM_com]
theorem gap_stop {l : List Nat} {k c : Nat} (h : l[k]? = some c) (hs : spB c = false) (hc : c ≠ 37) : gapL (l.drop k) = l.drop k := by
  unfold gapL
  rw [drop_at h, gapM, if_neg (by rw [hs]; decide), if_neg hc]
theorem com_go {l : List Nat} {k c : Nat} (h : l[k]? = some c) (hc : ¬ (c = 10 ∨ c = 13)) : comL (l.drop k) = comL (l.drop (k + 1)) := by
  rw [drop_at h, comL, if_neg hc]
theorem com_stop {l : List Nat} {k c : Nat} (h : l[k]? = some c) (hc : c = 10 ∨ c = 13) : comL (l.drop k) = l.drop k := by
  rw [drop_at h, comL, if_pos hc]
theorem com_nil {l : List Nat} (h : l.length = 0) : comL l = l := by
  obtain rfl := List.eq_nil_of_length_eq_zero h
  rfl
/-- The bytes of a row of others, and what stands behind. -/
def regL (l : List Nat) : List Nat := l.takeWhile rgB
def offL (l : List Nat) : List Nat := l.dropWhile rgB
theorem reg_off (l : List Nat) : regL l ++ offL l = l := List.takeWhile_append_dropWhile
theorem off_go {l : List Nat} {k c : Nat} (h : l[k]? = some c) (hc : rgB c = true) : offL (l.drop k) = offL (l.drop (k + 1)) := by
  unfold offL
  rw [drop_at h, List.dropWhile_cons, if_pos hc]
theorem off_stop {l : List Nat} {k c : Nat} (h : l[k]? = some c) (hc : rgB c = false) : offL (l.drop k) = l.drop k := by
  unfold offL
  rw [drop_at h, List.dropWhile_cons, if_neg (by rw [hc]; decide)]
theorem off_nil {l : List Nat} (h : l.length = 0) : offL l = l := by
  obtain rfl := List.eq_nil_of_length_eq_zero h
  rfl
theorem reg_of {l : List Nat} {k m : Nat} (h : l.drop m = offL (l.drop k)) (hkm : k ≤ m) (hm : m ≤ l.length) : regL (l.drop k) = (l.drop k).take (m - k) := by
  have e := reg_off (l.drop k)
  have hl : (regL (l.drop k)).length = m - k := by
    have e1 : (regL (l.drop k) ++ offL (l.drop k)).length = (l.drop k).length := by rw [e]
    rw [List.length_append, ← h, List.length_drop, List.length_drop] at e1
    omega
  conv => rhs; rw [← e, ← hl]
  rw [List.take_left]
/-- A digit of sixteen. -/
def hexD (c : Nat) : Option Nat := if 48 ≤ c ∧ c ≤ 57 then some (c - 48) else if 65 ≤ c ∧ c ≤ 70 then some (c - 55) else if 97 ≤ c ∧ c ≤ 102 then some (c - 87) else none
theorem hexD_lt {c v : Nat} (h : hexD c = some v) : v < 16 := by
  unfold hexD at h
  split at h
  · injection h with h; omega
  · split at h
    · injection h with h; omega
    · split at h
      · injection h with h; omega
      · cases h
/-- The bytes of a name, behind those that are told already. -/
def nmN : Nat → List Nat → List Nat → Option (List Nat)
  | 0, acc, l => if l.length = 0 then some acc else none
  | k + 1, acc, l =>
    if l.length = 0 then some acc
    else if hd l ≠ 35 then nmN k (acc ++ [hd l]) (l.drop 1)
    else if l.length < 3 then none
    else match hexD (hd (l.drop 1)), hexD (hd (l.drop 2)) with
      | some a, some b => if 16 * a + b = 0 then none else nmN k (acc ++ [16 * a + b]) (l.drop 3)
      | _, _ => none
theorem nmN_more : ∀ (k m : Nat) (acc l : List Nat), l.length ≤ k → l.length ≤ m → nmN k acc l = nmN m acc l
  | 0, 0, _, _, _, _ => rfl
  | 0, _ + 1, acc, l, h, _ => by
    have : l.length = 0 := by omega
    simp only [nmN, if_pos this]
  | _ + 1, 0, acc, l, _, h => by
    have : l.length = 0 := by omega
    simp only [nmN, if_pos this]
  | k + 1, m + 1, acc, l, h, h' => by
    unfold nmN
    rw [nmN_more k m _ (l.drop 1) (by rw [List.length_drop]; omega) (by rw [List.length_drop]; omega)]
    congr 2
    split
    · rfl
    · split
      · rw [nmN_more k m _ (l.drop 3) (by rw [List.length_drop]; omega) (by rw [List.length_drop]; omega)]
      · rfl
def nmL (acc l : List Nat) : Option (List Nat) := nmN l.length acc l
theorem nmL_eq (acc l : List Nat) : nmL acc l =
    if l.length = 0 then some acc
    else if hd l ≠ 35 then nmL (acc ++ [hd l]) (l.drop 1)
    else if l.length < 3 then none
    else match hexD (hd (l.drop 1)), hexD (hd (l.drop 2)) with
      | some a, some b => if 16 * a + b = 0 then none else nmL (acc ++ [16 * a + b]) (l.drop 3)
      | _, _ => none := by
  unfold nmL
  rw [nmN_more l.length (l.length + 1) acc l (Nat.le_refl _) (by omega), nmN, nmN_more l.length (l.drop 1).length _ (l.drop 1) (by rw [List.length_drop]; omega) (Nat.le_refl _)]
  congr 2
  split
  · rfl
  · split
    · rw [nmN_more l.length (l.drop 3).length _ (l.drop 3) (by rw [List.length_drop]; omega) (Nat.le_refl _)]
    · rfl
/-- A line's end of two bytes. -/
def skN (l : List Nat) : List Nat := if hd l = 10 then l.drop 1 else l
theorem skN_len (l : List Nat) : (skN l).length ≤ l.length := by
  unfold skN
  split
  · rw [List.length_drop]; omega
  · exact Nat.le_refl _
def octB (c : Nat) : Bool := decide (48 ≤ c) && decide (c ≤ 55)
/-- What stands behind a backslash: the bytes, and what stands behind. -/
def octL (l : List Nat) : List Nat × List Nat :=
  if octB (hd (l.drop 1)) = true then
    if octB (hd (l.drop 2)) = true then ([(64 * (hd l - 48) + 8 * (hd (l.drop 1) - 48) + (hd (l.drop 2) - 48)) % 256], l.drop 3)
    else ([8 * (hd l - 48) + (hd (l.drop 1) - 48)], l.drop 2)
  else ([hd l - 48], l.drop 1)
def escB (c : Nat) : Option Nat := if c = 110 then some 10 else if c = 114 then some 13 else if c = 116 then some 9 else if c = 98 then some 8 else if c = 102 then some 12 else none
def escL (l : List Nat) : List Nat × List Nat :=
  if l.length = 0 then ([], []) else
  match escB (hd l) with
  | some c => ([c], l.drop 1)
  | none => if hd l = 10 then ([], l.drop 1) else if hd l = 13 then ([], skN (l.drop 1)) else if octB (hd l) = true then octL l else ([hd l], l.drop 1)
theorem oct_len (l : List Nat) : (octL l).2.length ≤ l.length - 1 := by
  unfold octL
  split
  · split
    · rw [List.length_drop]; omega
    · rw [List.length_drop]; omega
  · rw [List.length_drop]; omega
theorem esc_len (l : List Nat) : (escL l).2.length ≤ l.length - 1 := by
  unfold escL
  split
  · simp
  · split
    · rw [List.length_drop]; omega
    · split
      · rw [List.length_drop]; omega
      · split
        · have := skN_len (l.drop 1); rw [List.length_drop] at this; omega
        · split
          · exact oct_len l
          · rw [List.length_drop]; omega
/-- The bytes of a text in brackets, from behind the first one, behind those that are told already. -/
def strN : Nat → Nat → List Nat → List Nat → Option (List Nat × List Nat)
  | 0, _, _, _ => none
  | k + 1, d, acc, l =>
    if l.length = 0 then none
    else if hd l = 40 then strN k (d + 1) (acc ++ [40]) (l.drop 1)
    else if hd l = 41 then (if d = 1 then some (acc, l.drop 1) else strN k (d - 1) (acc ++ [41]) (l.drop 1))
    else if hd l = 13 then strN k d (acc ++ [10]) (skN (l.drop 1))
    else if hd l = 92 then strN k d (acc ++ (escL (l.drop 1)).1) (escL (l.drop 1)).2
    else strN k d (acc ++ [hd l]) (l.drop 1)
theorem strN_more : ∀ (k m d : Nat) (acc l : List Nat), l.length ≤ k → l.length ≤ m → strN k d acc l = strN m d acc l
  | 0, 0, _, _, _, _, _ => rfl
  | 0, _ + 1, d, acc, l, h, _ => by
    have : l.length = 0 := by omega
    simp only [strN, if_pos this]
  | _ + 1, 0, d, acc, l, _, h => by
    have : l.length = 0 := by omega
    simp only [strN, if_pos this]
  | k + 1, m + 1, d, acc, l, h, h' => by
    have e1 : ∀ d acc, strN k d acc (l.drop 1) = strN m d acc (l.drop 1) := fun d acc => strN_more k m d acc _ (by rw [List.length_drop]; omega) (by rw [List.length_drop]; omega)
    have e2 : ∀ d acc, strN k d acc (skN (l.drop 1)) = strN m d acc (skN (l.drop 1)) := fun d acc => strN_more k m d acc _ (by have := skN_len (l.drop 1); rw [List.length_drop] at this; omega) (by have := skN_len (l.drop 1); rw [List.length_drop] at this; omega)
    have e3 : ∀ d acc, strN k d acc (escL (l.drop 1)).2 = strN m d acc (escL (l.drop 1)).2 := fun d acc => strN_more k m d acc _ (by have := esc_len (l.drop 1); rw [List.length_drop] at this; omega) (by have := esc_len (l.drop 1); rw [List.length_drop] at this; omega)
    unfold strN
    simp only [e1, e2, e3]
def strL (d : Nat) (acc l : List Nat) : Option (List Nat × List Nat) := strN l.length d acc l
theorem strL_eq (d : Nat) (acc l : List Nat) : strL d acc l =
    if l.length = 0 then none
    else if hd l = 40 then strL (d + 1) (acc ++ [40]) (l.drop 1)
    else if hd l = 41 then (if d = 1 then some (acc, l.drop 1) else strL (d - 1) (acc ++ [41]) (l.drop 1))
    else if hd l = 13 then strL d (acc ++ [10]) (skN (l.drop 1))
    else if hd l = 92 then strL d (acc ++ (escL (l.drop 1)).1) (escL (l.drop 1)).2
    else strL d (acc ++ [hd l]) (l.drop 1) := by
  have e1 : ∀ d acc, strN l.length d acc (l.drop 1) = strN (l.drop 1).length d acc (l.drop 1) := fun d acc => strN_more _ _ d acc _ (by rw [List.length_drop]; omega) (Nat.le_refl _)
  have e2 : ∀ d acc, strN l.length d acc (skN (l.drop 1)) = strN (skN (l.drop 1)).length d acc (skN (l.drop 1)) := fun d acc => strN_more _ _ d acc _ (by have := skN_len (l.drop 1); rw [List.length_drop] at this; omega) (Nat.le_refl _)
  have e3 : ∀ d acc, strN l.length d acc (escL (l.drop 1)).2 = strN (escL (l.drop 1)).2.length d acc (escL (l.drop 1)).2 := fun d acc => strN_more _ _ d acc _ (by have := esc_len (l.drop 1); rw [List.length_drop] at this; omega) (Nat.le_refl _)
  unfold strL
  rw [strN_more l.length (l.length + 1) d acc l (Nat.le_refl _) (by omega), strN]
  simp only [e1, e2, e3]
/-- Bytes of digits of sixteen, two by two. -/
def prL : List Nat → List Nat
  | [] => []
  | [a] => [16 * a]
  | a :: b :: r => (16 * a + b) :: prL r
theorem prL_even : ∀ (n : Nat) (l : List Nat) (v : Nat), l.length = 2 * n → prL (l ++ [v]) = prL l ++ [16 * v]
  | 0, l, v, h => by
    obtain rfl := List.eq_nil_of_length_eq_zero (show l.length = 0 by omega)
    rfl
  | n + 1, [], v, h => by simp at h
  | n + 1, [_], v, h => by simp at h; omega
  | n + 1, a :: b :: r, v, h => by
    have := prL_even n r v (by simp at h; omega)
    simp [prL, this]
theorem prL_odd : ∀ (n : Nat) (l : List Nat) (a v : Nat), l.length = 2 * n → prL (l ++ [a, v]) = prL l ++ [16 * a + v]
  | 0, l, a, v, h => by
    obtain rfl := List.eq_nil_of_length_eq_zero (show l.length = 0 by omega)
    rfl
  | n + 1, [], a, v, h => by simp at h
  | n + 1, [_], a, v, h => by simp at h; omega
  | n + 1, x :: y :: r, a, v, h => by
    have := prL_odd n r a v (by simp at h; omega)
    simp [prL, this]
theorem prL_len : ∀ (l : List Nat), (prL l).length = (l.length + 1) / 2
  | [] => rfl
  | [_] => by simp [prL]
  | a :: b :: r => by simp [prL, prL_len r]; omega
/-- The digits in sixteens of bytes without white; nothing where one is none. -/
def dgL : List Nat → Option (List Nat)
  | [] => some []
  | c :: r => if spB c = true then dgL r else match hexD c with
    | none => none
    | some v => (dgL r).map (v :: ·)
def dgR (acc l : List Nat) : Option (List Nat) := (dgL l).map (acc ++ ·)
theorem dgR_sp {l acc : List Nat} {k c : Nat} (h : l[k]? = some c) (hs : spB c = true) : dgR acc (l.drop k) = dgR acc (l.drop (k + 1)) := by
  unfold dgR
  rw [drop_at h, dgL, if_pos hs]
theorem dgR_bad {l acc : List Nat} {k c : Nat} (h : l[k]? = some c) (hs : spB c = false) (hc : hexD c = none) : dgR acc (l.drop k) = none := by
  unfold dgR
  rw [drop_at h, dgL, if_neg (by rw [hs]; decide), hc]
  rfl
theorem dgR_go {l acc : List Nat} {k c v : Nat} (h : l[k]? = some c) (hs : spB c = false) (hc : hexD c = some v) : dgR acc (l.drop k) = dgR (acc ++ [v]) (l.drop (k + 1)) := by
  unfold dgR
  rw [drop_at h, dgL, if_neg (by rw [hs]; decide), hc]
  cases dgL (l.drop (k + 1)) <;> simp
theorem dgR_end {l acc : List Nat} (h : l.length = 0) : dgR acc l = some acc := by
  obtain rfl := List.eq_nil_of_length_eq_zero h
  simp [dgR, dgL]
/-- Up to the mark that ends a text in sixteens, and what stands behind it; nothing where there is none. -/
def cutGt : List Nat → Option (List Nat × List Nat)
  | [] => none
  | c :: r => if c = 62 then some ([], r) else (cutGt r).map fun x => (c :: x.1, x.2)
def hxL (l : List Nat) : Option (List Nat × List Nat) :=
  match cutGt l with
  | none => none
  | some (b, r) => (dgL b).map fun d => (prL d, r)
/-- A token. -/
structure TokV where
  kind : Int
  m : Int
  s : Int
  text : List Nat
def noTok : TokV := ⟨0, 0, 0, []⟩
abbrev NX := Int × TokV × List Nat
def errN (e : Int) : NX := (e, noTok, [])
/-- A text of bytes, if it is no longer than may be. -/
def limL (kind : Int) : Option (List Nat × List Nat) → NX
  | none => errN 4
  | some (t, r) => if 65535 < t.length then errN 2 else (0, ⟨kind, 0, 0, t⟩, r)
end Go.Proofs.YtdiaijdobglaaaaGreatDoor
