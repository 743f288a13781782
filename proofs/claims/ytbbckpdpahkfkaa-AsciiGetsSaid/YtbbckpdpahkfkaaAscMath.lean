/- Bytes told in sixteens and in eighty-fives, on lists. No program stands in it. -/
import Derived.Test.YtbbckpdpahkfkaaPredMath
namespace Go.Proofs.Ytbbckpdpahkfkaa

/-- A digit of sixteen. -/
def hexD (d : Nat) : Nat := if d < 10 then 48 + d else 55 + d
def hexS (bs : List Nat) : List Nat := bs.flatMap fun x => [hexD (x / 16), hexD (x % 16)]
def isW (c : Nat) : Bool := c == 0 || c == 9 || c == 10 || c == 12 || c == 13 || c == 32
def digM (c : Nat) : Option Nat :=
  if 48 ≤ c ∧ c ≤ 57 then some (c - 48) else if 65 ≤ c ∧ c ≤ 70 then some (c - 65 + 10) else if 97 ≤ c ∧ c ≤ 102 then some (c - 97 + 10) else none
/-- The values of signs; none: a sign is none. -/
def hexV : List Nat → Option (List Nat)
  | [] => some []
  | c :: r => if isW c then hexV r else match digM c with
    | none => none
    | some d => (hexV r).map (d :: ·)
def pairUp : List Nat → List Nat
  | [] => []
  | [a] => [a * 16]
  | a :: b :: r => (a * 16 + b) :: pairUp r
/-- A text up to its first '>'; none: there is no such. -/
def cut1 : List Nat → Option (List Nat)
  | [] => none
  | c :: r => if c = 62 then some [] else (cut1 r).map (c :: ·)
/-- A text up to its first '~>'. -/
def cut2 : List Nat → Option (List Nat)
  | [] => none
  | [_] => none
  | c :: d :: r => if c = 126 ∧ d = 62 then some [] else (cut2 (d :: r)).map (c :: ·)
def unhexR (t : List Nat) (most : Int) : Int × List Nat :=
  if most < 0 ∨ 1048576 < most then (1, []) else match cut1 t with
    | none => (4, [])
    | some body => match hexV body with
      | none => (4, [])
      | some ds => if most < (((ds.length + 1) / 2 : Nat) : Int) then (2, []) else (0, pairUp ds)
theorem hexS_len (bs : List Nat) : (hexS bs).length = 2 * bs.length := by
  induction bs with
  | nil => rfl
  | cons x r ih => rw [hexS, List.flatMap_cons, List.length_append, ← hexS, ih, List.length_cons, List.length_cons, List.length_cons, List.length_nil]; omega
theorem hexD_lt {d : Nat} (h : d < 16) : hexD d < 256 := by unfold hexD; split <;> omega
theorem hexD_dig {d : Nat} (h : d < 16) : digM (hexD d) = some d ∧ isW (hexD d) = false ∧ hexD d ≠ 62 ∧ hexD d ≠ 126 := by
  have key : ∀ d : Fin 16, digM (hexD d.1) = some d.1 ∧ isW (hexD d.1) = false ∧ hexD d.1 ≠ 62 ∧ hexD d.1 ≠ 126 := by decide
  exact key ⟨d, h⟩
theorem hexS_byte {bs : List Nat} (hb : ∀ x ∈ bs, x < 256) : ∀ x ∈ hexS bs, x < 256 := by
  intro x hx
  obtain ⟨y, hy, hx⟩ := List.mem_flatMap.1 hx
  have := hb y hy
  simp only [List.mem_cons, List.not_mem_nil, or_false] at hx
  rcases hx with rfl | rfl
  · exact hexD_lt (by omega)
  · exact hexD_lt (by omega)
theorem hexS_snoc (bs : List Nat) (x : Nat) : hexS (bs ++ [x]) = hexS bs ++ [hexD (x / 16), hexD (x % 16)] := by
  unfold hexS; rw [List.flatMap_append]; rfl
theorem hexV_white {a b : List Nat} {ws : List Nat} (hw : ∀ c ∈ ws, isW c = true) : hexV (a ++ ws ++ b) = hexV (a ++ b) := by
  induction a with
  | nil =>
    induction ws with
    | nil => rfl
    | cons c r ih =>
      have h1 := hw c (List.mem_cons_self ..)
      show hexV (c :: (r ++ b)) = hexV b
      rw [hexV, if_pos h1]
      exact ih (fun c hc => hw c (List.mem_cons_of_mem _ hc))
  | cons c r ih =>
    show hexV (c :: (r ++ ws ++ b)) = hexV (c :: (r ++ b))
    rw [hexV, hexV, ih]
theorem hexV_hex (bs : List Nat) (hb : ∀ x ∈ bs, x < 256) : hexV (hexS bs) = some (bs.flatMap fun x => [x / 16, x % 16]) := by
  induction bs with
  | nil => rfl
  | cons x r ih =>
    have h := hb x (List.mem_cons_self ..)
    have h1 := hexD_dig (d := x / 16) (by omega)
    have h2 := hexD_dig (d := x % 16) (by omega)
    show hexV (hexD (x / 16) :: hexD (x % 16) :: hexS r) = _
    rw [hexV, hexV, h1.1, h1.2.1, h2.1, h2.2.1, ih (fun y hy => hb y (List.mem_cons_of_mem _ hy))]
    rfl
theorem pairUp_hex (bs : List Nat) : pairUp (bs.flatMap fun x => [x / 16, x % 16]) = bs := by
  induction bs with
  | nil => rfl
  | cons x r ih =>
    show (x / 16 * 16 + x % 16) :: pairUp (r.flatMap fun x => [x / 16, x % 16]) = _
    rw [ih]
    congr 1
    omega
theorem flat2_len (bs : List Nat) : (bs.flatMap fun x => [x / 16, x % 16]).length = 2 * bs.length := by
  induction bs with
  | nil => rfl
  | cons x r ih => rw [List.flatMap_cons, List.length_append, ih, List.length_cons, List.length_cons, List.length_cons, List.length_nil]; omega
theorem cut1_app {a rest : List Nat} (h : ∀ c ∈ a, c ≠ 62) : cut1 (a ++ 62 :: rest) = some a := by
  induction a with
  | nil => rfl
  | cons c r ih =>
    show cut1 (c :: (r ++ 62 :: rest)) = _
    rw [cut1, if_neg (h c (List.mem_cons_self ..)), ih (fun x hx => h x (List.mem_cons_of_mem _ hx))]
    rfl
theorem cut2_app {a rest : List Nat} (h : ∀ c ∈ a, c ≠ 126) : cut2 (a ++ 126 :: 62 :: rest) = some a := by
  induction a with
  | nil => rfl
  | cons c r ih =>
    have h1 := h c (List.mem_cons_self ..)
    have ih := ih (fun x hx => h x (List.mem_cons_of_mem _ hx))
    cases r with
    | nil =>
      show cut2 (c :: 126 :: 62 :: rest) = _
      rw [cut2, if_neg (fun e => h1 e.1), show (126 :: 62 :: rest) = [] ++ 126 :: 62 :: rest from rfl, ih]
      rfl
    | cons d s =>
      show cut2 (c :: d :: (s ++ 126 :: 62 :: rest)) = _
      rw [cut2, if_neg (fun e => h1 e.1), show (d :: (s ++ 126 :: 62 :: rest)) = (d :: s) ++ 126 :: 62 :: rest from rfl, ih]
      rfl
/-- The number of up to four bytes, noughts behind. -/
def num4 (g : List Nat) : Nat := ((g.getD 0 0 * 256 + g.getD 1 0) * 256 + g.getD 2 0) * 256 + g.getD 3 0
def fiveD (n : Nat) : List Nat := [33 + n / 52200625 % 85, 33 + n / 614125 % 85, 33 + n / 7225 % 85, 33 + n / 85 % 85, 33 + n % 85]
def putG (g : List Nat) : List Nat := if num4 g = 0 ∧ g.length = 4 then [122] else (fiveD (num4 g)).take (g.length + 1)
def putN (bs : List Nat) : Nat → List Nat
  | 0 => []
  | m + 1 => putN bs m ++ putG (rowM bs 4 m)
def putS (bs : List Nat) : List Nat := putN bs ((bs.length + 3) / 4)
def num5 : List Nat → Nat → Nat
  | [], n => n
  | d :: r, n => num5 r (85 * n + d)
def fourB (n : Nat) : List Nat := [n / 16777216 % 256, n / 65536 % 256, n / 256 % 256, n % 256]
/-- The state behind the signs of a text: the signs held, the bytes; none: a fault. -/
def getM : List Nat → List Nat → List Nat → Option (List Nat × List Nat)
  | [], l, out => some (l, out)
  | c :: r, l, out =>
    if isW c then getM r l out
    else if c = 122 ∧ l = [] then getM r [] (out ++ [0, 0, 0, 0])
    else if c < 33 ∨ 117 < c then none
    else if l.length = 4 then
      (if 4294967295 < num5 (l ++ [c - 33]) 0 then none else getM r [] (out ++ fourB (num5 (l ++ [c - 33]) 0)))
    else getM r (l ++ [c - 33]) out
def endM (l out : List Nat) : Option (List Nat) :=
  if l = [] then some out else if l.length = 1 then none
  else if 4294967295 < num5 (l ++ List.replicate (5 - l.length) 84) 0 then none
  else some (out ++ (fourB (num5 (l ++ List.replicate (5 - l.length) 84) 0)).take (l.length - 1))
def getR (t : List Nat) (most : Int) : Int × List Nat :=
  if most < 0 ∨ 1048576 < most then (1, []) else match cut2 t with
    | none => (4, [])
    | some body => match getM body [] [] with
      | none => (4, [])
      | some (l, out) => match endM l out with
        | none => (4, [])
        | some o => if most < (o.length : Int) then (2, []) else (0, o)
theorem num4_lt {g : List Nat} (h : ∀ x ∈ g, x < 256) : num4 g < 4294967296 := by
  have h0 := getD_lt h 0
  have h1 := getD_lt h 1
  have h2 := getD_lt h 2
  have h3 := getD_lt h 3
  unfold num4
  omega
theorem fiveD_ok (n : Nat) : ∀ x ∈ fiveD n, 33 ≤ x ∧ x ≤ 117 := by
  intro x hx
  simp only [fiveD, List.mem_cons, List.not_mem_nil, or_false] at hx
  omega
theorem putG_ok (g : List Nat) : ∀ x ∈ putG g, 33 ≤ x ∧ x ≤ 122 ∧ (117 < x → x = 122) := by
  intro x hx
  unfold putG at hx
  split at hx
  · obtain rfl := List.mem_singleton.1 hx; omega
  · have := fiveD_ok _ x (List.mem_of_mem_take hx); omega
theorem putN_ok (bs : List Nat) : ∀ m, ∀ x ∈ putN bs m, 33 ≤ x ∧ x ≤ 122 ∧ (117 < x → x = 122)
  | 0, x, hx => by simp [putN] at hx
  | m + 1, x, hx => by
    rw [putN] at hx
    rcases List.mem_append.1 hx with h | h
    · exact putN_ok bs m x h
    · exact putG_ok _ x h
theorem isW_ok {c : Nat} (h : 33 ≤ c) : isW c = false := by
  unfold isW
  simp
  omega
theorem getM_app : ∀ (a b l out l' out' : List Nat), getM a l out = some (l', out') → getM (a ++ b) l out = getM b l' out'
  | [], b, l, out, l', out', h => by
    injection h with h
    injection h with h1 h2
    subst h1 h2
    rfl
  | c :: r, b, l, out, l', out', h => by
    show getM (c :: (r ++ b)) l out = _
    rw [getM] at h ⊢
    by_cases h1 : isW c
    · rw [if_pos h1] at h ⊢; exact getM_app r b _ _ l' out' h
    rw [if_neg h1] at h ⊢
    by_cases h2 : c = 122 ∧ l = []
    · rw [if_pos h2] at h ⊢; exact getM_app r b _ _ l' out' h
    rw [if_neg h2] at h ⊢
    by_cases h3 : c < 33 ∨ 117 < c
    · rw [if_pos h3] at h; cases h
    rw [if_neg h3] at h ⊢
    by_cases h4 : l.length = 4
    · rw [if_pos h4] at h ⊢
      by_cases h5 : 4294967295 < num5 (l ++ [c - 33]) 0
      · rw [if_pos h5] at h; cases h
      · rw [if_neg h5] at h ⊢; exact getM_app r b _ _ l' out' h
    · rw [if_neg h4] at h ⊢; exact getM_app r b _ _ l' out' h
theorem getM_white {ws : List Nat} (hw : ∀ c ∈ ws, isW c = true) : ∀ (a b l out : List Nat), getM (a ++ ws ++ b) l out = getM (a ++ b) l out
  | [], b, l, out => by
    induction ws with
    | nil => rfl
    | cons c r ih =>
      show getM (c :: (r ++ b)) l out = getM b l out
      rw [getM, if_pos (hw c (List.mem_cons_self ..))]
      exact ih (fun c hc => hw c (List.mem_cons_of_mem _ hc))
  | c :: r, b, l, out => by
    show getM (c :: (r ++ ws ++ b)) l out = getM (c :: (r ++ b)) l out
    rw [getM, getM, getM_white hw r b, getM_white hw r b, getM_white hw r b, getM_white hw r b]
end Go.Proofs.Ytbbckpdpahkfkaa
