/- Rows of bytes and what foretells them, on lists. No program stands in it. -/
namespace Go.Proofs.Ytbbckpdpahkfkaa

/-- How far two numbers are apart. -/
def farM (a b : Int) : Int := max (a - b) (b - a)
def nearM (a b c : Nat) : Nat :=
  if farM ((a : Int) + b - c) a ≤ farM ((a : Int) + b - c) b ∧ farM ((a : Int) + b - c) a ≤ farM ((a : Int) + b - c) c then a
  else if farM ((a : Int) + b - c) b ≤ farM ((a : Int) + b - c) c then b else c
/-- What a tag foretells. -/
def foreM (tag a b c : Nat) : Nat :=
  if tag = 0 then 0 else if tag = 1 then a else if tag = 2 then b else if tag = 3 then (a + b) / 2 else if tag = 4 then nearM a b c else 0
theorem nearM_lt {a b c : Nat} (ha : a < 256) (hb : b < 256) (hc : c < 256) : nearM a b c < 256 := by
  unfold nearM; split
  · exact ha
  · split <;> assumption
theorem foreM_lt {tag a b c : Nat} (ha : a < 256) (hb : b < 256) (hc : c < 256) : foreM tag a b c < 256 := by
  have := nearM_lt ha hb hc
  unfold foreM
  repeat' split
  all_goals omega
/-- The byte that stands s places back from place k; 0: there is none. -/
def backM (l : List Nat) (k s : Nat) : Nat := if k < s then 0 else l.getD (k - s) 0
def uRow (tag s : Nat) (up told : List Nat) : Nat → List Nat
  | 0 => []
  | k + 1 => uRow tag s up told k ++ [(told.getD k 0 + foreM tag (backM (uRow tag s up told k) k s) (up.getD k 0) (backM up k s)) % 256]
def dRow (tag s : Nat) (up row : List Nat) : Nat → List Nat
  | 0 => []
  | k + 1 => dRow tag s up row k ++ [(row.getD k 0 + 256 - foreM tag (backM row k s) (up.getD k 0) (backM up k s)) % 256]
theorem uRow_len (tag s : Nat) (up told : List Nat) : ∀ k, (uRow tag s up told k).length = k
  | 0 => rfl
  | k + 1 => by simp [uRow, uRow_len tag s up told k]
theorem dRow_len (tag s : Nat) (up told : List Nat) : ∀ k, (dRow tag s up told k).length = k
  | 0 => rfl
  | k + 1 => by simp [dRow, dRow_len tag s up told k]
theorem uRow_byte (tag s : Nat) (up told : List Nat) : ∀ k, ∀ x ∈ uRow tag s up told k, x < 256
  | 0, x, h => by simp [uRow] at h
  | k + 1, x, h => by
    simp only [uRow, List.mem_append, List.mem_singleton] at h
    rcases h with h | rfl
    · exact uRow_byte tag s up told k x h
    · omega
theorem dRow_byte (tag s : Nat) (up told : List Nat) : ∀ k, ∀ x ∈ dRow tag s up told k, x < 256
  | 0, x, h => by simp [dRow] at h
  | k + 1, x, h => by
    simp only [dRow, List.mem_append, List.mem_singleton] at h
    rcases h with h | rfl
    · exact dRow_byte tag s up told k x h
    · omega
theorem getD_lt {l : List Nat} (h : ∀ x ∈ l, x < 256) (k : Nat) : l.getD k 0 < 256 := by
  rw [List.getD_eq_getElem?_getD]
  cases e : l[k]? with
  | none => simp
  | some x => exact h x (List.mem_of_getElem? e)
theorem backM_lt {l : List Nat} (h : ∀ x ∈ l, x < 256) (k s : Nat) : backM l k s < 256 := by
  unfold backM; split
  · omega
  · exact getD_lt h _
theorem getD_take {l : List Nat} {j n : Nat} (h : j < n) : (l.take n).getD j 0 = l.getD j 0 := by
  simp [List.getD_eq_getElem?_getD, h]
theorem getD_app {l r : List Nat} {j : Nat} (h : j < l.length) : (l ++ r).getD j 0 = l.getD j 0 := by
  simp [List.getD_eq_getElem?_getD, List.getElem?_append, h]
theorem getD_end (l : List Nat) (x : Nat) : (l ++ [x]).getD l.length 0 = x := by
  simp [List.getD_eq_getElem?_getD]
theorem backM_take {l : List Nat} {k s n : Nat} (hk : k < n + s) : backM (l.take n) k s = backM l k s := by
  unfold backM; split
  · rfl
  · exact getD_take (by omega)
theorem backM_app {l r : List Nat} {k s : Nat} (hk : k < l.length + s) : backM (l ++ r) k s = backM l k s := by
  unfold backM; split
  · rfl
  · exact getD_app (by omega)
theorem take_snoc {l : List Nat} {k : Nat} (h : k < l.length) : l.take (k + 1) = l.take k ++ [l.getD k 0] := by
  rw [List.take_add_one, List.getD_eq_getElem?_getD, List.getElem?_eq_getElem h]; rfl
/-- The first places of a row that is undone. -/
theorem uRow_take (tag s : Nat) (up told : List Nat) (k : Nat) : ∀ n, k ≤ n → (uRow tag s up told n).take k = uRow tag s up told k
  | 0, h => by obtain rfl : k = 0 := by omega
               rfl
  | n + 1, h => by
    rcases Nat.lt_or_ge n k with h1 | h1
    · obtain rfl : k = n + 1 := by omega
      exact List.take_of_length_le (by rw [uRow_len]; omega)
    · rw [uRow, List.take_append_of_le_length (by rw [uRow_len]; exact h1)]
      exact uRow_take tag s up told k n h1
/-- The same row above, as far as it is read. -/
theorem uRow_up {tag s : Nat} {up up' told : List Nat} (h : ∀ k, up.getD k 0 = up'.getD k 0) : ∀ k, uRow tag s up told k = uRow tag s up' told k
  | 0 => rfl
  | k + 1 => by
    have hb : backM up k s = backM up' k s := by unfold backM; split <;> first | rfl | exact h _
    rw [uRow, uRow, uRow_up h k, h k, hb]
theorem dRow_up {tag s : Nat} {up up' told : List Nat} (h : ∀ k, up.getD k 0 = up'.getD k 0) : ∀ k, dRow tag s up told k = dRow tag s up' told k
  | 0 => rfl
  | k + 1 => by
    have hb : backM up k s = backM up' k s := by unfold backM; split <;> first | rfl | exact h _
    rw [dRow, dRow, dRow_up h k, h k, hb]
theorem undo_do {tag s : Nat} {up row : List Nat} {n : Nat} (hs : 1 ≤ s) (hu : ∀ x ∈ up, x < 256) (hr : ∀ x ∈ row, x < 256) (hl : row.length = n) :
    ∀ k, k ≤ n → uRow tag s up (dRow tag s up row n) k = row.take k
  | 0, _ => by simp [uRow]
  | k + 1, h => by
    have hd : (dRow tag s up row n).getD k 0 = (row.getD k 0 + 256 - foreM tag (backM row k s) (up.getD k 0) (backM up k s)) % 256 := by
      have key : ∀ m, k < m → (dRow tag s up row m).getD k 0 = (row.getD k 0 + 256 - foreM tag (backM row k s) (up.getD k 0) (backM up k s)) % 256 := by
        intro m
        induction m with
        | zero => intro h; omega
        | succ m ih =>
          intro h
          rw [dRow]
          rcases Nat.lt_or_ge k m with h1 | h1
          · rw [getD_app (by rw [dRow_len]; exact h1)]; exact ih h1
          · obtain rfl : k = m := by omega
            have := getD_end (dRow tag s up row k) ((row.getD k 0 + 256 - foreM tag (backM row k s) (up.getD k 0) (backM up k s)) % 256)
            rw [dRow_len] at this
            exact this
      exact key n (by omega)
    rw [uRow, undo_do hs hu hr hl k (by omega), hd, take_snoc (by omega), backM_take (by omega)]
    have h1 := foreM_lt (tag := tag) (backM_lt hr k s) (getD_lt hu k) (backM_lt hu k s)
    have h2 := getD_lt hr k
    congr 2
    omega
theorem do_undo {tag s : Nat} {up told : List Nat} {n : Nat} (hs : 1 ≤ s) (hu : ∀ x ∈ up, x < 256) (hr : ∀ x ∈ told, x < 256) (hl : n ≤ told.length) :
    ∀ k, k ≤ n → dRow tag s up (uRow tag s up told n) k = told.take k
  | 0, _ => by simp [dRow]
  | k + 1, h => by
    have hb : backM (uRow tag s up told n) k s = backM (uRow tag s up told k) k s := by
      rw [← uRow_take tag s up told k n (by omega), backM_take (by omega)]
    have hd : (uRow tag s up told n).getD k 0 = (told.getD k 0 + foreM tag (backM (uRow tag s up told k) k s) (up.getD k 0) (backM up k s)) % 256 := by
      rw [← getD_take (l := uRow tag s up told n) (n := k + 1) (by omega), uRow_take tag s up told (k + 1) n h, uRow]
      have := getD_end (uRow tag s up told k) ((told.getD k 0 + foreM tag (backM (uRow tag s up told k) k s) (up.getD k 0) (backM up k s)) % 256)
      rw [uRow_len] at this
      exact this
    rw [dRow, do_undo hs hu hr hl k (by omega), hd, take_snoc (by omega), hb]
    have h1 := foreM_lt (tag := tag) (backM_lt (uRow_byte tag s up told k) k s) (getD_lt hu k) (backM_lt hu k s)
    have h2 := getD_lt hr k
    congr 2
    omega

/-- The m-th of rows of n bytes. -/
def rowM (b : List Nat) (n m : Nat) : List Nat := (b.drop (m * n)).take n
def upD (b : List Nat) (n : Nat) : Nat → List Nat
  | 0 => []
  | m + 1 => rowM b n m
/-- The first m rows, done. -/
def doN (h n s tag : Nat) (b : List Nat) : Nat → List Nat
  | 0 => []
  | m + 1 => doN h n s tag b m ++ (List.replicate h tag ++ dRow tag s (upD b n m) (rowM b n m) n)
def upU (o : List Nat) (n : Nat) : Nat → List Nat
  | 0 => []
  | m + 1 => o.drop (m * n)
def tagM (h : Nat) (c : List Nat) : Nat := if h = 0 then 1 else c.getD 0 0
/-- The first m rows, undone; none: a tag is none. -/
def undoN (h n s : Nat) (b : List Nat) : Nat → Option (List Nat)
  | 0 => some []
  | m + 1 => match undoN h n s b m with
    | none => none
    | some o => if 4 < tagM h (rowM b (h + n) m) then none else some (o ++ uRow (tagM h (rowM b (h + n) m)) s (upU o n m) ((rowM b (h + n) m).drop h) n)
end Go.Proofs.Ytbbckpdpahkfkaa
