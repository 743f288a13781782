/- The bytes of a number; a reader that is left alone. -/
import Derived.Test.YtpcofdhhnfichaaBitsWords
import Derived.Test.YtpcofdhhnfichaaBitsTake
import Derived.Test.YtpcofdhhnfichaaBitsNew
import Derived.Test.YtpcofdhhnfichaaBitsWrB
namespace Go.Proofs.Ytpcofdhhnfichaa
open Go.RowKit

/-- Byte i of a number, the first one lowest. -/
def digit (N i : Nat) : Nat := N / 256 ^ i % 256
theorem digit_lt (N i : Nat) : digit N i < 256 := Nat.mod_lt _ (by decide)
/-- A row of n cells of which the first i hold the number's bytes, the others 0. -/
def rowB (N n i : Nat) : Array Value := ((List.range n).map fun j => Value.int .u8 (if j < i then (digit N j : Int) else 0)).toArray
theorem rowB_size (N n i : Nat) : (rowB N n i).size = n := by simp [rowB]
theorem rowB_at (N n i j : Nat) (h : j < n) : (rowB N n i)[j]? = some (.int .u8 (if j < i then (digit N j : Int) else 0)) := by simp [rowB, h]
theorem rowB_zero (N n : Nat) : madeCells #[.int .u8 0] n = rowB N n 0 := by
  apply Array.toList_inj.1
  rw [toList_madeCells_one]
  apply List.ext_getElem
  · simp [rowB]
  · intro i h1 h2
    simp [rowB]
theorem rowB_set (N n i : Nat) : (rowB N n i).setIfInBounds i (.int .u8 (digit N i)) = rowB N n (i + 1) := by
  apply Array.toList_inj.1
  apply List.ext_getElem
  · simp [rowB]
  · intro j h1 h2
    simp [rowB] at h1 h2 ⊢
    rw [List.getElem_set]
    by_cases e : i = j
    · subst e; simp
    · rw [if_neg e]
      simp
      by_cases e1 : j < i
      · rw [if_pos e1, if_pos (by omega)]
      · rw [if_neg e1, if_neg (by omega)]
theorem RS.away {w : World} {B R : Nat} {A : Option Addr} {n c word held : Nat} {bs : List Nat} (h : RS w B R A n c word held bs) {w' : World} {row : Option Nat} (hg : w.grownBy w' row) (hB : some B ≠ row) (hR : some R ≠ row) : RS w' B R A n c word held bs :=
  ⟨h.whole.kept hg hB, h.len, h.cap, h.top, h.byte, h.low, fun hn => by
    obtain ⟨o, cur, e, hw, hc⟩ := h.rest hn
    exact ⟨o, cur, e, hw.kept hg hR, hc⟩⟩
theorem RD.away {w : World} {B R N L : Nat} (h : RD w B R N L) {w' : World} {row : Option Nat} (hg : w.grownBy w' row) (hB : some B ≠ row) (hR : some R ≠ row) : RD w' B R N L := by
  obtain ⟨A, n, c, word, held, bs, h, r⟩ := h
  exact ⟨A, n, c, word, held, bs, h.away hg hB hR, r⟩
theorem RD.lt {w : World} {B R N L : Nat} (h : RD w B R N L) : B < w.heap.size := by
  obtain ⟨A, n, c, word, held, bs, h, r⟩ := h
  exact h.whole.lt
theorem digit_num : ∀ (bs : List Nat), (∀ b ∈ bs, b < 256) → ∀ i b, bs[i]? = some b → digit (num bs) i = b
  | [], _, i, b, h => by simp at h
  | x :: l, hb, 0, b, h => by
    have h1 := hb x (List.mem_cons_self ..)
    simp at h
    subst h
    simp only [digit, num, Nat.pow_zero, Nat.div_one]
    omega
  | x :: l, hb, i + 1, b, h => by
    have h1 := hb x (List.mem_cons_self ..)
    have ih := digit_num l (fun y hy => hb y (List.mem_cons_of_mem _ hy)) i b (by simpa using h)
    unfold digit at ih ⊢
    rw [Nat.pow_succ, Nat.mul_comm, ← Nat.div_div_eq_div_mul]
    have : num (x :: l) / 256 = num l := by simp only [num]; omega
    rw [this]
    exact ih
theorem row_bytes {w : World} {g : Nat} {bs : List Nat} (hw : Whole w g 5 (rowB (num bs) bs.length bs.length)) (hb : ∀ b ∈ bs, b < 256) (hl : bs.length ≤ 1000000) : Bytes w (some ⟨g, 0, none⟩) bs.length bs.length bs :=
  ⟨rfl, Nat.le_refl _, by omega, hb, fun _ => ⟨g, 0, rfl, hw.lt, fun i b h => by
    have hi := (List.getElem?_eq_some_iff.1 h).1
    rw [hw.reads, rowB_at _ _ _ _ (by omega), if_pos (by omega), digit_num bs hb (0 + i) b (by simpa using h)]⟩⟩
end Go.Proofs.Ytpcofdhhnfichaa
