/- Rows of bytes in memory. -/
import Derived.Test.YtdlmhienolmncaaGreatMem
import Derived.Test.YtdlmhienolmncaaGreatRows
import Derived.WalkKit
import Derived.WalkSpells
import Derived.Outline
import Derived.Lib.Hide
import Derived.Lib.SliceRun
namespace Go.Proofs.YtdlmhienolmncaaGreat
open Go.RowKit

theorem info8 : (Tryz.prog.info? 5).map (fun i => (i.zero, i.size, i.bytes)) = some (some (.int .u8 0), 1, 1) := by kernel_rfl
/-- The values of bytes. -/
def bvs (bs : List Nat) : List Value := bs.map fun b : Nat => Value.int .u8 (b : Int)
theorem bvs_length (bs : List Nat) : (bvs bs).length = bs.length := by simp [bvs]
theorem bvs_at {bs : List Nat} {i : Nat} {u : Value} (h : (bvs bs)[i]? = some u) : ∃ b, bs[i]? = some b ∧ u = .int .u8 (b : Int) := by
  simp only [bvs, List.getElem?_map, Option.map_eq_some_iff] at h
  obtain ⟨b, hb, rfl⟩ := h
  exact ⟨b, hb, rfl⟩
theorem bvs_one (bs : List Nat) : ∀ u ∈ bvs bs, u.oneCell' = true := by
  intro u hu
  obtain ⟨b, _, rfl⟩ := List.mem_map.1 hu
  rfl
theorem bvs_append (a b : List Nat) : bvs (a ++ b) = bvs a ++ bvs b := by simp [bvs]
/-- A slice that reads as bytes, nil let in; its cells lie anywhere. -/
structure Bytes (w : World) (A : Option Addr) (n c : Nat) (bs : List Nat) : Prop where
  len : bs.length = n
  cap : n ≤ c
  top : c ≤ 9223372036854775807
  byte : ∀ b ∈ bs, b < 256
  at_ : 0 < n → ∃ R o, A = some ⟨R, o, none⟩ ∧ R < w.heap.size ∧ ∀ (i b : Nat), bs[i]? = some b → w.cell? ⟨R, o + i, none⟩ = some (.int .u8 b)
/-- A slice that reads as bytes, nil let in; its cells lie in block R, which is whole. -/
structure Row8 (w : World) (R : Nat) (A : Option Addr) (n c : Nat) (bs : List Nat) : Prop where
  len : bs.length = n
  cap : n ≤ c
  top : c ≤ 9223372036854775807
  byte : ∀ b ∈ bs, b < 256
  rest : 0 < n → ∃ o cur, A = some ⟨R, o, none⟩ ∧ Whole w R 5 cur ∧ ∀ (i b : Nat), bs[i]? = some b → cur[o + i]? = some (.int .u8 b)
theorem Row8.bytes {w : World} {R : Nat} {A : Option Addr} {n c : Nat} {bs : List Nat} (h : Row8 w R A n c bs) : Bytes w A n c bs :=
  ⟨h.len, h.cap, h.top, h.byte, fun hn => by
    obtain ⟨o, cur, e, hw, hc⟩ := h.rest hn
    exact ⟨R, o, e, hw.lt, fun i b hb => (hw.reads _).trans (hc i b hb)⟩⟩
theorem Row8.kept {w w' : World} {R : Nat} {A : Option Addr} {n c : Nat} {bs : List Nat} {row : Option Nat} (h : Row8 w R A n c bs) (hg : w.grownBy w' row) (hR : some R ≠ row) : Row8 w' R A n c bs :=
  ⟨h.len, h.cap, h.top, h.byte, fun hn => by
    obtain ⟨o, cur, e, hw, hc⟩ := h.rest hn
    exact ⟨o, cur, e, hw.kept hg hR, hc⟩⟩
theorem Bytes.below {w w' : World} {A : Option Addr} {n c : Nat} {bs : List Nat} (h : Bytes w A n c bs) (hg : Below w.heap.size w w') : Bytes w' A n c bs :=
  ⟨h.len, h.cap, h.top, h.byte, fun hn => by
    obtain ⟨R, o, e, hR, hc⟩ := h.at_ hn
    exact ⟨R, o, e, Nat.lt_of_lt_of_le hR hg.size, fun i b hb => (hg.cell (p := ⟨R, o + i, none⟩) hR).trans (hc i b hb)⟩⟩
theorem Row8.of_own {w : World} {base : Nat} {v : Value} {n : Nat} {bs : List Nat} (h : w.ownsRow base 5 1 v n (bvs bs)) (hb : ∀ b ∈ bs, b < 256) :
    ∃ A c R, v = .slice A n c ∧ R < w.heap.size + 1 ∧ (0 < n → base ≤ R ∧ R < w.heap.size) ∧ Row8 w R A n c bs := by
  obtain ⟨hl, h⟩ := h
  rw [bvs_length] at hl
  rcases h with ⟨rfl, rfl⟩ | ⟨g, cap, cur, rfl, hg, hw, hnc, hc, hs, ht⟩
  · exact ⟨none, 0, 0, rfl, by omega, fun h => absurd h (by omega), by omega, Nat.le_refl _, by omega, hb, fun h => absurd h (by omega)⟩
  · have hlt : g < w.heap.size := Whole.lt (T := 5) hw
    refine ⟨_, cap, g, rfl, by omega, fun _ => ⟨hg, hlt⟩, by omega, hnc, by unfold maxLen at hc; omega, hb, fun hn => ⟨0, cur, rfl, hw, fun i b hi => ?_⟩⟩
    have hil : i < n := by
      have := (List.getElem?_eq_some_iff.1 hi).1
      omega
    have e1 : (bvs bs)[i]? = some (.int .u8 (b : Int)) := by simp [bvs, hi]
    rw [← ht, List.getElem?_take, if_pos (by omega)] at e1
    rw [Nat.zero_add, ← e1, Array.getElem?_toList]

end Go.Proofs.YtdlmhienolmncaaGreat
