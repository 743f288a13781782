/- Rows of bytes in memory; slices.Clone at []byte. -/
import Derived.Test.YtnjdnldoopgcpaaMem
import Derived.Test.YtnjdnldoopgcpaaRows
import Derived.WalkKit
import Derived.WalkSpells
import Derived.Outline
import Derived.Lib.Hide
import Derived.Lib.SliceRun
namespace Go.Proofs.Ytnjdnldoopgcpaa
open Go.RowKit

theorem info8 : (Try.prog.info? 5).map (fun i => (i.zero, i.size, i.bytes)) = some (some (.int .u8 0), 1, 1) := by kernel_rfl
/-- The values of bytes. -/
def bvs (bs : List Nat) : List Value := bs.map fun b : Nat => Value.int .u8 (b : Int)
theorem bvs_length (bs : List Nat) : (bvs bs).length = bs.length := by simp [bvs]
theorem bvs_at {bs : List Nat} {i : Nat} {u : Value} (h : (bvs bs)[i]? = some u) : ∃ b, bs[i]? = some b ∧ u = .int .u8 (b : Int) := by
  simp only [bvs, List.getElem?_map, Option.map_eq_some_iff] at h
  obtain ⟨b, hb, rfl⟩ := h
  exact ⟨b, hb, rfl⟩
theorem bvs_one (bs : List Nat) : ∀ u ∈ bvs bs, u.oneCell' = true := by
  intro u hu
  obtain ⟨b, _, rfl⟩ := List.mem_map.1 hu
  rfl
theorem bvs_append (a b : List Nat) : bvs (a ++ b) = bvs a ++ bvs b := by simp [bvs]
/-- A slice that reads as bytes, nil let in; its cells lie anywhere. -/
structure Bytes (w : World) (A : Option Addr) (n c : Nat) (bs : List Nat) : Prop where
  len : bs.length = n
  cap : n ≤ c
  top : c ≤ 9223372036854775807
  byte : ∀ b ∈ bs, b < 256
  at_ : 0 < n → ∃ R o, A = some ⟨R, o, none⟩ ∧ R < w.heap.size ∧ ∀ (i b : Nat), bs[i]? = some b → w.cell? ⟨R, o + i, none⟩ = some (.int .u8 b)
/-- A slice that reads as bytes, nil let in; its cells lie in block R, which is whole. -/
structure Row8 (w : World) (R : Nat) (A : Option Addr) (n c : Nat) (bs : List Nat) : Prop where
  len : bs.length = n
  cap : n ≤ c
  top : c ≤ 9223372036854775807
  byte : ∀ b ∈ bs, b < 256
  rest : 0 < n → ∃ o cur, A = some ⟨R, o, none⟩ ∧ Whole w R 5 cur ∧ ∀ (i b : Nat), bs[i]? = some b → cur[o + i]? = some (.int .u8 b)
theorem Row8.bytes {w : World} {R : Nat} {A : Option Addr} {n c : Nat} {bs : List Nat} (h : Row8 w R A n c bs) : Bytes w A n c bs :=
  ⟨h.len, h.cap, h.top, h.byte, fun hn => by
    obtain ⟨o, cur, e, hw, hc⟩ := h.rest hn
    exact ⟨R, o, e, hw.lt, fun i b hb => (hw.reads _).trans (hc i b hb)⟩⟩
theorem Row8.kept {w w' : World} {R : Nat} {A : Option Addr} {n c : Nat} {bs : List Nat} {row : Option Nat} (h : Row8 w R A n c bs) (hg : w.grownBy w' row) (hR : some R ≠ row) : Row8 w' R A n c bs :=
  ⟨h.len, h.cap, h.top, h.byte, fun hn => by
    obtain ⟨o, cur, e, hw, hc⟩ := h.rest hn
    exact ⟨o, cur, e, hw.kept hg hR, hc⟩⟩
theorem Bytes.below {w w' : World} {A : Option Addr} {n c : Nat} {bs : List Nat} (h : Bytes w A n c bs) (hg : Below w.heap.size w w') : Bytes w' A n c bs :=
  ⟨h.len, h.cap, h.top, h.byte, fun hn => by
    obtain ⟨R, o, e, hR, hc⟩ := h.at_ hn
    exact ⟨R, o, e, Nat.lt_of_lt_of_le hR hg.size, fun i b hb => (hg.cell (p := ⟨R, o + i, none⟩) hR).trans (hc i b hb)⟩⟩
theorem Row8.of_own {w : World} {base : Nat} {v : Value} {n : Nat} {bs : List Nat} (h : w.ownsRow base 5 1 v n (bvs bs)) (hb : ∀ b ∈ bs, b < 256) :
    ∃ A c R, v = .slice A n c ∧ R < w.heap.size + 1 ∧ (0 < n → base ≤ R ∧ R < w.heap.size) ∧ Row8 w R A n c bs := by
  obtain ⟨hl, h⟩ := h
  rw [bvs_length] at hl
  rcases h with ⟨rfl, rfl⟩ | ⟨g, cap, cur, rfl, hg, hw, hnc, hc, hs, ht⟩
  · exact ⟨none, 0, 0, rfl, by omega, fun h => absurd h (by omega), by omega, Nat.le_refl _, by omega, hb, fun h => absurd h (by omega)⟩
  · have hlt : g < w.heap.size := Whole.lt (T := 5) hw
    refine ⟨_, cap, g, rfl, by omega, fun _ => ⟨hg, hlt⟩, by omega, hnc, by unfold maxLen at hc; omega, hb, fun hn => ⟨0, cur, rfl, hw, fun i b hi => ?_⟩⟩
    have hil : i < n := by
      have := (List.getElem?_eq_some_iff.1 hi).1
      omega
    have e1 : (bvs bs)[i]? = some (.int .u8 (b : Int)) := by simp [bvs, hi]
    rw [← ht, List.getElem?_take, if_pos (by omega)] at e1
    rw [Nat.zero_add, ← e1, Array.getElem?_toList]

/-- What slices.Clone answers. -/
def Cloned (n : Nat) (bs : List Nat) (w : World) (e : Ending) (w' : World) : Prop :=
  ∃ A c R, e = .returned (.slice A n c) ∧ R < w'.heap.size + 1 ∧ (0 < n → w.heap.size ≤ R ∧ R < w'.heap.size) ∧ Row8 w' R A n c bs ∧ Below w.heap.size w w'
set_option maxRecDepth 100000 in
theorem clone_nil (bs : List Nat) (n c : Nat) (w : World) (h : Bytes w none n c bs) :
    Calls Try.prog 65 #[.slice none n c] w (Cloned n bs w) := by
  have qT : ∀ (w : World) (a : Option Addr) (n c n' c' : Nat), (binOp .eql 22 (.slice a n c) (.slice none n' c')).run Try.prog w = .ok (.bool a.isNone) w := fun w a n c n' c' => Lib.run_eql_slice_nil w _ _ a n c n' c' Try.underlying22
  obtain rfl : n = 0 := by
    rcases Nat.eq_zero_or_pos n with h0 | h0
    · exact h0
    · obtain ⟨R, o, e, _⟩ := h.at_ h0
      cases e
  have hl := h.len
  obtain rfl : bs = [] := List.eq_nil_of_length_eq_zero hl
  clear h hl
  go_enter Try.func65, Try.ntmps65
  go_wp2
  go_ret
  exact ⟨none, 0, 0, rfl, by omega, fun h => absurd h (by omega), ⟨rfl, by omega, by omega, fun b hb => by simp at hb, fun h => absurd h (by omega)⟩, Below.refl _ _⟩
set_option maxHeartbeats 1000000 in
set_option maxRecDepth 100000 in
theorem clone_some (bs : List Nat) (n c : Nat) (a : Addr) (w : World) (h : Bytes w (some a) n c bs) (hn : n ≤ 140737488355327) :
    Calls Try.prog 65 #[.slice (some a) n c] w (Cloned n bs w) := by
  have qT : ∀ (w : World) (a : Option Addr) (n c n' c' : Nat), (binOp .eql 22 (.slice a n c) (.slice none n' c')).run Try.prog w = .ok (.bool a.isNone) w := fun w a n c n' c' => Lib.run_eql_slice_nil w _ _ a n c n' c' Try.underlying22
  obtain ⟨i0, hi, hz0, hz1, hz2⟩ := info_parts info8
  have H := Lib.hid h
  have hcells : ∀ j u, (bvs bs)[j]? = some u → (w.alloc (.cells #[] 5)).cell? (a.add j) = some u := by
    intro j u hu
    obtain ⟨b, hb, rfl⟩ := bvs_at hu
    have hj := (List.getElem?_eq_some_iff.1 hb).1
    have hl := h.len
    obtain ⟨R, o, e, hR, hc⟩ := h.at_ (by omega)
    injection e with e
    subst e
    have e2 : (⟨R, o, none⟩ : Addr).add j = ⟨R, o + j, none⟩ := by
      unfold Addr.add; by_cases h0 : j = 0 <;> simp [h0]
    rw [e2, World.cell?_alloc_lt _ _ _ (by simpa using hR)]
    exact hc j b hb
  have hown : (w.alloc (.cells #[] 5)).ownsRow w.heap.size 5 1 (.slice (some ⟨w.heap.size, 0, none⟩) 0 0) 0 [] :=
    ⟨rfl, .inr ⟨_, 0, #[], rfl, Nat.le_refl _, heap_alloc_new w _, Nat.le_refl _, Nat.zero_le _, rfl, rfl⟩⟩
  have hl := (bvs_length bs).trans h.len
  have HC := Lib.hid hcells
  have HO := Lib.hid hown
  have HL := Lib.hid hl
  clear h hcells hown hl
  go_enter Try.func65, Try.ntmps65
  go_wp2_with (at_builtin; refine wpList_append_own _ rfl _ _ 22 rfl w.heap.size 5 i0 (.int .u8 0) 1 1 Try.underlying22 hi hz0 hz1 hz2 rfl (by decide) _ _ _ rfl HO.out a n c (bvs bs) rfl (by rw [HL.out, Nat.mul_one]) HC.out (bvs_one bs) ?c3 ?c4 ?c5 ?_)
  case c3 => unfold maxLen; omega
  case c4 => omega
  case c5 => simp
  intro v' w1 hown' hgrow _
  obtain ⟨A, c', R, rfl, h1, h2, hrow⟩ := Row8.of_own hown' H.out.byte
  have HR := Lib.hid (And.intro h1 (And.intro h2 hrow))
  have hb : Below w.heap.size w w1 := ((Below.refl _ _).alloc (Nat.le_refl _) _).grown hgrow (by simp) (fun k e => by have e : some w.heap.size = some k := e; injection e; omega)
  have HB := Lib.hid hb
  clear hown' h1 h2 hrow hgrow hb
  go_wp2
  go_ret
  exact ⟨A, c', R, rfl, HR.out.1, HR.out.2.1, HR.out.2.2, HB.out⟩
theorem clone_any (bs : List Nat) (n c : Nat) (A : Option Addr) (w : World) (h : Bytes w A n c bs) (hn : n ≤ 140737488355327) :
    Calls Try.prog 65 #[.slice A n c] w (Cloned n bs w) := by
  cases A with
  | none => exact clone_nil bs n c w h
  | some a => exact clone_some bs n c a w h hn
end Go.Proofs.Ytnjdnldoopgcpaa
