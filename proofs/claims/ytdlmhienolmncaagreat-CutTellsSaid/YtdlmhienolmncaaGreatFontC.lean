/- font: rows of ints; checkCodes, Ints. -/
import Derived.Test.YtdlmhienolmncaaGreatFontB
import Derived.Test.YtdlmhienolmncaaGreatByteRow0
import Derived.Laws.BytesString
import Derived.Laws.IdiomStrings
import Derived.Laws.BytesArg
namespace Go.Proofs.YtdlmhienolmncaaGreat
open Go.RowKit

/-- A slice that reads as ints, nil let in. -/
structure IntsAt (w : World) (A : Option Addr) (n c : Nat) (l : List Int) : Prop where
  len : l.length = n
  cap : n ≤ c
  top : c ≤ 9223372036854775807
  at_ : 0 < n → ∃ R o, A = some ⟨R, o, none⟩ ∧ R < w.heap.size ∧ ∀ (i : Nat) (x : Int), l[i]? = some x → w.cell? ⟨R, o + i, none⟩ = some (.int .i64 x)
theorem IntsAt.below {w w' : World} {A : Option Addr} {n c : Nat} {l : List Int} (h : IntsAt w A n c l) (hg : Below w.heap.size w w') : IntsAt w' A n c l :=
  ⟨h.len, h.cap, h.top, fun hn => by
    obtain ⟨R, o, e, hR, hc⟩ := h.at_ hn
    exact ⟨R, o, e, Nat.lt_of_lt_of_le hR hg.size, fun i x hx => (hg.cell (p := ⟨R, o + i, none⟩) hR).trans (hc i x hx)⟩⟩
theorem infoInt : (Tryz.prog.info? 3).map (fun i => (i.zero, i.size, i.bytes)) = some (some (.int .i64 0), 1, 8) := by kernel_rfl
def ivs (l : List Int) : List Value := l.map fun b : Int => Value.int .i64 b
theorem ivs_append (l l' : List Int) : ivs (l ++ l') = ivs l ++ ivs l' := by simp [ivs]
theorem IntsAt.of_own {w : World} {base : Nat} {v : Value} {n : Nat} {l : List Int} (h : w.ownsRow base 3 1 v n (ivs l)) : ∃ A c, v = .slice A n c ∧ IntsAt w A n c l := by
  obtain ⟨hl, h⟩ := h
  have hl : l.length = n := by simpa [ivs] using hl
  rcases h with ⟨rfl, rfl⟩ | ⟨g, cap, cur, rfl, hg, hw, hnc, hc, hs, ht⟩
  · exact ⟨none, 0, rfl, hl, by omega, by omega, fun h => absurd h (by omega)⟩
  · have hlt : g < w.heap.size := Whole.lt (T := 3) hw
    refine ⟨_, cap, rfl, hl, hnc, by unfold maxLen at hc; omega, fun hn => ⟨g, 0, rfl, hlt, fun i b hi => ?_⟩⟩
    have hil : i < n := by
      have := (List.getElem?_eq_some_iff.1 hi).1
      omega
    have e1 : (ivs l)[i]? = some (.int .i64 b) := by simp [ivs, hi]
    rw [← ht, List.getElem?_take, if_pos (by omega)] at e1
    have hw' : Whole w g 3 cur := hw
    rw [hw'.reads, Nat.zero_add, ← e1, Array.getElem?_toList]
/-- What checkCodes answers. -/
def chkC (wd : Bool) (ot : Int) (gs : List Gl) (l : List Int) : Int := if chkB wd ot gs && l.all (codeB wd) then 0 else 1
theorem chk_t {wd : Bool} {ot : Int} {gs : List Gl} (h : chkB wd ot gs = true) : chk wd ot gs = 0 := by unfold chk; rw [if_pos h]
theorem chk_f {wd : Bool} {ot : Int} {gs : List Gl} (h : chkB wd ot gs = false) : chk wd ot gs = 1 := by unfold chk; rw [if_neg (by rw [h]; simp)]
set_option maxRecDepth 100000 in
set_option maxHeartbeats 4000000 in
theorem ints_same (A : Option Addr) (n c : Nat) (A2 : Option Addr) (n2 c2 : Nat) (l : List Int) (w : World) (h : IntsAt w A n c l) (h2 : IntsAt w A2 n2 c2 l) :
    Calls Tryz.prog 12 #[.slice A n c, .slice A2 n2 c2] w fun e w' => e = .returned (.bool true) ∧ ∃ j, w' = w.drewN j := by
  have hl := h.len
  have hl2 := h2.len
  subst hl
  subst hl2
  have hcap := h.cap
  have htop := h.top
  have hcap2 := h2.cap
  have htop2 := h2.top
  have H := Lib.hid h
  have H2 := Lib.hid h2
  clear h h2
  go_enter Tryz.func12, Tryz.ntmps12
  go_wp2_with fail
  go_loopw [5] (fun i wr => ∃ k : Nat, k ≤ l.length ∧ i = .int .i64 k ∧ ∃ j, wr = w.drewN j) (fun i _ => l.length - (intOf i).toNat)
  case atStart => exact ⟨0, by omega, rfl, 0, rfl⟩
  case round =>
    obtain ⟨k, hk, rfl, q, rfl⟩ := hrel
    by_cases hlt : k < l.length
    · obtain ⟨x, hx⟩ : ∃ x, l[k]? = some x := ⟨_, List.getElem?_eq_getElem hlt⟩
      obtain ⟨R, o, rfl, hR, hc⟩ := H.out.at_ (by omega)
      obtain ⟨R2, o2, rfl, hR2, hc2⟩ := H2.out.at_ (by omega)
      have g0 : w.cell? ⟨R, o + k, none⟩ = some (.int .i64 x) := hc k x hx
      have g1 : w.cell? ⟨R2, o2 + k, none⟩ = some (.int .i64 x) := hc2 k x hx
      clear hx hc hc2
      have b0 : (0 : Int) ≤ (k : Int) := by omega
      have b1 : (k : Int) < (l.length : Int) := by omega
      go_wp2_with fail
      go_quiet (fail)
      go_wp2_with fail
      refine ⟨⟨k + 1, by omega, by go_num, q + nq, rfl⟩, by simp [intOf]; omega⟩
    · obtain rfl : k = l.length := by omega
      go_wp2
      go_ret
      exact ⟨rfl, _, rfl⟩
end Go.Proofs.YtdlmhienolmncaaGreat

