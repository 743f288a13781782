/- font's reference: Codes, at every font and text. -/
import Derived.Test.YtldhkhaciflmoaaFontDe
import Derived.Test.YtldhkhaciflmoaaFontH
namespace Go.Proofs.Ytldhkhaciflmoaa
open Go.RowKit

theorem rcodes_any (wd : Bool) (A : Option Addr) (n c : Nat) (ot : Int) (gs : List Gl) (s : ByteArray) (w : World) (h : Glyphs w A n c gs) (hn : n ≤ 1000000) (hs : s.size ≤ 1000000000) :
    Calls Try.prog 8 #[.agg #[.bool wd, .slice A n c, .int .i64 ot], .string s] w fun e w' =>
      ∃ A2 n2 c2, e = .returned (.tuple #[.slice A2 n2 c2, .int .i64 (codesE wd ot gs s)]) ∧ IntsAt w' A2 n2 c2 (codesL wd ot gs s) ∧ Below w.heap.size w w' := by
  cases hk : chkB wd ot gs
  · have e : codesE wd ot gs s = 1 := by unfold codesE; rw [hk]; rfl
    refine (rcodes_bad wd A n c ot gs s w h hn hk).mono fun e' w' ⟨he, hb⟩ => ⟨none, 0, 0, by rw [he, e], ?_, hb⟩
    unfold codesL
    rw [if_neg (by rw [e]; decide)]
    exact ints_nil _
  · cases wd
    · have e : codesE false ot gs s = 0 := codesE_zero.2 ⟨hk, by simp [sizeOfCodes, Nat.mod_one]⟩
      refine (rcodes_narrow A n c ot gs s w h hn hk hs).mono fun e' w' ⟨A2, n2, c2, he, hi, hb⟩ => ⟨A2, n2, c2, by rw [he, e], ?_, hb⟩
      unfold codesL
      rw [if_pos e, show sizeOfCodes false = 1 from rfl, Nat.div_one]
      exact hi
    · by_cases hm : s.size % 2 = 0
      · have e : codesE true ot gs s = 0 := codesE_zero.2 ⟨hk, hm⟩
        refine (rcodes_wide (s.size / 2) A n c ot gs s w h hn hk hs (by omega)).mono fun e' w' ⟨A2, n2, c2, he, hi, hb⟩ => ⟨A2, n2, c2, by rw [he, e], ?_, hb⟩
        unfold codesL
        rw [if_pos e, show sizeOfCodes true = 2 from rfl]
        exact hi
      · have e : codesE true ot gs s = 4 := by unfold codesE; rw [hk, if_pos rfl, show sizeOfCodes true = 2 from rfl, if_neg hm]
        refine (rcodes_odd A n c ot gs s w h hn hk (by omega) (by omega)).mono fun e' w' ⟨he, hb⟩ => ⟨none, 0, 0, by rw [he, e], ?_, hb⟩
        unfold codesL
        rw [if_neg (by rw [e]; decide)]
        exact ints_nil _
end Go.Proofs.Ytldhkhaciflmoaa
