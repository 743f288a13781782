/- The walk of a reader's Left. -/
import Derived.Test.YtdoliloiagfagaaDoorRows
import Derived.WalkKit
import Derived.WalkSpells
import Derived.Outline
import Derived.Lib.Hide
import Derived.Below
import Derived.Deep.QuietTactic
import Derived.BigQuiet
import Derived.StillTailTactics
namespace Go.Proofs.YtdoliloiagfagaaDoor
open Go.RowKit

/-- A reader's three cells: the bytes that are not in the word yet, the word, how many bits it holds. -/
def RIn (w : World) (B : Nat) (a : Option Addr) (n c : Nat) (word held : Int) : Prop :=
  w.cell? ⟨B, 0, none⟩ = some (.slice a n c) ∧ w.cell? ⟨B, 1, none⟩ = some (.int .u32 word) ∧ w.cell? ⟨B, 2, none⟩ = some (.int .i64 held)
theorem rleft_any (B : Nat) (a : Option Addr) (n c : Nat) (word held : Int) (w : World) (h : RIn w B a n c word held) (hn : n ≤ 1000000000000000000) (h0 : 0 ≤ held) (h1 : held ≤ 32) :
    Calls Tryd.prog 27 #[.pointer (some ⟨B, 0, none⟩)] w fun e w' => e = .returned (.int .i64 (n * 8 + held)) ∧ ∃ k, w' = w.drewN k := by
  obtain ⟨c0, c1, c2⟩ := h
  go_enter Tryd.func27, Tryd.ntmps27
  go_wp2_with fail
  go_quiet (fail)
  go_wp2
  go_ret
  exact ⟨rfl, _, rfl⟩
end Go.Proofs.YtdoliloiagfagaaDoor
