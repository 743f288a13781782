/- The program's own variable that a search looks at: every world that is shaped has it. -/
import Derived.Test.YtbbckpdpahkfkaaAscD
namespace Go.Proofs.Ytbbckpdpahkfkaa
open Go.RowKit

theorem mx_of {W : World} (h : W.ShapedOpen Try.prog) : MX W := by
  obtain ⟨m, hm⟩ := Try.laysM145.s1_3 W h
  exact ⟨World.block_lt_of_cell? _ _ hm, m, hm⟩
end Go.Proofs.Ytbbckpdpahkfkaa
