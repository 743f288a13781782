/- A contract of the library at this translation: one application of the shelf's own theorem. -/
import Derived.Shelf.SlSorted.Search
import Derived.Test.YtnjdnldoopgcpaaProg
namespace Go.Proofs
open Go.Shelf
def Try.lays_search_ren : Go.Shelf.Ren := ⟨fun | 16 => 57 | n => n, fun | 3 => 3 | 35 => 94 | 4 => 4 | 38 => 87 | n => n, fun | n => n⟩
theorem Try.lays_search : Go.Proofs.SlLaysO.n16 Try.prog Try.lays_search_ren := {
  mixed := by kernel_rfl
  f16 := Try.func57.trans (congrArg some (by kernel_rfl))
  t3 := Try.underlying3
  a3 := Try.isAgg3
  z3 := Try.sizeOf3
  v3 := Try.zeroValue3
  t4 := Try.underlying4
  a4 := Try.isAgg4
  z4 := Try.sizeOf4
  v4 := Try.zeroValue4
  t35 := Try.underlying94
  a35 := Try.isAgg94
  z35 := Try.sizeOf94
  v35 := Try.zeroValue94
  t38 := Try.underlying87
  a38 := Try.isAgg87
  z38 := Try.sizeOf87
  v38 := Try.zeroValue87 }
end Go.Proofs
