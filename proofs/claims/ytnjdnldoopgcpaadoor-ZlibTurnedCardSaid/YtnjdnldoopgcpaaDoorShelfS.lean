/- A contract of the library at this translation: one application of the shelf's own theorem. -/
import Derived.Shelf.SlSorted.Search
import Derived.Test.YtnjdnldoopgcpaaDoorProg
namespace Go.Proofs
open Go.Shelf
def Tryd.lays_search_ren : Go.Shelf.Ren := ⟨fun | 16 => 59 | n => n, fun | 3 => 3 | 35 => 49 | 4 => 4 | 38 => 107 | n => n, fun | n => n⟩
theorem Tryd.lays_search : Go.Proofs.SlLaysO.n16 Tryd.prog Tryd.lays_search_ren := {
  mixed := by kernel_rfl
  f16 := Tryd.func59.trans (congrArg some (by kernel_rfl))
  t3 := Tryd.underlying3
  a3 := Tryd.isAgg3
  z3 := Tryd.sizeOf3
  v3 := Tryd.zeroValue3
  t4 := Tryd.underlying4
  a4 := Tryd.isAgg4
  z4 := Tryd.sizeOf4
  v4 := Tryd.zeroValue4
  t35 := Tryd.underlying49
  a35 := Tryd.isAgg49
  z35 := Tryd.sizeOf49
  v35 := Tryd.zeroValue49
  t38 := Tryd.underlying107
  a38 := Tryd.isAgg107
  z38 := Tryd.sizeOf107
  v38 := Tryd.zeroValue107 }
end Go.Proofs
