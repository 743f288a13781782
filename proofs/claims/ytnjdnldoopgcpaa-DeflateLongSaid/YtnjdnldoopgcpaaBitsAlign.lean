/- The walks of a reader's take and Bits. (The fuel of 'method' is as the walk shows it at this translation.) -/
import Derived.Test.YtnjdnldoopgcpaaBitsPull
import Derived.Deep.RegionWith
namespace Go.Proofs.Ytnjdnldoopgcpaa
open Go.RowKit

theorem from_drewN {w w1 : World} {j : Nat} {row : Option Nat} (h : (w.drewN j).grownBy w1 row) : w.grownBy w1 row := ⟨h.os, h.tape, h.output, h.size, h.block⟩
end Go.Proofs.Ytnjdnldoopgcpaa
/- The walks of a reader's align and Align. -/
namespace Go.Proofs.Ytnjdnldoopgcpaa
open Go.RowKit

end Go.Proofs.Ytnjdnldoopgcpaa

