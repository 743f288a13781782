/- A table's Read. -/
import Derived.Test.YtnjdnldoopgcpaaHuffFind
import Derived.Test.YtnjdnldoopgcpaaHuffInts
import Derived.Test.YtnjdnldoopgcpaaHuffPut
import Derived.Test.YtnjdnldoopgcpaaBitsAlign
import Derived.Test.YtnjdnldoopgcpaaBitsWords
namespace Go.Proofs.Ytnjdnldoopgcpaa
open Go.RowKit

theorem or_bit (c b : Nat) (hc : c < 1099511627776) (hb : b < 2) : bits .or .i64 ((c : Int) * 2) (b : Int) = ((2 * c + b : Nat) : Int) := by
  have e2 : (c : Int) * 2 = ((c * 2 : Nat) : Int) := by push_cast; rfl
  rw [e2, i64_or _ _ (by omega) (by omega)]
  have e3 := or_above b c 1 (by omega)
  rw [Nat.or_comm, show c * 2 = c * 2 ^ 1 from rfl, e3, Nat.pow_one]
  rw [Nat.mul_comm, Nat.add_comm]
theorem Fr.cell' {w w' : World} {X : Nat} (h : Fr (fun k => k = X) w w') {p : Addr} (hp : p.block ≠ X) (hl : p.block < w.heap.size) : w'.cell? p = w.cell? p := by
  have := h.block p.block hl hp
  unfold World.cell?
  rw [this]
theorem ivs_iiv (l : List Nat) : ivs l = iiv (l.map Int.ofNat) := by simp [ivs, iiv]
end Go.Proofs.Ytnjdnldoopgcpaa

