/- huff's Read: what is nil. -/
import Derived.Test.YtpcofdhhnfichaaHuffTab
namespace Go.Proofs.Ytpcofdhhnfichaa
open Go.RowKit

theorem tread_nil (p : Option Addr) (w : World) :
    Calls Try.prog 19 #[.pointer none, .pointer p] w fun e w' => e = .returned (.tuple #[.int .i64 0, .int .i64 3]) ∧ w' = w := by
  go_enter Try.func19, Try.ntmps19
  go_wp2
  go_ret2
  exact ⟨rfl, rfl⟩
theorem tread_nil2 (B : Nat) (w : World) :
    Calls Try.prog 19 #[.pointer (some ⟨B, 0, none⟩), .pointer none] w fun e w' => e = .returned (.tuple #[.int .i64 0, .int .i64 3]) ∧ w' = w := by
  go_enter Try.func19, Try.ntmps19
  go_wp2
  go_ret2
  exact ⟨rfl, rfl⟩
end Go.Proofs.Ytpcofdhhnfichaa
