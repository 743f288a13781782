/- zlib: the bytes of a number; two rows compared; the head. -/
import Derived.Test.YtnjdnldoopgcpaaZlB
namespace Go.Proofs.Ytnjdnldoopgcpaa
open Go.RowKit

def bigE (n : Nat) : List Nat := [n / 16777216 % 256, n / 65536 % 256, n / 256 % 256, n % 256]
theorem bigE_byte (n : Nat) : ∀ x ∈ bigE n, x < 256 := by
  intro x hx
  simp [bigE] at hx
  omega
set_option maxRecDepth 100000 in
set_option maxHeartbeats 2000000 in
theorem big_any (n : Nat) (w : World) (hn : n < 4294967296) :
    Calls Try.prog 55 #[.int .i64 (n : Int)] w fun e w' => e = .returned (.slice (some ⟨w.heap.size, 0, none⟩) 4 4) ∧ Whole w' w.heap.size 5 (bvs (bigE n)).toArray ∧ Below w.heap.size w w' := by
  go_enter Try.func55, Try.ntmps55
  go_wp2_with fail
  go_ret
  have e : (#[.int .u8 ((n : Int) / 16777216), .int .u8 ((n : Int) / 65536 % 256), .int .u8 ((n : Int) / 256 % 256), .int .u8 ((n : Int) % 256)] : Array Value) = (bvs (bigE n)).toArray := by
    simp [bvs, bigE]
    omega
  refine ⟨rfl, ?_, (Below.refl _ _).alloc (Nat.le_refl _) _⟩
  rw [e]
  exact Whole.made _ _ _
theorem take_eq {x y : List Nat} {i a b : Nat} (h : x.take i = y.take i) (hx : x[i]? = some a) (hy : y[i]? = some b) (e : a = b) : x.take (i + 1) = y.take (i + 1) := by
  rw [List.take_add_one, List.take_add_one, h, hx, hy, e]
end Go.Proofs.Ytnjdnldoopgcpaa

