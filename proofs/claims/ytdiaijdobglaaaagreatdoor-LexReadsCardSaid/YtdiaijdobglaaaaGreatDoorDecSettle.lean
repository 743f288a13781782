/- The walk of dec's settle: the noughts behind are struck (a loop over math/bits.Div64); the answer is the decimal of v / 10^s, or ErrOver. -/
import Derived.Test.YtdiaijdobglaaaaGreatDoorDecDiv
import Derived.Test.YtdiaijdobglaaaaGreatDoorShelf
namespace Go.Proofs.YtdiaijdobglaaaaGreatDoor
open Go.RowKit Dec

/-- What settle leaves: the decimal of v / 10^t as a value, or ErrOver. -/
def IsTold (v : Int) (t : Nat) (w : World) (e : Ending) (w' : World) : Prop :=
  ∃ M S E : Int, e = .returned (.tuple #[.agg #[.int .i64 M, .int .i64 S], .int .i64 E]) ∧ Denotes v t M S E ∧ Below w.heap.size w w'

theorem st_mod (H L : Nat) : (H * 18446744073709551616 + L) % 10 = (H % 10 * 18446744073709551616 + L) % 10 := by omega
theorem st_quo (H L : Nat) : (H * 18446744073709551616 + L) / 10 = H / 10 * 18446744073709551616 + (H % 10 * 18446744073709551616 + L) / 10 := by omega
theorem vint {k : IntKind} {a b : Int} (h : a = b) : Value.int k a = Value.int k b := by rw [h]
theorem leaf_ok {v m : Int} {s k H L hi lo : Nat} (hv : v.natAbs = hi * 18446744073709551616 + lo) (hst : strip s (hi * 18446744073709551616 + lo) = (H * 18446744073709551616 + L, k)) (hm : m.natAbs = L)
    (hsg : (v ≤ 0 ∧ m ≤ 0) ∨ (0 ≤ v ∧ 0 ≤ m)) (hH : H = 0) (hL : L ≤ 999999999999999999) (hk : k ≤ 9) : Denotes v s m k 0 := by
  refine den_strip hv ?_ hsg (by rw [hst]) (by omega) hk
  rw [hst, hH]; omega
theorem leaf_over {v : Int} {s k H L hi lo : Nat} (hv : v.natAbs = hi * 18446744073709551616 + lo) (hst : strip s (hi * 18446744073709551616 + lo) = (H * 18446744073709551616 + L, k)) (h : 0 < H ∨ 999999999999999999 < L ∨ 9 < k) : Denotes v s 0 0 5 := by
  refine den_over hv ?_
  rw [hst]
  show 999999999999999999 < H * 18446744073709551616 + L ∨ 9 < k
  omega
theorem below_cell {w : World} (T : Nat) (n : Nat) (x y : Value) : Below w.heap.size w ((((w.alloc (.cells #[.int .i64 0, .int .i64 0] T)).drewN n).setCell ⟨w.heap.size, 0, none⟩ x).setCell ⟨w.heap.size, 1, none⟩ y) :=
  ((bdrewNd ((Below.refl _ _).alloc (Nat.le_refl _) _) n).setCell (Nat.le_refl _) _).setCell (Nat.le_refl _) _

end Go.Proofs.YtdiaijdobglaaaaGreatDoor

