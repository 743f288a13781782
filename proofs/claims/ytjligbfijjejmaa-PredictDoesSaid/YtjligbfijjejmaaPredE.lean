/- predict's tables and layout: walked. -/
import Derived.Test.YtjligbfijjejmaaPredD
import Derived.Deep.RegionHeld3
import Derived.Laws.EntriesVeiled
namespace Go.Proofs.Ytjligbfijjejmaa
open Go.RowKit

abbrev fnV (f : FuncId) : Value := .func (.func f) #[] #[]
/-- The table of functions. -/
def tabAt (png : Bool) (k : Nat) : Value :=
  if png then (match k with | 0 => fnV 34 | 1 => fnV 38 | 2 => fnV 35 | 3 => fnV 36 | _ => fnV 37)
  else (match k with | 1 => fnV 38 | _ => .nilFunc)
theorem table_png (n : Int) (w : World) (h : decide (10 ≤ n) = true) :
    Calls Try.prog 32 #[.int .i64 n] w fun e w' => e = .returned (.agg #[fnV 34, fnV 38, fnV 35, fnV 36, fnV 37]) ∧ Below w.heap.size w w' := by
  go_enter Try.func32, Try.ntmps32
  go_wp2
  refine bodyPost_ret (v := .agg #[fnV 34, fnV 38, fnV 35, fnV 36, fnV 37]) (by simp [results, Try.results32, go_sem]) rfl ⟨rfl, ?_⟩
  (repeat (first | with_reducible exact Below.refl _ _ | with_reducible refine Below.drew ?_ | with_reducible refine bdrewN ?_ _ | (with_reducible refine Below.setCell ?_ ?_ _; rotate_left; focus (first | exact Nat.le_refl _ | omega | (simp; omega) | (simp; done))) | (with_reducible refine Below.alloc ?_ ?_ _; rotate_left; focus (first | exact Nat.le_refl _ | omega | (simp; omega) | (simp; done))) | (with_reducible refine Below.trans ?_ (Below.mono (by assumption) ?_); rotate_left; focus (first | exact Nat.le_refl _ | omega | (simp; omega) | (simp; done)))))
theorem table_tiff (w : World) :
    Calls Try.prog 32 #[.int .i64 2] w fun e w' => e = .returned (.agg #[.nilFunc, fnV 38, .nilFunc, .nilFunc, .nilFunc]) ∧ Below w.heap.size w w' := by
  go_enter Try.func32, Try.ntmps32
  go_wp2
  refine bodyPost_ret (v := .agg #[.nilFunc, fnV 38, .nilFunc, .nilFunc, .nilFunc]) (by simp [results, Try.results32, go_sem]) rfl ⟨rfl, ?_⟩
  (repeat (first | with_reducible exact Below.refl _ _ | with_reducible refine Below.drew ?_ | with_reducible refine bdrewN ?_ _ | (with_reducible refine Below.setCell ?_ ?_ _; rotate_left; focus (first | exact Nat.le_refl _ | omega | (simp; omega) | (simp; done))) | (with_reducible refine Below.alloc ?_ ?_ _; rotate_left; focus (first | exact Nat.le_refl _ | omega | (simp; omega) | (simp; done))) | (with_reducible refine Below.trans ?_ (Below.mono (by assumption) ?_); rotate_left; focus (first | exact Nat.le_refl _ | omega | (simp; omega) | (simp; done)))))
end Go.Proofs.Ytjligbfijjejmaa
