/- predict's undoRows: the start. -/
import Derived.Test.YtjligbfijjejmaaPredH
import Derived.Test.YtjligbfijjejmaaRoundIn
namespace Go.Proofs.Ytjligbfijjejmaa
open Go.RowKit
attribute [local go_sem] Oper.semAt_some

theorem chunk_call (F : Fence) (hF : Open_ F) (n : Nat) (A : Option Addr) (m c K : Nat) (w : World) (hK : 1 ≤ K) :
    CallsIn F n Try.prog 27 #[.slice A m c, .int .i64 (K : Int)] w fun e w' => e = .returned (.func (.func 33) #[] #[.pointer (some ⟨w.heap.size, 0, none⟩), .pointer (some ⟨w.heap.size + 1, 0, none⟩)]) ∧ w' = (w.alloc (.cells #[.slice A m c] 24)).alloc (.cells #[.int .i64 (K : Int)] 3) := by
  refine hF.calls ?_
  have hk : decide (K < 1) = false := by simp; omega
  go_enter Try.func27, Try.ntmps27
  go_wp2
  go_ret
  exact ⟨rfl, rfl⟩
theorem lay_one (p : PaV) (png : Bool) : (layV p png).all (·.oneCell') = true := by cases png <;> kernel_rfl
theorem layout_all (p : PaV) (png : Bool) (w : World) (h : p.Ok) (hp : (png = true ∧ decide (10 ≤ p.pr) = true) ∨ (png = false ∧ p.pr = 2)) :
    Calls Try.prog 26 #[p.val] w fun e w' => e = .returned (.agg (layV p png)) ∧ Below w.heap.size w w' := by
  rcases hp with ⟨rfl, hp⟩ | ⟨rfl, hp⟩
  · exact layout_png p w h hp
  · exact layout_tiff p w h hp
theorem fore_any (p : PaV) (png : Bool) (tag : Nat) (rb ub : List Nat) (A1 A2 : Option Addr) (n1 c1 n2 c2 i : Nat) (w : World) (ht : (png = true ∧ tag ≤ 4) ∨ (png = false ∧ tag = 1)) (H1 : Bytes w A1 n1 c1 rb) (H2 : Bytes w A2 n2 c2 ub) (h1 : i < n1) (h2 : i < n2) (hs : 1 ≤ p.s ∧ p.s ≤ 64) (hi9 : i ≤ 100000000) :
    Calls Try.prog 28 #[.agg (layV p png), .int .i64 tag, .slice A1 n1 c1, .slice A2 n2 c2, .int .i64 i] w (ForeIs p tag rb ub i w) := by
  rcases ht with ⟨rfl, ht⟩ | ⟨rfl, rfl⟩
  · rcases (by omega : tag = 0 ∨ tag = 1 ∨ tag = 2 ∨ tag = 3 ∨ tag = 4) with rfl | rfl | rfl | rfl | rfl
    · exact fore_p0 p rb ub A1 A2 n1 c1 n2 c2 i w H1 H2 h1 h2 hs hi9
    · exact fore_p1 p rb ub A1 A2 n1 c1 n2 c2 i w H1 H2 h1 h2 hs hi9
    · exact fore_p2 p rb ub A1 A2 n1 c1 n2 c2 i w H1 H2 h1 h2 hs hi9
    · exact fore_p3 p rb ub A1 A2 n1 c1 n2 c2 i w H1 H2 h1 h2 hs hi9
    · exact fore_p4 p rb ub A1 A2 n1 c1 n2 c2 i w H1 H2 h1 h2 hs hi9
  · exact fore_t1 p rb ub A1 A2 n1 c1 n2 c2 i w H1 H2 h1 h2 hs hi9
theorem make_bytes (k n : Nat) (hk : k ≤ n) (hn : n ≤ 100000000) (w : World) :
    (Instr.makeSlice 24 (.int .i64 (k : Int)) (.int .i64 (n : Int))).run Try.prog w = .ok (.slice (some ⟨w.heap.size, 0, none⟩) k n) (w.alloc (.cells (bvs (List.replicate n 0)).toArray 5)) := by
  obtain ⟨i, hi, hz, hs, hy⟩ := info_parts info8
  have := run_make (P := Try.prog) w 24 5 i _ Try.underlying24 hi hz .i64 .i64 k n (by omega) (by omega) (by rw [hy]; omega) (by omega)
  simp only [Int.toNat_natCast, hs] at this
  rw [show (Value.int .u8 0).cells = #[.int .u8 0] from by rfl] at this
  rw [this]
  congr 3
  apply Array.ext_getElem?
  intro j
  by_cases hj : j < n
  · simp [madeCells, bvs, hj, Nat.mod_one]
  · rw [Array.getElem?_eq_none (by simp [madeCells]; omega), Array.getElem?_eq_none (by simp [bvs]; omega)]
theorem tab_store (png : Bool) (k : Nat) (W : World) (a : Addr) (m : Mode) : (store a (tabAt png k) m).run Try.prog W = stored Try.prog W a (tabAt png k) m := by
  unfold tabAt
  repeat' split
  all_goals exact run_store _ _ _ _ _ rfl
end Go.Proofs.Ytjligbfijjejmaa
