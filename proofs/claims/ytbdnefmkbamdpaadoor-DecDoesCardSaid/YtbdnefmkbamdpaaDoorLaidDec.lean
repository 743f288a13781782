/- A decimal among the arguments: opened, and shut again. -/
import Derived.Test.YtbdnefmkbamdpaaDoorLaid
import Derived.Lib.SmallJoins
namespace Go.Proofs.YtbdnefmkbamdpaaDoor
open Go.ChangeShapes Go.WideShapes Go.ChangeAt Go.RowKit Go.Joins

theorem cDec : Tryd.prog.cellsOf 23 = 2 := by kernel_rfl
theorem cInt : Tryd.prog.cellsOf 3 = 1 := by kernel_rfl

set_option maxRecDepth 100000 in
theorem open_dec {H : Type} {enc : TypeId × Value → H} {W : World} {b0 base : Nat} {spare : Nat → Bool} {held : Bool} {v : Value} {d : DataW H} {p : List MemPlace}
    (hv : Value.okWide Tryd.prog W .any b0 23 v) (h : DataW.Trod enc Tryd.prog W base spare held 23 v d p) :
    ∃ m s : Int, v = .agg #[.int .i64 m, .int .i64 s] ∧ d = .agg [.lit (.int .i64 m), .lit (.int .i64 s)] ∧ p = [] ∧ (Lit.int .i64 m).wf = true ∧ (Lit.int .i64 s).wf = true := by
  obtain ⟨c0, c1, y0, y1, n, rfl, rfl, rfl, hy0, hy1⟩ := open_agg2 Tryd.underlying23 (by kernel_rfl) cDec hv h
  obtain ⟨a, e0, rfl, wa⟩ := DataW.trod_int Tryd.underlying3 hy0
  obtain ⟨b, e1, rfl, wb⟩ := DataW.trod_int Tryd.underlying3 hy1
  simp at e0 e1
  subst e0 e1
  exact ⟨a, b, rfl, rfl, rfl, wa, wb⟩
set_option maxRecDepth 100000 in
theorem shut_dec {H : Type} {enc : TypeId × Value → H} {W : World} {base : Nat} {spare : Nat → Bool} {held : Bool} {m s : Int} (hm : (Lit.int .i64 m).wf = true) (hs : (Lit.int .i64 s).wf = true) :
    DataW.Trod enc Tryd.prog W base spare held 23 (.agg #[.int .i64 m, .int .i64 s]) (.agg [.lit (.int .i64 m), .lit (.int .i64 s)]) [] :=
  shut_agg2 (y0 := (.lit (.int .i64 m), [])) (y1 := (.lit (.int .i64 s), [])) Tryd.underlying23 (by kernel_rfl) cDec ⟨1, by simp [DataW.trod, Tryd.underlying3, hm]⟩ ⟨1, by simp [DataW.trod, Tryd.underlying3, hs]⟩
end Go.Proofs.YtbdnefmkbamdpaaDoor
