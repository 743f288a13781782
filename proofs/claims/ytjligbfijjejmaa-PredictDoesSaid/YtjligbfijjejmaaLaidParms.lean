/- Parms among the arguments: opened. -/
import Derived.Test.YtjligbfijjejmaaLaidBytes
import Derived.Test.YtjligbfijjejmaaPredA
import Derived.Lib.SmallJoins
namespace Go.Proofs.Ytjligbfijjejmaa
open Go.ChangeShapes Go.WideShapes Go.ChangeAt Go.RowKit Go.Joins

theorem cPa : Try.prog.cellsOf 23 = 4 := by kernel_rfl
theorem cInt1 : Try.prog.cellsOf 3 = 1 := by kernel_rfl
def PaV.dat {H : Type} (p : PaV) : DataW H := .agg [.lit (.int .i64 p.pr), .lit (.int .i64 p.co), .lit (.int .i64 p.bi), .lit (.int .i64 p.cl)]
def PaV.Wf (p : PaV) : Prop := (Lit.int .i64 p.pr).wf = true ∧ (Lit.int .i64 p.co).wf = true ∧ (Lit.int .i64 p.bi).wf = true ∧ (Lit.int .i64 p.cl).wf = true
section
variable {H : Type} {enc : TypeId × Value → H} {W : World} {base : Nat} {spare : Nat → Bool} {held : Bool}
set_option maxRecDepth 100000 in
theorem open_pav {b0 : Nat} {v : Value} {d : DataW H} {p : List MemPlace} (hv : Value.okWide Try.prog W .any b0 23 v) (h : DataW.Trod enc Try.prog W base spare held 23 v d p) :
    ∃ x : PaV, v = x.val ∧ d = x.dat ∧ p = [] ∧ x.Wf := by
  obtain ⟨cs, rfl, hsz⟩ := okWide_struct Try.underlying23 hv
  obtain ⟨l⟩ := cs
  match l, hsz.trans cPa with
  | [c0, c1, c2, c3], _ =>
    obtain ⟨fuel, hf⟩ := h
    obtain ⟨xs, k, -, hx, -, hlen, hg⟩ := DataW.trod_struct Try.underlying23 hf
    match xs, hlen with
    | [y0, y1, y2, y3], _ =>
      have g0 := hg 0 _ rfl
      have g1 := hg 1 _ rfl
      have g2 := hg 2 _ rfl
      have g3 := hg 3 _ rfl
      simp [cInt1, Value.cells] at g0 g1 g2 g3
      obtain ⟨a, e0, rfl, wa⟩ := DataW.trod_int Try.underlying3 g0
      obtain ⟨b, e1, rfl, wb⟩ := DataW.trod_int Try.underlying3 g1
      obtain ⟨c, e2, rfl, wc⟩ := DataW.trod_int Try.underlying3 g2
      obtain ⟨e, e3, rfl, we⟩ := DataW.trod_int Try.underlying3 g3
      simp at e0 e1 e2 e3 hx
      subst e0 e1 e2 e3
      exact ⟨⟨a, b, c, e⟩, rfl, hx.1, hx.2, wa, wb, wc, we⟩
end
end Go.Proofs.Ytjligbfijjejmaa
