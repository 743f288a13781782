/- Boxes among the arguments: opened, and shut again. -/
import Derived.Test.YtgdfdlicfjjfjaaLaidMat
import Derived.Test.YtgdfdlicfjjfjaaBoxWalkA
namespace Go.Proofs.Ytgdfdlicfjjfjaa
open Go.ChangeShapes Go.WideShapes Go.ChangeAt Go.RowKit Go.Joins

theorem cBox : Try.prog.cellsOf 25 = 8 := by kernel_rfl
def BV.dat {H : Type} (b : BV) : DataW H := .agg [b.x0.dat, b.y0.dat, b.x1.dat, b.y1.dat]
def BV.Wf (b : BV) : Prop := b.x0.Wf ∧ b.y0.Wf ∧ b.x1.Wf ∧ b.y1.Wf
section
variable {H : Type} {enc : TypeId × Value → H} {W : World} {base : Nat} {spare : Nat → Bool} {held : Bool}
set_option maxRecDepth 100000 in
theorem open_bv {b0 : Nat} {v : Value} {d : DataW H} {p : List MemPlace} (hv : Value.okWide Try.prog W .any b0 25 v) (h : DataW.Trod enc Try.prog W base spare held 25 v d p) :
    ∃ x : BV, v = x.val ∧ d = x.dat ∧ p = [] ∧ x.Wf := by
  obtain ⟨cs, rfl, hsz⟩ := okWide_struct Try.underlying25 hv
  obtain ⟨l⟩ := cs
  match l, hsz.trans cBox with
  | [c0, c1, c2, c3, c4, c5, c6, c7], _ =>
    obtain ⟨fuel, hf⟩ := h
    obtain ⟨xs, k, -, hx, -, hlen, hg⟩ := DataW.trod_struct Try.underlying25 hf
    match xs, hlen with
    | [y0, y1, y2, y3], _ =>
      have g0 := hg 0 _ rfl
      have g1 := hg 1 _ rfl
      have g2 := hg 2 _ rfl
      have g3 := hg 3 _ rfl
      simp [cDec, Value.cells] at g0 g1 g2 g3
      obtain ⟨x0, rfl, rfl, rfl, w0⟩ := dec_in g0
      obtain ⟨x1, rfl, rfl, rfl, w1⟩ := dec_in g1
      obtain ⟨x2, rfl, rfl, rfl, w2⟩ := dec_in g2
      obtain ⟨x3, rfl, rfl, rfl, w3⟩ := dec_in g3
      simp at hx
      exact ⟨⟨x0, x1, x2, x3⟩, rfl, hx.1, hx.2, w0, w1, w2, w3⟩
theorem shut_bv {x : BV} (h : x.Wf) : DataW.Trod enc Try.prog W base spare held 25 x.val x.dat [] :=
  ⟨3, by
    unfold DataW.trod
    simp only [Try.underlying25, Value.cells]
    simp [cBox, cDec, dec_out h.1, dec_out h.2.1, dec_out h.2.2.1, dec_out h.2.2.2, BV.dat]⟩
end
end Go.Proofs.Ytgdfdlicfjjfjaa
