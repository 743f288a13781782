/- A row of tokens among the arguments: opened. -/
import Derived.Test.YtnjdnldoopgcpaaDoorInfT
namespace Go.Proofs.YtnjdnldoopgcpaaDoor
open Go.ChangeShapes Go.WideShapes Go.ChangeAt Go.RowKit Go.Joins Go.Deep

set_option maxRecDepth 100000 in
theorem cTk : Tryd.prog.cellsOf 48 = 3 := by kernel_rfl
set_option maxRecDepth 100000 in
theorem cTkI : Tryd.prog.cellsOf 3 = 1 := by kernel_rfl
theorem tkV_len (t : Tk) : (tkV t).length = 3 := rfl
section
variable {H : Type} {enc : TypeId × Value → H} {W : World} {base : Nat} {held : Bool}
set_option maxRecDepth 100000 in
theorem tk_in {n : Nat} {cs : List Value} {y : DataW H × List MemPlace} (hl : cs.length = 3) (h : DataW.trod enc Tryd.prog W base (fun _ => true) held n 48 cs = some y) : ∃ x : Tk, cs = tkV x := by
  obtain ⟨xs, k, -, hx, -, hlen, hg⟩ := DataW.trod_struct Tryd.underlying48 h
  match cs, hl, xs, hlen with
  | [c0, c1, c2], _, [y0, y1, y2], _ =>
    have g0 := hg 0 _ rfl
    have g1 := hg 1 _ rfl
    have g2 := hg 2 _ rfl
    simp [cTkI] at g0 g1 g2
    obtain ⟨a, e0, -, -⟩ := DataW.trod_int Tryd.underlying3 g0
    obtain ⟨b, e1, -, -⟩ := DataW.trod_int Tryd.underlying3 g1
    obtain ⟨c, e2, -, -⟩ := DataW.trod_int Tryd.underlying3 g2
    simp at e0 e1 e2
    exact ⟨⟨a, b, c⟩, by rw [e0, e1, e2]; rfl⟩
set_option maxRecDepth 100000 in
theorem open_tks {b0 : Nat} {v : Value} {d : DataW H} {p : List MemPlace} (hv : Value.okWide Tryd.prog W .any b0 23 v) (h : DataW.Trod enc Tryd.prog W base (fun _ => true) held 23 v d p) :
    ∃ (A : Option Addr) (n c : Nat) (l : List Tk), v = .slice A n c ∧ TksAt W A n c l ∧ (A = none → n = 0 ∧ c = 0) := by
  obtain ⟨a, n, c, rfl⟩ := okWide_slice Tryd.underlying23 hv
  obtain ⟨fuel, hf⟩ := h
  obtain ⟨A, n', c', l, e, hr, -, hz⟩ := open_rows tkV 3 (by decide) tkV_len (fun _ => True) Tryd.underlying23 cTk (fun f cs' y _ hl hy => by
    obtain ⟨x, hx⟩ := tk_in hl hy
    exact ⟨x, hx, trivial⟩) hf
  simp [Value.cells] at e
  obtain ⟨rfl, rfl, rfl⟩ := e
  exact ⟨a, n, c, l, rfl, hr, hz⟩
end
end Go.Proofs.YtnjdnldoopgcpaaDoor
