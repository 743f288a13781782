/- Matrices, points and decimals among the arguments: opened, and shut again; a start that fits. -/
import Derived.Test.YtpdjooeogpidhaaRows
import Derived.Test.YtpdjooeogpidhaaMatMap
import Derived.ProofKit
import Derived.OpenShut
import Derived.Deep.DeepHandedRow
import Derived.Lay
import Derived.MakeChecks
import Derived.Lib.SmallJoins
import Derived.Test.YtpdjooeogpidhaaBoxWalkA
import Derived.Test.YtpdjooeogpidhaaBoxOf
import Derived.Deep.Slices
import Derived.Carry
namespace Go.Proofs.Ytpdjooeogpidhaa
open Go.ChangeShapes Go.WideShapes Go.ChangeAt Go.RowKit Go.Joins

theorem own : ownKnob Try.prog.godebug = none := by kernel_rfl
def listed : List (String × DataW Unit) := []
noncomputable def start (os : Os) : World := World.laidAll Try.prog os listed
theorem start_met (os : Os) (args : Array Value) : laidMetH Try.prog listed ((start os).forCall (fun _ _ => 0) ⟨#[], args, []⟩).memory := by
  rw [MakeChecks.laidMetH_plain _ _ _ (by kernel_rfl)]
  exact laidMet_laidAll _ (by kernel_rfl) (by kernel_rfl)
theorem start_shaped (os : Os) (args : Array Value) : ((start os).forCall (fun _ _ => 0) ⟨#[], args, []⟩).Shaped Try.prog :=
  World.shaped_of_ZipB (by kernel_rfl) (by kernel_rfl)
theorem start_fits {H : Type} {enc : TypeId × Value → H} {os : Os} {f : FuncId} {fn : Func} {s : OpenSpec} {conds : List PathCond} {apart : Bool} {laid : List (String × DataW Unit)} (args : Array Value)
    (hok : Input.okWideB Try.prog ((start os).forCall (fun _ _ => 0) ⟨#[], args, []⟩) f ⟨#[], args, []⟩ = true)
    (hrow : s.preRow enc Try.prog fn conds apart laid ((start os).forCall (fun _ _ => 0) ⟨#[], args, []⟩).memory args) :
    ∃ (w : World) (tape : Tape) (i : Input), w.os = os ∧ (w.forCall tape i).Shaped Try.prog ∧ i.vars = [] ∧ Input.okWide Try.prog (w.forCall tape i) .any w.heap.size f i ∧
      s.preRow enc Try.prog fn conds apart laid (w.forCall tape i).memory i.args ∧ ({} : Assume).holds Try.prog (lone (Frame.enter Try.prog f i.args .normal) [] (w.forCall tape i)) :=
  ⟨start os, fun _ _ => 0, ⟨#[], args, []⟩, World.laidAll_os _ _ _, start_shaped os args, (Input.okWide_of_okWideB (base := 0) hok).1, (Input.okWide_of_okWideB hok).2, hrow, by
    simp only [Assume.holds]
    exact ⟨by simp, by simp, fun _ => Modest.zero, by simp, by simp⟩⟩

theorem cDec : Try.prog.cellsOf 23 = 2 := by kernel_rfl
theorem cMat : Try.prog.cellsOf 25 = 12 := by kernel_rfl
theorem cPt : Try.prog.cellsOf 27 = 4 := by kernel_rfl
theorem cInt : Try.prog.cellsOf 3 = 1 := by kernel_rfl

/-- A decimal, a matrix, a point as data; its numbers fit. -/
def DV.dat {H : Type} (d : DV) : DataW H := .agg [.lit (.int .i64 d.m), .lit (.int .i64 d.s)]
def DV.Wf (d : DV) : Prop := (Lit.int .i64 d.m).wf = true ∧ (Lit.int .i64 d.s).wf = true
def MV.dat {H : Type} (m : MV) : DataW H := .agg [m.a.dat, m.b.dat, m.c.dat, m.d.dat, m.e.dat, m.f.dat]
def MV.Wf (m : MV) : Prop := m.a.Wf ∧ m.b.Wf ∧ m.c.Wf ∧ m.d.Wf ∧ m.e.Wf ∧ m.f.Wf
def PV.dat {H : Type} (p : PV) : DataW H := .agg [p.x.dat, p.y.dat]
def PV.Wf (p : PV) : Prop := p.x.Wf ∧ p.y.Wf

section
variable {H : Type} {enc : TypeId × Value → H} {W : World} {base : Nat} {spare : Nat → Bool} {held : Bool}
theorem dec_in {n : Nat} {c0 c1 : Value} {y : DataW H × List MemPlace} (h : DataW.trod enc Try.prog W base spare held n 23 [c0, c1] = some y) :
    ∃ d : DV, c0 = .int .i64 d.m ∧ c1 = .int .i64 d.s ∧ y = (d.dat, []) ∧ d.Wf := by
  obtain ⟨xs, k, -, hx, -, hlen, hg⟩ := DataW.trod_struct Try.underlying23 h
  match xs, hlen with
  | [y0, y1], _ =>
    have g0 := hg 0 _ rfl
    have g1 := hg 1 _ rfl
    simp [cInt] at g0 g1
    obtain ⟨a, e0, rfl, wa⟩ := DataW.trod_int Try.underlying3 g0
    obtain ⟨b, e1, rfl, wb⟩ := DataW.trod_int Try.underlying3 g1
    simp at e0 e1
    exact ⟨⟨a, b⟩, e0, e1, hx, wa, wb⟩
theorem dec_out {n : Nat} {d : DV} (h : d.Wf) : DataW.trod enc Try.prog W base spare held (n + 2) 23 [.int .i64 d.m, .int .i64 d.s] = some (d.dat, []) := by
  simp [DataW.trod, Try.underlying23, Try.underlying3, cDec, cInt, h.1, h.2, DV.dat]
set_option maxRecDepth 100000 in
theorem open_dv {b0 : Nat} {v : Value} {d : DataW H} {p : List MemPlace} (hv : Value.okWide Try.prog W .any b0 23 v) (h : DataW.Trod enc Try.prog W base spare held 23 v d p) :
    ∃ x : DV, v = .agg #[.int .i64 x.m, .int .i64 x.s] ∧ d = x.dat ∧ p = [] ∧ x.Wf := by
  obtain ⟨cs, rfl, hsz⟩ := okWide_struct Try.underlying23 hv
  obtain ⟨l⟩ := cs
  match l, hsz.trans cDec with
  | [c0, c1], _ =>
    obtain ⟨fuel, hf⟩ := h
    obtain ⟨x, rfl, rfl, hy, hw⟩ := dec_in hf
    simp only [Prod.mk.injEq] at hy
    exact ⟨x, rfl, hy.1, hy.2, hw⟩
theorem shut_dv {x : DV} (h : x.Wf) : DataW.Trod enc Try.prog W base spare held 23 (.agg #[.int .i64 x.m, .int .i64 x.s]) x.dat [] := ⟨2, dec_out h⟩
set_option maxRecDepth 100000 in
theorem open_pv {b0 : Nat} {v : Value} {d : DataW H} {p : List MemPlace} (hv : Value.okWide Try.prog W .any b0 27 v) (h : DataW.Trod enc Try.prog W base spare held 27 v d p) :
    ∃ x : PV, v = x.val ∧ d = x.dat ∧ p = [] ∧ x.Wf := by
  obtain ⟨cs, rfl, hsz⟩ := okWide_struct Try.underlying27 hv
  obtain ⟨l⟩ := cs
  match l, hsz.trans cPt with
  | [c0, c1, c2, c3], _ =>
    obtain ⟨fuel, hf⟩ := h
    obtain ⟨xs, k, -, hx, -, hlen, hg⟩ := DataW.trod_struct Try.underlying27 hf
    match xs, hlen with
    | [y0, y1], _ =>
      have g0 := hg 0 _ rfl
      have g1 := hg 1 _ rfl
      simp [cDec, Value.cells] at g0 g1
      obtain ⟨x0, rfl, rfl, rfl, w0⟩ := dec_in g0
      obtain ⟨x1, rfl, rfl, rfl, w1⟩ := dec_in g1
      simp at hx
      exact ⟨⟨x0, x1⟩, rfl, hx.1, hx.2, w0, w1⟩
theorem shut_pv {x : PV} (h : x.Wf) : DataW.Trod enc Try.prog W base spare held 27 x.val x.dat [] :=
  ⟨3, by
    unfold DataW.trod
    simp only [Try.underlying27, Value.cells]
    simp [cPt, cDec, dec_out h.1, dec_out h.2, PV.dat]⟩
set_option maxRecDepth 100000 in
theorem open_mv {b0 : Nat} {v : Value} {d : DataW H} {p : List MemPlace} (hv : Value.okWide Try.prog W .any b0 25 v) (h : DataW.Trod enc Try.prog W base spare held 25 v d p) :
    ∃ x : MV, v = x.val ∧ d = x.dat ∧ p = [] ∧ x.Wf := by
  obtain ⟨cs, rfl, hsz⟩ := okWide_struct Try.underlying25 hv
  obtain ⟨l⟩ := cs
  match l, hsz.trans cMat with
  | [c0, c1, c2, c3, c4, c5, c6, c7, c8, c9, c10, c11], _ =>
    obtain ⟨fuel, hf⟩ := h
    obtain ⟨xs, k, -, hx, -, hlen, hg⟩ := DataW.trod_struct Try.underlying25 hf
    match xs, hlen with
    | [y0, y1, y2, y3, y4, y5], _ =>
      have g0 := hg 0 _ rfl
      have g1 := hg 1 _ rfl
      have g2 := hg 2 _ rfl
      have g3 := hg 3 _ rfl
      have g4 := hg 4 _ rfl
      have g5 := hg 5 _ rfl
      simp [cDec, Value.cells] at g0 g1 g2 g3 g4 g5
      obtain ⟨x0, rfl, rfl, rfl, w0⟩ := dec_in g0
      obtain ⟨x1, rfl, rfl, rfl, w1⟩ := dec_in g1
      obtain ⟨x2, rfl, rfl, rfl, w2⟩ := dec_in g2
      obtain ⟨x3, rfl, rfl, rfl, w3⟩ := dec_in g3
      obtain ⟨x4, rfl, rfl, rfl, w4⟩ := dec_in g4
      obtain ⟨x5, rfl, rfl, rfl, w5⟩ := dec_in g5
      simp at hx
      exact ⟨⟨x0, x1, x2, x3, x4, x5⟩, rfl, hx.1, hx.2, w0, w1, w2, w3, w4, w5⟩
theorem shut_mv {x : MV} (h : x.Wf) : DataW.Trod enc Try.prog W base spare held 25 x.val x.dat [] :=
  ⟨3, by
    unfold DataW.trod
    simp only [Try.underlying25, Value.cells]
    simp [cMat, cDec, dec_out h.1, dec_out h.2.1, dec_out h.2.2.1, dec_out h.2.2.2.1, dec_out h.2.2.2.2.1, dec_out h.2.2.2.2.2, MV.dat]⟩
end
end Go.Proofs.Ytpdjooeogpidhaa
/- Boxes among the arguments: opened, and shut again. -/
namespace Go.Proofs.Ytpdjooeogpidhaa
open Go.ChangeShapes Go.WideShapes Go.ChangeAt Go.RowKit Go.Joins

theorem cBox : Try.prog.cellsOf 40 = 8 := by kernel_rfl
def BV.dat {H : Type} (b : BV) : DataW H := .agg [b.x0.dat, b.y0.dat, b.x1.dat, b.y1.dat]
def BV.Wf (b : BV) : Prop := b.x0.Wf ∧ b.y0.Wf ∧ b.x1.Wf ∧ b.y1.Wf
section
variable {H : Type} {enc : TypeId × Value → H} {W : World} {base : Nat} {spare : Nat → Bool} {held : Bool}
set_option maxRecDepth 100000 in
theorem open_bv {b0 : Nat} {v : Value} {d : DataW H} {p : List MemPlace} (hv : Value.okWide Try.prog W .any b0 40 v) (h : DataW.Trod enc Try.prog W base spare held 40 v d p) :
    ∃ x : BV, v = x.val ∧ d = x.dat ∧ p = [] ∧ x.Wf := by
  obtain ⟨cs, rfl, hsz⟩ := okWide_struct Try.underlying40 hv
  obtain ⟨l⟩ := cs
  match l, hsz.trans cBox with
  | [c0, c1, c2, c3, c4, c5, c6, c7], _ =>
    obtain ⟨fuel, hf⟩ := h
    obtain ⟨xs, k, -, hx, -, hlen, hg⟩ := DataW.trod_struct Try.underlying40 hf
    match xs, hlen with
    | [y0, y1, y2, y3], _ =>
      have g0 := hg 0 _ rfl
      have g1 := hg 1 _ rfl
      have g2 := hg 2 _ rfl
      have g3 := hg 3 _ rfl
      simp [cDec, Value.cells] at g0 g1 g2 g3
      obtain ⟨x0, rfl, rfl, rfl, w0⟩ := dec_in g0
      obtain ⟨x1, rfl, rfl, rfl, w1⟩ := dec_in g1
      obtain ⟨x2, rfl, rfl, rfl, w2⟩ := dec_in g2
      obtain ⟨x3, rfl, rfl, rfl, w3⟩ := dec_in g3
      simp at hx
      exact ⟨⟨x0, x1, x2, x3⟩, rfl, hx.1, hx.2, w0, w1, w2, w3⟩
theorem shut_bv {x : BV} (h : x.Wf) : DataW.Trod enc Try.prog W base spare held 40 x.val x.dat [] :=
  ⟨3, by
    unfold DataW.trod
    simp only [Try.underlying40, Value.cells]
    simp [cBox, cDec, dec_out h.1, dec_out h.2.1, dec_out h.2.2.1, dec_out h.2.2.2, BV.dat]⟩
end
end Go.Proofs.Ytpdjooeogpidhaa
/- A slice of points among the arguments: opened. -/
namespace Go.Proofs.Ytpdjooeogpidhaa
open Go.ChangeShapes Go.WideShapes Go.ChangeAt Go.RowKit Go.Joins Go.Deep

theorem spot_none2 {w : World} {a : Addr} {v : Value} (h : w.cell? a = some v) : a.spot = none := by
  unfold World.cell? at h
  cases hs : a.spot with
  | none => rfl
  | some s =>
    rw [hs] at h
    split at h
    · simp at h
    · cases h
theorem add_none2 {a : Addr} (hs : a.spot = none) (n : Nat) : a.add n = ⟨a.block, a.off + n, none⟩ := by
  obtain ⟨b, o, s⟩ := a
  obtain rfl : s = none := hs
  unfold Addr.add
  split
  · subst n; rfl
  · rfl
section
variable {H : Type} {enc : TypeId × Value → H} {W : World} {base : Nat} {spare : Nat → Bool} {held : Bool}
theorem pt_in2 {n : Nat} {cs : List Value} {y : DataW H × List MemPlace} (hl : cs.length = 4) (h : DataW.trod enc Try.prog W base spare held n 27 cs = some y) :
    ∃ x : PV, cs = [.int .i64 x.x.m, .int .i64 x.x.s, .int .i64 x.y.m, .int .i64 x.y.s] := by
  match cs, hl with
  | [c0, c1, c2, c3], _ =>
    obtain ⟨xs, k, -, hx, -, hlen, hg⟩ := DataW.trod_struct Try.underlying27 h
    match xs, hlen with
    | [y0, y1], _ =>
      have g0 := hg 0 _ rfl
      have g1 := hg 1 _ rfl
      simp [cDec] at g0 g1
      obtain ⟨x0, rfl, rfl, -, -⟩ := dec_in g0
      obtain ⟨x1, rfl, rfl, -, -⟩ := dec_in g1
      exact ⟨⟨x0, x1⟩, rfl⟩
set_option maxRecDepth 100000 in
/-- A slice of points, at its length: nil, empty, or a row of points in memory. -/
theorem open_pts2 {b0 : Nat} {v : Value} {d : DataW H} {p : List MemPlace} (hv : Value.okWide Try.prog W .any b0 41 v) (h : DataW.Trod enc Try.prog W base (fun _ => true) held 41 v d p) :
    ∃ (a : Option Addr) (n c : Nat), v = .slice a n c ∧ n ≤ c ∧ c ≤ 9223372036854775807 ∧ (a = none → n = 0 ∧ c = 0) ∧ (n = 0 ∨ ∃ (R o : Nat) (F : Nat → PV), a = some ⟨R, o, none⟩ ∧ ∀ i < n, PAt W R (o + i * 4) (F i)) := by
  obtain ⟨a, n, c, rfl⟩ := okWide_slice Try.underlying41 hv
  refine ⟨a, n, c, rfl, ?_⟩
  obtain ⟨fuel, hf⟩ := h
  rcases open_slice Try.underlying41 hf with ⟨hc, -⟩ | ⟨a', len, cap, m, k, D, Pl, hc, hb, hl, hm, hmm, -, hi⟩
  · simp [Value.cells] at hc
    obtain ⟨-, rfl, rfl⟩ := hc
    exact ⟨Nat.le_refl _, by omega, fun _ => ⟨rfl, rfl⟩, .inl rfl⟩
  · simp [Value.cells] at hc
    obtain ⟨rfl, rfl, rfl⟩ := hc
    unfold maxLen at hm
    refine ⟨hl, by omega, (fun h => by cases h), ?_⟩
    by_cases hn : n = 0
    · exact .inl hn
    · right
      have key : ∀ i, i < n → ∃ x : PV, W.cell? (a'.add (i * 4)) = some (.int .i64 x.x.m) ∧ W.cell? ((a'.add (i * 4)).add 1) = some (.int .i64 x.x.s) ∧ W.cell? ((a'.add (i * 4)).add 2) = some (.int .i64 x.y.m) ∧ W.cell? ((a'.add (i * 4)).add 3) = some (.int .i64 x.y.s) := fun i hin => by
        obtain ⟨cs', h1, h2⟩ := hi i (by rw [hmm]; simp; omega)
        rw [cPt] at h1
        obtain ⟨-, hlen, hat⟩ := World.cells?_some h1
        obtain ⟨x, rfl⟩ := pt_in2 hlen h2
        exact ⟨x, hat 0 (by omega), hat 1 (by omega), hat 2 (by omega), hat 3 (by omega)⟩
      obtain ⟨x0, e0, -⟩ := key 0 (by omega)
      rw [show (0 : Nat) * 4 = 0 from rfl] at e0
      have e0' : W.cell? a' = some (.int .i64 x0.x.m) := by
        have : a'.add 0 = a' := by unfold Addr.add; rfl
        rw [this] at e0; exact e0
      have hs := spot_none2 e0'
      haveI : Inhabited PV := ⟨.zero⟩
      obtain ⟨F, hF⟩ := choose_lt key
      refine ⟨a'.block, a'.off, F, ?_, fun i hin => ?_⟩
      · obtain ⟨b, o, s⟩ := a'
        obtain rfl : s = none := hs
        rfl
      · obtain ⟨k0, k1, k2, k3⟩ := hF i hin
        rw [add_none2 hs] at k0 k1 k2 k3
        rw [add_none2 rfl] at k1 k2 k3
        exact ⟨k0, k1, k2, k3⟩
end
end Go.Proofs.Ytpdjooeogpidhaa
