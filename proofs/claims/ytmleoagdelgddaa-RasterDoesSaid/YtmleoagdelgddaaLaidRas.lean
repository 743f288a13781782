/- raster: matrices, boxes, rows of boxes, images, rows of numbers and Bools among the arguments: opened. -/
import Derived.Test.YtmleoagdelgddaaLaidGen
import Derived.Test.YtmleoagdelgddaaLaidBytes
import Derived.Test.YtmleoagdelgddaaRasAw
namespace Go.Proofs.Ytmleoagdelgddaa
open Go.ChangeShapes Go.WideShapes Go.ChangeAt Go.RowKit Go.Joins Go.Deep

theorem cDec : Try.prog.cellsOf 40 = 2 := by kernel_rfl
theorem cMat : Try.prog.cellsOf 42 = 12 := by kernel_rfl
theorem cPt : Try.prog.cellsOf 78 = 4 := by kernel_rfl
theorem cInt : Try.prog.cellsOf 3 = 1 := by kernel_rfl

/-- A decimal, a matrix, a point as data; its numbers fit. -/
def DV.dat {H : Type} (d : DV) : DataW H := .agg [.lit (.int .i64 d.m), .lit (.int .i64 d.s)]
def DV.Wf (d : DV) : Prop := (Lit.int .i64 d.m).wf = true ∧ (Lit.int .i64 d.s).wf = true
def MV.dat {H : Type} (m : MV) : DataW H := .agg [m.a.dat, m.b.dat, m.c.dat, m.d.dat, m.e.dat, m.f.dat]
def MV.Wf (m : MV) : Prop := m.a.Wf ∧ m.b.Wf ∧ m.c.Wf ∧ m.d.Wf ∧ m.e.Wf ∧ m.f.Wf
def PV.dat {H : Type} (p : PV) : DataW H := .agg [p.x.dat, p.y.dat]
def PV.Wf (p : PV) : Prop := p.x.Wf ∧ p.y.Wf

section
variable {H : Type} {enc : TypeId × Value → H} {W : World} {base : Nat} {spare : Nat → Bool} {held : Bool}
theorem dec_in {n : Nat} {c0 c1 : Value} {y : DataW H × List MemPlace} (h : DataW.trod enc Try.prog W base spare held n 40 [c0, c1] = some y) :
    ∃ d : DV, c0 = .int .i64 d.m ∧ c1 = .int .i64 d.s ∧ y = (d.dat, []) ∧ d.Wf := by
  obtain ⟨xs, k, -, hx, -, hlen, hg⟩ := DataW.trod_struct Try.underlying40 h
  match xs, hlen with
  | [y0, y1], _ =>
    have g0 := hg 0 _ rfl
    have g1 := hg 1 _ rfl
    simp [cInt] at g0 g1
    obtain ⟨a, e0, rfl, wa⟩ := DataW.trod_int Try.underlying3 g0
    obtain ⟨b, e1, rfl, wb⟩ := DataW.trod_int Try.underlying3 g1
    simp at e0 e1
    exact ⟨⟨a, b⟩, e0, e1, hx, wa, wb⟩
theorem dec_out {n : Nat} {d : DV} (h : d.Wf) : DataW.trod enc Try.prog W base spare held (n + 2) 40 [.int .i64 d.m, .int .i64 d.s] = some (d.dat, []) := by
  simp [DataW.trod, Try.underlying40, Try.underlying3, cDec, cInt, h.1, h.2, DV.dat]
set_option maxRecDepth 100000 in
theorem open_dv {b0 : Nat} {v : Value} {d : DataW H} {p : List MemPlace} (hv : Value.okWide Try.prog W .any b0 40 v) (h : DataW.Trod enc Try.prog W base spare held 40 v d p) :
    ∃ x : DV, v = .agg #[.int .i64 x.m, .int .i64 x.s] ∧ d = x.dat ∧ p = [] ∧ x.Wf := by
  obtain ⟨cs, rfl, hsz⟩ := okWide_struct Try.underlying40 hv
  obtain ⟨l⟩ := cs
  match l, hsz.trans cDec with
  | [c0, c1], _ =>
    obtain ⟨fuel, hf⟩ := h
    obtain ⟨x, rfl, rfl, hy, hw⟩ := dec_in hf
    simp only [Prod.mk.injEq] at hy
    exact ⟨x, rfl, hy.1, hy.2, hw⟩
theorem shut_dv {x : DV} (h : x.Wf) : DataW.Trod enc Try.prog W base spare held 40 (.agg #[.int .i64 x.m, .int .i64 x.s]) x.dat [] := ⟨2, dec_out h⟩
set_option maxRecDepth 100000 in
theorem open_pv {b0 : Nat} {v : Value} {d : DataW H} {p : List MemPlace} (hv : Value.okWide Try.prog W .any b0 78 v) (h : DataW.Trod enc Try.prog W base spare held 78 v d p) :
    ∃ x : PV, v = x.val ∧ d = x.dat ∧ p = [] ∧ x.Wf := by
  obtain ⟨cs, rfl, hsz⟩ := okWide_struct Try.underlying78 hv
  obtain ⟨l⟩ := cs
  match l, hsz.trans cPt with
  | [c0, c1, c2, c3], _ =>
    obtain ⟨fuel, hf⟩ := h
    obtain ⟨xs, k, -, hx, -, hlen, hg⟩ := DataW.trod_struct Try.underlying78 hf
    match xs, hlen with
    | [y0, y1], _ =>
      have g0 := hg 0 _ rfl
      have g1 := hg 1 _ rfl
      simp [cDec, Value.cells] at g0 g1
      obtain ⟨x0, rfl, rfl, rfl, w0⟩ := dec_in g0
      obtain ⟨x1, rfl, rfl, rfl, w1⟩ := dec_in g1
      simp at hx
      exact ⟨⟨x0, x1⟩, rfl, hx.1, hx.2, w0, w1⟩
theorem shut_pv {x : PV} (h : x.Wf) : DataW.Trod enc Try.prog W base spare held 78 x.val x.dat [] :=
  ⟨3, by
    unfold DataW.trod
    simp only [Try.underlying78, Value.cells]
    simp [cPt, cDec, dec_out h.1, dec_out h.2, PV.dat]⟩
set_option maxRecDepth 100000 in
theorem open_mv {b0 : Nat} {v : Value} {d : DataW H} {p : List MemPlace} (hv : Value.okWide Try.prog W .any b0 42 v) (h : DataW.Trod enc Try.prog W base spare held 42 v d p) :
    ∃ x : MV, v = x.val ∧ d = x.dat ∧ p = [] ∧ x.Wf := by
  obtain ⟨cs, rfl, hsz⟩ := okWide_struct Try.underlying42 hv
  obtain ⟨l⟩ := cs
  match l, hsz.trans cMat with
  | [c0, c1, c2, c3, c4, c5, c6, c7, c8, c9, c10, c11], _ =>
    obtain ⟨fuel, hf⟩ := h
    obtain ⟨xs, k, -, hx, -, hlen, hg⟩ := DataW.trod_struct Try.underlying42 hf
    match xs, hlen with
    | [y0, y1, y2, y3, y4, y5], _ =>
      have g0 := hg 0 _ rfl
      have g1 := hg 1 _ rfl
      have g2 := hg 2 _ rfl
      have g3 := hg 3 _ rfl
      have g4 := hg 4 _ rfl
      have g5 := hg 5 _ rfl
      simp [cDec, Value.cells] at g0 g1 g2 g3 g4 g5
      obtain ⟨x0, rfl, rfl, rfl, w0⟩ := dec_in g0
      obtain ⟨x1, rfl, rfl, rfl, w1⟩ := dec_in g1
      obtain ⟨x2, rfl, rfl, rfl, w2⟩ := dec_in g2
      obtain ⟨x3, rfl, rfl, rfl, w3⟩ := dec_in g3
      obtain ⟨x4, rfl, rfl, rfl, w4⟩ := dec_in g4
      obtain ⟨x5, rfl, rfl, rfl, w5⟩ := dec_in g5
      simp at hx
      exact ⟨⟨x0, x1, x2, x3, x4, x5⟩, rfl, hx.1, hx.2, w0, w1, w2, w3, w4, w5⟩
theorem shut_mv {x : MV} (h : x.Wf) : DataW.Trod enc Try.prog W base spare held 42 x.val x.dat [] :=
  ⟨3, by
    unfold DataW.trod
    simp only [Try.underlying42, Value.cells]
    simp [cMat, cDec, dec_out h.1, dec_out h.2.1, dec_out h.2.2.1, dec_out h.2.2.2.1, dec_out h.2.2.2.2.1, dec_out h.2.2.2.2.2, MV.dat]⟩
end
theorem cBox : Try.prog.cellsOf 52 = 8 := by kernel_rfl
def BV.dat {H : Type} (b : BV) : DataW H := .agg [b.x0.dat, b.y0.dat, b.x1.dat, b.y1.dat]
def BV.Wf (b : BV) : Prop := b.x0.Wf ∧ b.y0.Wf ∧ b.x1.Wf ∧ b.y1.Wf
section
variable {H : Type} {enc : TypeId × Value → H} {W : World} {base : Nat} {spare : Nat → Bool} {held : Bool}
set_option maxRecDepth 100000 in
theorem open_bv {b0 : Nat} {v : Value} {d : DataW H} {p : List MemPlace} (hv : Value.okWide Try.prog W .any b0 52 v) (h : DataW.Trod enc Try.prog W base spare held 52 v d p) :
    ∃ x : BV, v = x.val ∧ d = x.dat ∧ p = [] ∧ x.Wf := by
  obtain ⟨cs, rfl, hsz⟩ := okWide_struct Try.underlying52 hv
  obtain ⟨l⟩ := cs
  match l, hsz.trans cBox with
  | [c0, c1, c2, c3, c4, c5, c6, c7], _ =>
    obtain ⟨fuel, hf⟩ := h
    obtain ⟨xs, k, -, hx, -, hlen, hg⟩ := DataW.trod_struct Try.underlying52 hf
    match xs, hlen with
    | [y0, y1, y2, y3], _ =>
      have g0 := hg 0 _ rfl
      have g1 := hg 1 _ rfl
      have g2 := hg 2 _ rfl
      have g3 := hg 3 _ rfl
      simp [cDec, Value.cells] at g0 g1 g2 g3
      obtain ⟨x0, rfl, rfl, rfl, w0⟩ := dec_in g0
      obtain ⟨x1, rfl, rfl, rfl, w1⟩ := dec_in g1
      obtain ⟨x2, rfl, rfl, rfl, w2⟩ := dec_in g2
      obtain ⟨x3, rfl, rfl, rfl, w3⟩ := dec_in g3
      simp at hx
      exact ⟨⟨x0, x1, x2, x3⟩, rfl, hx.1, hx.2, w0, w1, w2, w3⟩
theorem shut_bv {x : BV} (h : x.Wf) : DataW.Trod enc Try.prog W base spare held 52 x.val x.dat [] :=
  ⟨3, by
    unfold DataW.trod
    simp only [Try.underlying52, Value.cells]
    simp [cBox, cDec, dec_out h.1, dec_out h.2.1, dec_out h.2.2.1, dec_out h.2.2.2, BV.dat]⟩
end

theorem cBoolC : Try.prog.cellsOf 4 = 1 := by kernel_rfl
theorem cBytesC : Try.prog.cellsOf 22 = 1 := by kernel_rfl
theorem cImg : Try.prog.cellsOf 24 = 5 := by kernel_rfl
section
variable {H : Type} {enc : TypeId × Value → H} {W : World} {base : Nat} {spare : Nat → Bool} {held : Bool}
theorem bx_in {n : Nat} {cs : List Value} {y : DataW H × List MemPlace} (hl : cs.length = 8) (h : DataW.trod enc Try.prog W base spare held n 52 cs = some y) :
    ∃ x : BV, cs = bxV x := by
  match cs, hl with
  | [c0, c1, c2, c3, c4, c5, c6, c7], _ =>
    obtain ⟨xs, k, -, hx, -, hlen, hg⟩ := DataW.trod_struct Try.underlying52 h
    match xs, hlen with
    | [y0, y1, y2, y3], _ =>
      have g0 := hg 0 _ rfl
      have g1 := hg 1 _ rfl
      have g2 := hg 2 _ rfl
      have g3 := hg 3 _ rfl
      simp [cDec] at g0 g1 g2 g3
      obtain ⟨x0, rfl, rfl, -, -⟩ := dec_in g0
      obtain ⟨x1, rfl, rfl, -, -⟩ := dec_in g1
      obtain ⟨x2, rfl, rfl, -, -⟩ := dec_in g2
      obtain ⟨x3, rfl, rfl, -, -⟩ := dec_in g3
      exact ⟨⟨x0, x1, x2, x3⟩, rfl⟩
set_option maxRecDepth 100000 in
/-- A slice of boxes, at its length. -/
theorem open_boxes {b0 : Nat} {v : Value} {d : DataW H} {p : List MemPlace} (hv : Value.okWide Try.prog W .any b0 43 v) (h : DataW.Trod enc Try.prog W base (fun _ => true) held 43 v d p) :
    ∃ (A : Option Addr) (n c : Nat) (l : List BV), v = .slice A n c ∧ BxsAt W A n c l ∧ (A = none → n = 0 ∧ c = 0) := by
  obtain ⟨a, n, c, rfl⟩ := okWide_slice Try.underlying43 hv
  obtain ⟨fuel, hf⟩ := h
  rcases open_slice Try.underlying43 hf with ⟨hc, -⟩ | ⟨a', len, cap, m, k, D, Pl, hc, hb, hl, hm, hmm, -, hi⟩
  · simp [Value.cells] at hc
    obtain ⟨rfl, rfl, rfl⟩ := hc
    exact ⟨none, 0, 0, [], rfl, ⟨rfl, by omega, by omega, fun h => absurd h (by omega)⟩, fun _ => ⟨rfl, rfl⟩⟩
  · simp [Value.cells] at hc
    obtain ⟨rfl, rfl, rfl⟩ := hc
    unfold maxLen at hm
    by_cases hn : n = 0
    · subst hn
      exact ⟨some a', 0, c, [], rfl, ⟨rfl, by omega, by omega, fun h => absurd h (by omega)⟩, fun h => by cases h⟩
    · have key : ∀ i, i < n → ∃ x : BV, ∀ j u, (bxV x)[j]? = some u → W.cell? ((a'.add (i * 8)).add j) = some u := fun i hin => by
        obtain ⟨cs', h1, h2⟩ := hi i (by rw [hmm]; simp; omega)
        rw [cBox] at h1
        obtain ⟨-, hlen, hat⟩ := World.cells?_some h1
        obtain ⟨x, rfl⟩ := bx_in hlen h2
        refine ⟨x, fun j u hu => ?_⟩
        have hj : j < (bxV x).length := (List.getElem?_eq_some_iff.1 hu).1
        rw [List.getElem?_eq_getElem hj] at hu
        injection hu with hu
        rw [← hu]
        exact (hat j hj).trans (List.getElem?_eq_getElem hj)
      obtain ⟨x0, e0⟩ := key 0 (by omega)
      have e0' : W.cell? a' = some (.int .i64 x0.x0.m) := by
        have := e0 0 _ rfl
        rw [show (0 : Nat) * 8 = 0 from rfl] at this
        have e : (a'.add 0).add 0 = a' := by unfold Addr.add; rfl
        rwa [e] at this
      have hs := addr_in e0'
      haveI : Inhabited BV := ⟨.zero⟩
      obtain ⟨F, hF⟩ := choose_lt key
      refine ⟨some a', n, c, (List.range n).map F, rfl, ⟨by simp, hl, by omega, fun _ => ⟨a'.block, a'.off, ?_, World.block_lt_of_cell? _ _ e0', fun i b hb => ?_⟩⟩, fun h => by cases h⟩
      · obtain ⟨b, o, s⟩ := a'
        obtain rfl : s = none := hs
        rfl
      · have hin : i < n := by
          have := (List.getElem?_eq_some_iff.1 hb).1
          simpa using this
        simp [List.getElem?_range hin] at hb
        subst hb
        intro j u hu
        have := hF i hin j u hu
        rw [add_none hs, add_none rfl] at this
        exact this
set_option maxRecDepth 100000 in
theorem open_introw {b0 : Nat} {v : Value} {d : DataW H} {p : List MemPlace} (hv : Value.okWide Try.prog W .any b0 25 v) (h : DataW.Trod enc Try.prog W base (fun _ => true) held 25 v d p) :
    ∃ (A : Option Addr) (n c : Nat) (l : List Int), v = .slice A n c ∧ IntsAt W A n c l := by
  obtain ⟨A, n, c, rfl⟩ := okWide_slice Try.underlying25 hv
  obtain ⟨fuel, hf⟩ := h
  rcases open_slice Try.underlying25 hf with ⟨hc, -⟩ | ⟨a', len, cap, m, k, D, Pl, hc, hb, hl, hm, hmm, -, hi⟩
  · simp [Value.cells] at hc
    obtain ⟨rfl, rfl, rfl⟩ := hc
    exact ⟨none, 0, 0, [], rfl, ⟨rfl, by omega, by omega, fun h => absurd h (by omega)⟩⟩
  · simp [Value.cells] at hc
    obtain ⟨rfl, rfl, rfl⟩ := hc
    unfold maxLen at hm
    have key : ∀ i, i < n → ∃ x : Int, W.cell? (a'.add i) = some (.int .i64 x) := fun i hin => by
      obtain ⟨cs', h1, h2⟩ := hi i (by rw [hmm]; simp; omega)
      rw [cInt] at h1
      obtain ⟨-, hlen, hat⟩ := World.cells?_some h1
      obtain ⟨z, hz, -, hw⟩ := DataW.trod_int Try.underlying3 h2
      subst hz
      have e := hat 0 (by omega)
      have e1 : (a'.add (i * 1)).add 0 = a'.add i := by rw [Nat.mul_one]; simp [Addr.add]
      rw [e1] at e
      exact ⟨z, e⟩
    by_cases hn : n = 0
    · subst hn
      exact ⟨some a', 0, c, [], rfl, ⟨rfl, by omega, by omega, fun h => absurd h (by omega)⟩⟩
    · obtain ⟨x0, e0⟩ := key 0 (by omega)
      have e0' : W.cell? a' = some (.int .i64 x0) := by
        have : a'.add 0 = a' := by unfold Addr.add; rfl
        rw [this] at e0; exact e0
      have hs := addr_in e0'
      obtain ⟨F, hF⟩ := choose_lt key
      refine ⟨some a', n, c, (List.range n).map F, rfl, ⟨by simp, hl, by omega, fun _ => ⟨a'.block, a'.off, ?_, World.block_lt_of_cell? _ _ e0', fun i x hx => ?_⟩⟩⟩
      · obtain ⟨b, o, s⟩ := a'
        obtain rfl : s = none := hs
        rfl
      · have hin : i < n := by
          have := (List.getElem?_eq_some_iff.1 hx).1
          simpa using this
        simp [List.getElem?_range hin] at hx
        subst hx
        have := hF i hin
        rwa [add_none hs] at this
set_option maxRecDepth 100000 in
theorem open_boolrow {b0 : Nat} {v : Value} {d : DataW H} {p : List MemPlace} (hv : Value.okWide Try.prog W .any b0 26 v) (h : DataW.Trod enc Try.prog W base (fun _ => true) held 26 v d p) :
    ∃ (A : Option Addr) (n c : Nat) (l : List Bool), v = .slice A n c ∧ BoolsAt W A n c l := by
  obtain ⟨A, n, c, rfl⟩ := okWide_slice Try.underlying26 hv
  obtain ⟨fuel, hf⟩ := h
  rcases open_slice Try.underlying26 hf with ⟨hc, -⟩ | ⟨a', len, cap, m, k, D, Pl, hc, hb, hl, hm, hmm, -, hi⟩
  · simp [Value.cells] at hc
    obtain ⟨rfl, rfl, rfl⟩ := hc
    exact ⟨none, 0, 0, [], rfl, ⟨rfl, by omega, by omega, fun h => absurd h (by omega)⟩⟩
  · simp [Value.cells] at hc
    obtain ⟨rfl, rfl, rfl⟩ := hc
    unfold maxLen at hm
    have key : ∀ i, i < n → ∃ x : Bool, W.cell? (a'.add i) = some (.bool x) := fun i hin => by
      obtain ⟨cs', h1, h2⟩ := hi i (by rw [hmm]; simp; omega)
      rw [cBoolC] at h1
      obtain ⟨-, hlen, hat⟩ := World.cells?_some h1
      obtain ⟨z, hz, -⟩ := DataW.trod_bool Try.underlying4 h2
      subst hz
      have e := hat 0 (by omega)
      have e1 : (a'.add (i * 1)).add 0 = a'.add i := by rw [Nat.mul_one]; simp [Addr.add]
      rw [e1] at e
      exact ⟨z, e⟩
    by_cases hn : n = 0
    · subst hn
      exact ⟨some a', 0, c, [], rfl, ⟨rfl, by omega, by omega, fun h => absurd h (by omega)⟩⟩
    · obtain ⟨x0, e0⟩ := key 0 (by omega)
      have e0' : W.cell? a' = some (.bool x0) := by
        have : a'.add 0 = a' := by unfold Addr.add; rfl
        rw [this] at e0; exact e0
      have hs := addr_in e0'
      obtain ⟨F, hF⟩ := choose_lt key
      refine ⟨some a', n, c, (List.range n).map F, rfl, ⟨by simp, hl, by omega, fun _ => ⟨a'.block, a'.off, ?_, World.block_lt_of_cell? _ _ e0', fun i x hx => ?_⟩⟩⟩
      · obtain ⟨b, o, s⟩ := a'
        obtain rfl : s = none := hs
        rfl
      · have hin : i < n := by
          have := (List.getElem?_eq_some_iff.1 hx).1
          simpa using this
        simp [List.getElem?_range hin] at hx
        subst hx
        have := hF i hin
        rwa [add_none hs] at this
set_option maxRecDepth 100000 in
theorem bytes_cells {fuel : Nat} {cs : List Value} {x : DataW H × List MemPlace} (h : DataW.trod enc Try.prog W base (fun _ => true) held fuel 22 cs = some x) :
    ∃ (A : Option Addr) (n c : Nat) (bs : List Nat), cs = [.slice A n c] ∧ Bytes W A n c bs := by
  rcases open_slice Try.underlying22 h with ⟨hc, -⟩ | ⟨a', n, c, m, k, D, Pl, hc, hb, hl, hm, hmm, -, hi⟩
  · exact ⟨none, 0, 0, [], hc, ⟨rfl, by omega, by omega, fun b hb => by simp at hb, fun h => absurd h (by omega)⟩⟩
  · unfold maxLen at hm
    have key : ∀ i, i < n → ∃ x : Nat, x < 256 ∧ W.cell? (a'.add i) = some (.int .u8 (x : Int)) := fun i hin => by
      obtain ⟨cs', h1, h2⟩ := hi i (by rw [hmm]; simp; omega)
      rw [cByte] at h1
      obtain ⟨-, hlen, hat⟩ := World.cells?_some h1
      obtain ⟨z, hz, -, hw⟩ := DataW.trod_int Try.underlying5 h2
      subst hz
      have e := hat 0 (by omega)
      have hw := u8_in hw
      have e1 : (a'.add (i * 1)).add 0 = a'.add i := by rw [Nat.mul_one]; simp [Addr.add]
      rw [e1] at e
      refine ⟨z.toNat, by omega, ?_⟩
      rw [Int.toNat_of_nonneg (by omega)]
      exact e
    by_cases hn : n = 0
    · subst hn
      exact ⟨some a', 0, c, [], hc, ⟨rfl, by omega, by omega, fun b hb => by simp at hb, fun h => absurd h (by omega)⟩⟩
    · obtain ⟨x0, -, e0⟩ := key 0 (by omega)
      have e0' : W.cell? a' = some (.int .u8 (x0 : Int)) := by
        have : a'.add 0 = a' := by unfold Addr.add; rfl
        rw [this] at e0; exact e0
      have hs := addr_in e0'
      obtain ⟨F, hF⟩ := choose_lt key
      refine ⟨some a', n, c, (List.range n).map F, hc, ⟨by simp, hl, by omega, fun b hb => ?_, fun _ => ⟨a'.block, a'.off, ?_, World.block_lt_of_cell? _ _ e0', fun i b hb => ?_⟩⟩⟩
      · obtain ⟨j, hj, rfl⟩ := List.mem_map.1 hb
        exact (hF j (List.mem_range.1 hj)).1
      · obtain ⟨b, o, s⟩ := a'
        obtain rfl : s = none := hs
        rfl
      · have hin : i < n := by
          have := (List.getElem?_eq_some_iff.1 hb).1
          simpa using this
        simp [List.getElem?_range hin] at hb
        subst hb
        have := (hF i hin).2
        rwa [add_none hs] at this
set_option maxRecDepth 100000 in
/-- An image. -/
theorem open_img {b0 : Nat} {v : Value} {d : DataW H} {p : List MemPlace} (hv : Value.okWide Try.prog W .any b0 24 v) (h : DataW.Trod enc Try.prog W base (fun _ => true) held 24 v d p) :
    ∃ (X Z B C : Int) (A : Option Addr) (n c : Nat) (bs : List Nat), v = .agg #[.int .i64 X, .int .i64 Z, .int .i64 B, .int .i64 C, .slice A n c] ∧ Bytes W A n c bs := by
  obtain ⟨cs, rfl, hsz⟩ := okWide_struct Try.underlying24 hv
  obtain ⟨l⟩ := cs
  match l, hsz.trans cImg with
  | [c0, c1, c2, c3, c4], _ =>
    obtain ⟨fuel, hf⟩ := h
    obtain ⟨xs, k, -, hx, -, hlen, hg⟩ := DataW.trod_struct Try.underlying24 hf
    match xs, hlen with
    | [y0, y1, y2, y3, y4], _ =>
      have g0 := hg 0 _ rfl
      have g1 := hg 1 _ rfl
      have g2 := hg 2 _ rfl
      have g3 := hg 3 _ rfl
      have g4 := hg 4 _ rfl
      simp [cInt, cBytesC, Value.cells] at g0 g1 g2 g3 g4
      obtain ⟨X, e0, -, -⟩ := DataW.trod_int Try.underlying3 g0
      obtain ⟨Z, e1, -, -⟩ := DataW.trod_int Try.underlying3 g1
      obtain ⟨B, e2, -, -⟩ := DataW.trod_int Try.underlying3 g2
      obtain ⟨C, e3, -, -⟩ := DataW.trod_int Try.underlying3 g3
      obtain ⟨A, n, c, bs, e4, hb⟩ := bytes_cells g4
      simp at e0 e1 e2 e3 e4
      exact ⟨X, Z, B, C, A, n, c, bs, by rw [e0, e1, e2, e3, e4], hb⟩
end
end Go.Proofs.Ytmleoagdelgddaa
