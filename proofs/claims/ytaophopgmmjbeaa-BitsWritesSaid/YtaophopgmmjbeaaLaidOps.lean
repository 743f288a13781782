/- A slice of calls (three ints each) among the arguments: opened. -/
import Derived.Test.YtaophopgmmjbeaaLaidGen
import Derived.Test.YtaophopgmmjbeaaMem
namespace Go.Proofs.Ytaophopgmmjbeaa
open Go.ChangeShapes Go.WideShapes Go.ChangeAt Go.RowKit Go.Joins Go.Deep

/-- A call: which, its value, its number. -/
structure OpV where
  c : Int
  v : Int
  n : Int
/-- A call's three cells. -/
def OAt (w : World) (R o : Nat) (x : OpV) : Prop := w.cell? ⟨R, o, none⟩ = some (.int .i64 x.c) ∧ w.cell? ⟨R, o + 1, none⟩ = some (.int .i64 x.v) ∧ w.cell? ⟨R, o + 2, none⟩ = some (.int .i64 x.n)
theorem OAt.below {w w' : World} {B R o : Nat} {x : OpV} (h : OAt w R o x) (hb : Below B w w') (hR : R < B) : OAt w' R o x :=
  ⟨(hb.cell (p := ⟨R, o, none⟩) hR).trans h.1, (hb.cell (p := ⟨R, o + 1, none⟩) hR).trans h.2.1, (hb.cell (p := ⟨R, o + 2, none⟩) hR).trans h.2.2⟩
/-- A slice that reads as calls, nil let in. -/
structure Ops (w : World) (A : Option Addr) (n c : Nat) (F : Nat → OpV) : Prop where
  cap : n ≤ c
  top : c ≤ 9223372036854775807
  at_ : 0 < n → ∃ R o, A = some ⟨R, o, none⟩ ∧ R < w.heap.size ∧ ∀ i, i < n → OAt w R (o + i * 3) (F i)
  big : ∀ i, i < n → (F i).v ≤ 9223372036854775807
theorem cOp : Try.prog.cellsOf 33 = 3 := by kernel_rfl
theorem cInt : Try.prog.cellsOf 3 = 1 := by kernel_rfl
theorem i64_in' {z : Int} (h : (Lit.int .i64 z).wf = true) : -9223372036854775808 ≤ z ∧ z ≤ 9223372036854775807 := by
  have h1 : (decide ((-9223372036854775808 : Int) ≤ z) && decide (z ≤ 9223372036854775807)) = true := h
  simpa using h1
section
variable {H : Type} {enc : TypeId × Value → H} {W : World} {base : Nat} {held : Bool} {spare : Nat → Bool}
theorem op_in {n : Nat} {cs : List Value} {y : DataW H × List MemPlace} (hl : cs.length = 3) (h : DataW.trod enc Try.prog W base spare held n 33 cs = some y) :
    ∃ x : OpV, cs = [.int .i64 x.c, .int .i64 x.v, .int .i64 x.n] ∧ x.v ≤ 9223372036854775807 := by
  match cs, hl with
  | [c0, c1, c2], _ =>
    obtain ⟨xs, k, -, hx, -, hlen, hg⟩ := DataW.trod_struct Try.underlying33 h
    match xs, hlen with
    | [y0, y1, y2], _ =>
      have g0 := hg 0 _ rfl
      have g1 := hg 1 _ rfl
      have g2 := hg 2 _ rfl
      simp [cInt] at g0 g1 g2
      obtain ⟨a, e0, -, -⟩ := DataW.trod_int Try.underlying3 g0
      obtain ⟨b, e1, -, wb⟩ := DataW.trod_int Try.underlying3 g1
      obtain ⟨c, e2, -, -⟩ := DataW.trod_int Try.underlying3 g2
      simp at e0 e1 e2
      exact ⟨⟨a, b, c⟩, by rw [e0, e1, e2], (i64_in' wb).2⟩
theorem open_ops {b0 : Nat} {v : Value} {d : DataW H} {p : List MemPlace} (hv : Value.okWide Try.prog W .any b0 23 v) (h : DataW.Trod enc Try.prog W base (fun _ => true) held 23 v d p) :
    ∃ (A : Option Addr) (n c : Nat) (F : Nat → OpV), v = .slice A n c ∧ Ops W A n c F := by
  obtain ⟨A, n, c, rfl⟩ := okWide_slice Try.underlying23 hv
  obtain ⟨fuel, hf⟩ := h
  haveI : Inhabited OpV := ⟨⟨0, 0, 0⟩⟩
  rcases open_slice Try.underlying23 hf with ⟨hc, -⟩ | ⟨a', len, cap, m, k, D, Pl, hc, hb, hl, hm, hmm, -, hi⟩
  · simp [Value.cells] at hc
    obtain ⟨rfl, rfl, rfl⟩ := hc
    exact ⟨none, 0, 0, fun _ => default, rfl, ⟨by omega, by omega, fun h => absurd h (by omega), fun i h => absurd h (by omega)⟩⟩
  · simp [Value.cells] at hc
    obtain ⟨rfl, rfl, rfl⟩ := hc
    unfold maxLen at hm
    have key : ∀ i, i < n → ∃ x : OpV, W.cell? (a'.add (i * 3)) = some (.int .i64 x.c) ∧ W.cell? ((a'.add (i * 3)).add 1) = some (.int .i64 x.v) ∧ W.cell? ((a'.add (i * 3)).add 2) = some (.int .i64 x.n) ∧ x.v ≤ 9223372036854775807 := fun i hin => by
      obtain ⟨cs', h1, h2⟩ := hi i (by rw [hmm]; simp; omega)
      rw [cOp] at h1
      obtain ⟨-, hlen, hat⟩ := World.cells?_some h1
      obtain ⟨x, rfl, hx⟩ := op_in hlen h2
      exact ⟨x, hat 0 (by omega), hat 1 (by omega), hat 2 (by omega), hx⟩
    by_cases hn : n = 0
    · subst hn
      exact ⟨some a', 0, c, fun _ => default, rfl, ⟨by omega, by omega, fun h => absurd h (by omega), fun i h => absurd h (by omega)⟩⟩
    · obtain ⟨x0, e0, -⟩ := key 0 (by omega)
      have e0' : W.cell? a' = some (.int .i64 x0.c) := by
        have : a'.add (0 * 3) = a' := by unfold Addr.add; rfl
        rw [this] at e0; exact e0
      have hs := addr_in e0'
      obtain ⟨F, hF⟩ := choose_lt key
      refine ⟨some a', n, c, F, rfl, ⟨hl, by omega, fun _ => ⟨a'.block, a'.off, ?_, World.block_lt_of_cell? _ _ e0', fun i hin => ?_⟩, fun i hin => (hF i hin).2.2.2⟩⟩
      · obtain ⟨b, o, s⟩ := a'
        obtain rfl : s = none := hs
        rfl
      · obtain ⟨k0, k1, k2, -⟩ := hF i hin
        rw [addr_add hs] at k0 k1 k2
        rw [addr_add rfl] at k1 k2
        exact ⟨k0, k1, k2⟩
end
end Go.Proofs.Ytaophopgmmjbeaa
