/- The walk of matrix's compute. -/
import Derived.Test.YtmleoagdelgddaaMatWalkA
import Derived.Test.YtmleoagdelgddaaMem
namespace Go.Proofs.Ytmleoagdelgddaa
open Go.RowKit Dec

/-- An element: what it was made of, what it answers, and where its variables lie. -/
structure El where
  a : DV
  b : DV
  c : DV
  d : DV
  l : DV
  r : DV
  E : Int
  B : Nat
/-- What it answers. -/
def El.Says (x : El) : Prop := x.a.Ok ∧ x.b.Ok ∧ x.c.Ok ∧ x.d.Ok ∧ x.l.Ok ∧ SumIs x.a x.b x.c x.d x.l x.r x.E
/-- It lies in memory. -/
def El.Lies (x : El) (w : World) : Prop := Caught w x.B x.a x.b x.c x.d x.l
theorem El.Says.E' {x : El} (h : x.Says) : x.E = 0 ∨ x.E = 5 := h.2.2.2.2.2.ok.2

theorem dec_info : (Try.prog.info? 40).map (fun i => (i.zero, i.size, i.bytes)) = some (some (.agg #[.int .i64 0, .int .i64 0]), 2, 16) := by kernel_rfl
theorem make_decs (n : Nat) (hn : n ≤ 100) : ∃ cs : Array Value, cs.size = n * 2 ∧ ∀ w : World,
    (Instr.makeSlice 106 (.int .i64 (n : Int)) (.int .i64 (n : Int))).run Try.prog w = .ok (.slice (some ⟨w.heap.size, 0, none⟩) n n) (w.alloc (.cells cs 40)) := by
  obtain ⟨i, hi, hz, hs, hy⟩ := info_parts dec_info
  refine ⟨madeCells (Value.agg #[.int .i64 0, .int .i64 0]).cells (n * i.size), by rw [size_madeCells, hs], fun w => ?_⟩
  · have := run_make (P := Try.prog) w 106 40 i _ Try.underlying106 hi hz .i64 .i64 n n (by omega) (by omega) (by rw [hy]; omega) (by omega)
    simp only [Int.toNat_natCast] at this
    exact this

/-- The first k results lie in block L. -/
def Filled (X : Nat → El) (L n k : Nat) (w : World) : Prop :=
  ∃ cs : Array Value, Whole w L 40 cs ∧ cs.size = n * 2 ∧ ∀ i < k, cs[i * 2]? = some (.int .i64 (X i).r.m) ∧ cs[i * 2 + 1]? = some (.int .i64 (X i).r.s)
theorem Filled.begin (X : Nat → El) (w : World) (n : Nat) (cs : Array Value) (h : cs.size = n * 2) : Filled X w.heap.size n 0 (w.alloc (.cells cs 40)) := ⟨cs, Whole.made _ _ _, h, fun i hi => absurd hi (by omega)⟩
theorem Filled.here {X : Nat → El} {L n k : Nat} {w w' : World} (h : Filled X L n k w) (hb : Below w.heap.size w w') : Filled X L n k w' := by
  obtain ⟨cs, h1, h2⟩ := h
  exact ⟨cs, h1.here hb, h2⟩
theorem Filled.lt {X : Nat → El} {L n k : Nat} {w : World} (h : Filled X L n k w) : L < w.heap.size := by
  obtain ⟨cs, h1, h2⟩ := h
  exact h1.lt
theorem Filled.room {X : Nat → El} {L n k : Nat} {w : World} (h : Filled X L n k w) (hk : k < n) :
    (∃ u, w.cell? ⟨L, k * 2, none⟩ = some u) ∧ (∃ u, w.cell? ⟨L, k * 2 + 1, none⟩ = some u) ∧ w.frozen? ⟨L, k * 2, none⟩ = false ∧ w.frozen? ⟨L, k * 2 + 1, none⟩ = false := by
  obtain ⟨cs, h1, h2, -⟩ := h
  refine ⟨⟨cs[k * 2]'(by omega), ?_⟩, ⟨cs[k * 2 + 1]'(by omega), ?_⟩, h1.thawed _, h1.thawed _⟩
  · rw [h1.reads, Array.getElem?_eq_getElem]
  · rw [h1.reads, Array.getElem?_eq_getElem]
theorem Filled.step {X : Nat → El} {L n k : Nat} {w : World} (h : Filled X L n k w) (hk : k < n) (o : Obj) :
    Filled X L n (k + 1) (((w.setCell ⟨L, k * 2, none⟩ (.int .i64 (X k).r.m)).setCell ⟨L, k * 2 + 1, none⟩ (.int .i64 (X k).r.s)).alloc o) := by
  obtain ⟨cs, h1, h2, h3⟩ := h
  refine ⟨_, ((h1.set _ _).set _ _).old _, by simpa using h2, fun i hi => ?_⟩
  rcases Nat.lt_or_ge i k with h | h
  · obtain ⟨a, b⟩ := h3 i h
    constructor
    · rw [Array.getElem?_setIfInBounds_ne (by omega), Array.getElem?_setIfInBounds_ne (by omega), a]
    · rw [Array.getElem?_setIfInBounds_ne (by omega), Array.getElem?_setIfInBounds_ne (by omega), b]
  · obtain rfl : i = k := by omega
    constructor
    · rw [Array.getElem?_setIfInBounds_ne (by omega), Array.getElem?_setIfInBounds_self_of_lt (by omega)]
    · rw [Array.getElem?_setIfInBounds_self_of_lt (by simp; omega)]

/-- What compute hands back. -/
def Computed (X : Nat → El) (n : Nat) (w : World) (e : Ending) (w' : World) : Prop :=
  Below w.heap.size w w' ∧ (((∃ i < n, (X i).E = 5) ∧ e = .returned (.tuple #[.slice none 0 0, .int .i64 5])) ∨
    ((∀ i < n, (X i).E = 0) ∧ ∃ L, e = .returned (.tuple #[.slice (some ⟨L, 0, none⟩) n n, .int .i64 0]) ∧ w.heap.size ≤ L ∧ Filled X L n n w'))

end Go.Proofs.Ytmleoagdelgddaa

