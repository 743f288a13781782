/- The walks of matrix's checkNumbers, sum and what sum hands back. -/
import Derived.Test.YtdlmhienolmncaaGreatMatMath
import Derived.Test.YtdlmhienolmncaaGreatDecMul
import Derived.Deep.RegionHeld3
import Derived.StillTailTactics
import Derived.Test.YtdlmhienolmncaaGreatMem
namespace Go.Proofs.YtdlmhienolmncaaGreat
open Go.RowKit Dec

/-- A decimal's two cells in memory, from cell o on. -/
def At (w : World) (B o : Nat) (d : DV) : Prop := w.cell? ⟨B, o, none⟩ = some (.int .i64 d.m) ∧ w.cell? ⟨B, o + 1, none⟩ = some (.int .i64 d.s)
theorem At.later {w w' : World} {B o : Nat} {d : DV} (h : At w B o d) (hb : Below w.heap.size w w') : At w' B o d := ⟨cell_later hb h.1, cell_later hb h.2⟩
theorem At.lt {w : World} {B o : Nat} {d : DV} (h : At w B o d) : B < w.heap.size := World.block_lt_of_cell? _ _ h.1

/-- A decimal's variable. -/
def Var (w : World) (B : Nat) (d : DV) : Prop := w.cell? ⟨B, 0, none⟩ = some (.int .i64 d.m) ∧ w.cell? ⟨B, 1, none⟩ = some (.int .i64 d.s)
theorem Var.later {w w' : World} {B : Nat} {d : DV} (h : Var w B d) (hb : Below w.heap.size w w') : Var w' B d := ⟨cell_later hb h.1, cell_later hb h.2⟩
theorem Var.lt {w : World} {B : Nat} {d : DV} (h : Var w B d) : B < w.heap.size := World.block_lt_of_cell? _ _ h.1
theorem Var.old {w : World} {B : Nat} {d : DV} (h : Var w B d) (o : Obj) : Var (w.alloc o) B d := h.later ((Below.refl _ _).alloc (Nat.le_refl _) o)
theorem Var.new (w : World) (d : DV) (T : Nat) : Var (w.alloc (.cells #[.int .i64 d.m, .int .i64 d.s] T)) w.heap.size d := ⟨by rw [World.cell?_alloc_new]; rfl, by rw [World.cell?_alloc_new]; rfl⟩

theorem dcheck_any (d : DV) (w : World) (E : Int) (h : (d.Ok ∧ E = 0) ∨ (¬ d.Ok ∧ E = 1)) :
    Calls Tryz.prog 134 #[.agg #[.int .i64 d.m, .int .i64 d.s]] w fun e w' => e = .returned (.int .i64 E) ∧ Below w.heap.size w w' := by
  rcases h with ⟨h, rfl⟩ | ⟨h, rfl⟩
  · exact check_ok _ _ _ h
  · exact check_bad _ _ _ h

theorem pre_succ {P : Nat → Prop} {k : Nat} (h : ∀ i < k, P i) (hk : P k) : ∀ i < k + 1, P i := fun i hi => by
  rcases Nat.lt_or_ge i k with h' | h'
  · exact h i h'
  · obtain rfl : i = k := by omega
    exact hk

/-- A decimal and an error are handed back; what there was stays. -/
def IsD (r : DV) (E : Int) (w : World) (e : Ending) (w' : World) : Prop := e = .returned (.tuple #[.agg #[.int .i64 r.m, .int .i64 r.s], .int .i64 E]) ∧ Below w.heap.size w w'
/-- What checkNumbers answers of the first numbers. -/
def Fine (D : Nat → DV) (n : Nat) (E : Int) : Prop := (E = 0 ∧ ∀ i < n, (D i).Ok) ∨ (E = 1 ∧ ∃ i < n, ¬ (D i).Ok)

/-- The five variables that a made element has caught, from block B on. -/
def Caught (w : World) (B : Nat) (a b c d l : DV) : Prop := Var w B a ∧ Var w (B + 1) b ∧ Var w (B + 2) c ∧ Var w (B + 3) d ∧ Var w (B + 4) l
theorem Caught.later {w w' : World} {B : Nat} {a b c d l : DV} (h : Caught w B a b c d l) (hb : Below w.heap.size w w') : Caught w' B a b c d l :=
  ⟨h.1.later hb, h.2.1.later hb, h.2.2.1.later hb, h.2.2.2.1.later hb, h.2.2.2.2.later hb⟩
end Go.Proofs.YtdlmhienolmncaaGreat

/- The walk of matrix's compute. -/
namespace Go.Proofs.YtdlmhienolmncaaGreat
open Go.RowKit Dec

/-- An element: what it was made of, what it answers, and where its variables lie. -/
structure El where
  a : DV
  b : DV
  c : DV
  d : DV
  l : DV
  r : DV
  E : Int
  B : Nat
/-- What it answers. -/
def El.Says (x : El) : Prop := x.a.Ok ∧ x.b.Ok ∧ x.c.Ok ∧ x.d.Ok ∧ x.l.Ok ∧ SumIs x.a x.b x.c x.d x.l x.r x.E
/-- It lies in memory. -/
def El.Lies (x : El) (w : World) : Prop := Caught w x.B x.a x.b x.c x.d x.l
theorem El.Says.E' {x : El} (h : x.Says) : x.E = 0 ∨ x.E = 5 := h.2.2.2.2.2.ok.2

theorem dec_info : (Tryz.prog.info? 47).map (fun i => (i.zero, i.size, i.bytes)) = some (some (.agg #[.int .i64 0, .int .i64 0]), 2, 16) := by kernel_rfl
/-- The first k results lie in block L. -/
def Filled (X : Nat → El) (L n k : Nat) (w : World) : Prop :=
  ∃ cs : Array Value, Whole w L 47 cs ∧ cs.size = n * 2 ∧ ∀ i < k, cs[i * 2]? = some (.int .i64 (X i).r.m) ∧ cs[i * 2 + 1]? = some (.int .i64 (X i).r.s)
theorem Filled.begin (X : Nat → El) (w : World) (n : Nat) (cs : Array Value) (h : cs.size = n * 2) : Filled X w.heap.size n 0 (w.alloc (.cells cs 47)) := ⟨cs, Whole.made _ _ _, h, fun i hi => absurd hi (by omega)⟩
theorem Filled.here {X : Nat → El} {L n k : Nat} {w w' : World} (h : Filled X L n k w) (hb : Below w.heap.size w w') : Filled X L n k w' := by
  obtain ⟨cs, h1, h2⟩ := h
  exact ⟨cs, h1.here hb, h2⟩
theorem Filled.lt {X : Nat → El} {L n k : Nat} {w : World} (h : Filled X L n k w) : L < w.heap.size := by
  obtain ⟨cs, h1, h2⟩ := h
  exact h1.lt
theorem Filled.room {X : Nat → El} {L n k : Nat} {w : World} (h : Filled X L n k w) (hk : k < n) :
    (∃ u, w.cell? ⟨L, k * 2, none⟩ = some u) ∧ (∃ u, w.cell? ⟨L, k * 2 + 1, none⟩ = some u) ∧ w.frozen? ⟨L, k * 2, none⟩ = false ∧ w.frozen? ⟨L, k * 2 + 1, none⟩ = false := by
  obtain ⟨cs, h1, h2, -⟩ := h
  refine ⟨⟨cs[k * 2]'(by omega), ?_⟩, ⟨cs[k * 2 + 1]'(by omega), ?_⟩, h1.thawed _, h1.thawed _⟩
  · rw [h1.reads, Array.getElem?_eq_getElem]
  · rw [h1.reads, Array.getElem?_eq_getElem]
theorem Filled.step {X : Nat → El} {L n k : Nat} {w : World} (h : Filled X L n k w) (hk : k < n) (o : Obj) :
    Filled X L n (k + 1) (((w.setCell ⟨L, k * 2, none⟩ (.int .i64 (X k).r.m)).setCell ⟨L, k * 2 + 1, none⟩ (.int .i64 (X k).r.s)).alloc o) := by
  obtain ⟨cs, h1, h2, h3⟩ := h
  refine ⟨_, ((h1.set _ _).set _ _).old _, by simpa using h2, fun i hi => ?_⟩
  rcases Nat.lt_or_ge i k with h | h
  · obtain ⟨a, b⟩ := h3 i h
    constructor
    · rw [Array.getElem?_setIfInBounds_ne (by omega), Array.getElem?_setIfInBounds_ne (by omega), a]
    · rw [Array.getElem?_setIfInBounds_ne (by omega), Array.getElem?_setIfInBounds_ne (by omega), b]
  · obtain rfl : i = k := by omega
    constructor
    · rw [Array.getElem?_setIfInBounds_ne (by omega), Array.getElem?_setIfInBounds_self_of_lt (by omega)]
    · rw [Array.getElem?_setIfInBounds_self_of_lt (by simp; omega)]

/-- What compute hands back. -/
def Computed (X : Nat → El) (n : Nat) (w : World) (e : Ending) (w' : World) : Prop :=
  Below w.heap.size w w' ∧ (((∃ i < n, (X i).E = 5) ∧ e = .returned (.tuple #[.slice none 0 0, .int .i64 5])) ∨
    ((∀ i < n, (X i).E = 0) ∧ ∃ L, e = .returned (.tuple #[.slice (some ⟨L, 0, none⟩) n n, .int .i64 0]) ∧ w.heap.size ≤ L ∧ Filled X L n n w'))

end Go.Proofs.YtdlmhienolmncaaGreat

/- The walks of matrix's Check, One, Step, Map. -/
namespace Go.Proofs.YtdlmhienolmncaaGreat
open Go.RowKit Dec

/-- A matrix among the arguments or results, as a value; a point. -/
abbrev MV.val (m : MV) : Value := .agg #[.int .i64 m.a.m, .int .i64 m.a.s, .int .i64 m.b.m, .int .i64 m.b.s, .int .i64 m.c.m, .int .i64 m.c.s, .int .i64 m.d.m, .int .i64 m.d.s, .int .i64 m.e.m, .int .i64 m.e.s, .int .i64 m.f.m, .int .i64 m.f.s]
abbrev PV.val (p : PV) : Value := .agg #[.int .i64 p.x.m, .int .i64 p.x.s, .int .i64 p.y.m, .int .i64 p.y.s]
def MV.nums (m : MV) (i : Nat) : DV := match i with | 0 => m.a | 1 => m.b | 2 => m.c | 3 => m.d | 4 => m.e | _ => m.f
def PV.nums (p : PV) (i : Nat) : DV := match i with | 0 => p.x | _ => p.y
theorem MV.fine (m : MV) (E : Int) (h : (m.Ok ∧ E = 0) ∨ (¬ m.Ok ∧ E = 1)) : Fine m.nums 6 E := by
  rcases h with ⟨⟨h0, h1, h2, h3, h4, h5⟩, rfl⟩ | ⟨h, rfl⟩
  · refine .inl ⟨rfl, fun i hi => ?_⟩
    match i, hi with
    | 0, _ => exact h0
    | 1, _ => exact h1
    | 2, _ => exact h2
    | 3, _ => exact h3
    | 4, _ => exact h4
    | 5, _ => exact h5
  · refine .inr ⟨rfl, ?_⟩
    by_cases h0 : m.a.Ok
    · by_cases h1 : m.b.Ok
      · by_cases h2 : m.c.Ok
        · by_cases h3 : m.d.Ok
          · by_cases h4 : m.e.Ok
            · exact ⟨5, by omega, fun h5 => h ⟨h0, h1, h2, h3, h4, h5⟩⟩
            · exact ⟨4, by omega, h4⟩
          · exact ⟨3, by omega, h3⟩
        · exact ⟨2, by omega, h2⟩
      · exact ⟨1, by omega, h1⟩
    · exact ⟨0, by omega, h0⟩
theorem PV.fine (p : PV) (E : Int) (h : (p.Ok ∧ E = 0) ∨ (¬ p.Ok ∧ E = 1)) : Fine p.nums 2 E := by
  rcases h with ⟨⟨h0, h1⟩, rfl⟩ | ⟨h, rfl⟩
  · refine .inl ⟨rfl, fun i hi => ?_⟩
    match i, hi with
    | 0, _ => exact h0
    | 1, _ => exact h1
  · refine .inr ⟨rfl, ?_⟩
    by_cases h0 : p.x.Ok
    · exact ⟨1, by omega, fun h1 => h ⟨h0, h1⟩⟩
    · exact ⟨0, by omega, h0⟩

theorem MV.at_new (m : MV) (w : World) (T : TypeId) : ∀ i < 6, At (w.alloc (.cells #[.int .i64 m.a.m, .int .i64 m.a.s, .int .i64 m.b.m, .int .i64 m.b.s, .int .i64 m.c.m, .int .i64 m.c.s, .int .i64 m.d.m, .int .i64 m.d.s, .int .i64 m.e.m, .int .i64 m.e.s, .int .i64 m.f.m, .int .i64 m.f.s] T)) w.heap.size (i * 2) (m.nums i) := by
  intro i hi
  unfold At
  rw [World.cell?_alloc_new, World.cell?_alloc_new]
  match i, hi with
  | 0, _ => exact ⟨rfl, rfl⟩
  | 1, _ => exact ⟨rfl, rfl⟩
  | 2, _ => exact ⟨rfl, rfl⟩
  | 3, _ => exact ⟨rfl, rfl⟩
  | 4, _ => exact ⟨rfl, rfl⟩
  | 5, _ => exact ⟨rfl, rfl⟩
theorem PV.at_new (p : PV) (w : World) (T : TypeId) : ∀ i < 2, At (w.alloc (.cells #[.int .i64 p.x.m, .int .i64 p.x.s, .int .i64 p.y.m, .int .i64 p.y.s] T)) w.heap.size (i * 2) (p.nums i) := by
  intro i hi
  unfold At
  rw [World.cell?_alloc_new, World.cell?_alloc_new]
  match i, hi with
  | 0, _ => exact ⟨rfl, rfl⟩
  | 1, _ => exact ⟨rfl, rfl⟩
def IsM (r : MV) (E : Int) (w : World) (e : Ending) (w' : World) : Prop := e = .returned (.tuple #[r.val, .int .i64 E]) ∧ Below w.heap.size w w'
def IsP (r : PV) (E : Int) (w : World) (e : Ending) (w' : World) : Prop := e = .returned (.tuple #[r.val, .int .i64 E]) ∧ Below w.heap.size w w'

/-- compute at two elements that both answer; and where one of them does not. -/
def PairOk (x y : El) (w : World) (e : Ending) (w' : World) : Prop :=
  Below w.heap.size w w' ∧ ∃ L, e = .returned (.tuple #[.slice (some ⟨L, 0, none⟩) 2 2, .int .i64 0]) ∧ w.heap.size < L ∧ At w' L 0 x.r ∧ At w' L 2 y.r
end Go.Proofs.YtdlmhienolmncaaGreat

/- The walk of matrix's Map. -/
namespace Go.Proofs.YtdlmhienolmncaaGreat
open Go.RowKit Dec

/-- A matrix, a point in a block of its own. -/
abbrev MIn (w : World) (B : Nat) (m : MV) : Prop := w.cell? ⟨B, 0, none⟩ = some (.int .i64 m.a.m) ∧ w.cell? ⟨B, 1, none⟩ = some (.int .i64 m.a.s) ∧ w.cell? ⟨B, 2, none⟩ = some (.int .i64 m.b.m) ∧ w.cell? ⟨B, 3, none⟩ = some (.int .i64 m.b.s) ∧ w.cell? ⟨B, 4, none⟩ = some (.int .i64 m.c.m) ∧ w.cell? ⟨B, 5, none⟩ = some (.int .i64 m.c.s) ∧ w.cell? ⟨B, 6, none⟩ = some (.int .i64 m.d.m) ∧ w.cell? ⟨B, 7, none⟩ = some (.int .i64 m.d.s) ∧ w.cell? ⟨B, 8, none⟩ = some (.int .i64 m.e.m) ∧ w.cell? ⟨B, 9, none⟩ = some (.int .i64 m.e.s) ∧ w.cell? ⟨B, 10, none⟩ = some (.int .i64 m.f.m) ∧ w.cell? ⟨B, 11, none⟩ = some (.int .i64 m.f.s)
abbrev PIn (w : World) (B : Nat) (p : PV) : Prop := w.cell? ⟨B, 0, none⟩ = some (.int .i64 p.x.m) ∧ w.cell? ⟨B, 1, none⟩ = some (.int .i64 p.x.s) ∧ w.cell? ⟨B, 2, none⟩ = some (.int .i64 p.y.m) ∧ w.cell? ⟨B, 3, none⟩ = some (.int .i64 p.y.s)
theorem MIn.later {w w' : World} {B : Nat} {m : MV} (h : MIn w B m) (hb : Below w.heap.size w w') : MIn w' B m := by
  obtain ⟨a0, a1, a2, a3, a4, a5, a6, a7, a8, a9, a10, a11⟩ := h
  exact ⟨cell_later hb a0, cell_later hb a1, cell_later hb a2, cell_later hb a3, cell_later hb a4, cell_later hb a5, cell_later hb a6, cell_later hb a7, cell_later hb a8, cell_later hb a9, cell_later hb a10, cell_later hb a11⟩
theorem PIn.later {w w' : World} {B : Nat} {p : PV} (h : PIn w B p) (hb : Below w.heap.size w w') : PIn w' B p := by
  obtain ⟨a0, a1, a2, a3⟩ := h
  exact ⟨cell_later hb a0, cell_later hb a1, cell_later hb a2, cell_later hb a3⟩
theorem MIn.made (w : World) (T : TypeId) (m : MV) : MIn (w.alloc (.cells #[.int .i64 m.a.m, .int .i64 m.a.s, .int .i64 m.b.m, .int .i64 m.b.s, .int .i64 m.c.m, .int .i64 m.c.s, .int .i64 m.d.m, .int .i64 m.d.s, .int .i64 m.e.m, .int .i64 m.e.s, .int .i64 m.f.m, .int .i64 m.f.s] T)) w.heap.size m := by
  have h := Whole.made w T #[.int .i64 m.a.m, .int .i64 m.a.s, .int .i64 m.b.m, .int .i64 m.b.s, .int .i64 m.c.m, .int .i64 m.c.s, .int .i64 m.d.m, .int .i64 m.d.s, .int .i64 m.e.m, .int .i64 m.e.s, .int .i64 m.f.m, .int .i64 m.f.s]
  exact ⟨h.reads 0, h.reads 1, h.reads 2, h.reads 3, h.reads 4, h.reads 5, h.reads 6, h.reads 7, h.reads 8, h.reads 9, h.reads 10, h.reads 11⟩
theorem PIn.made (w : World) (T : TypeId) (p : PV) : PIn (w.alloc (.cells #[.int .i64 p.x.m, .int .i64 p.x.s, .int .i64 p.y.m, .int .i64 p.y.s] T)) w.heap.size p := by
  have h := Whole.made w T #[.int .i64 p.x.m, .int .i64 p.x.s, .int .i64 p.y.m, .int .i64 p.y.s]
  exact ⟨h.reads 0, h.reads 1, h.reads 2, h.reads 3⟩
theorem MIn.lt {w : World} {B : Nat} {m : MV} (h : MIn w B m) : B < w.heap.size := World.block_lt_of_cell? _ _ h.1
theorem PIn.lt {w : World} {B : Nat} {m : PV} (h : PIn w B m) : B < w.heap.size := World.block_lt_of_cell? _ _ h.1
theorem MIn.old {w : World} {B : Nat} {m : MV} (h : MIn w B m) (o : Obj) : MIn (w.alloc o) B m := h.later ((Below.refl _ _).alloc (Nat.le_refl _) o)
theorem PIn.old {w : World} {B : Nat} {m : PV} (h : PIn w B m) (o : Obj) : PIn (w.alloc o) B m := h.later ((Below.refl _ _).alloc (Nat.le_refl _) o)

theorem El.Lies.of {x : El} {w : World} (h : Caught w x.B x.a x.b x.c x.d x.l) : x.Lies w := h
theorem undrew {w w' : World} (h : Below w.drew.heap.size w.drew w') : Below w.heap.size w w' := (Below.refl _ _).drew.trans h

end Go.Proofs.YtdlmhienolmncaaGreat

