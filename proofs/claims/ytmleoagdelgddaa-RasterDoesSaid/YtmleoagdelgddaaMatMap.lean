/- The walks of matrix's Check, One, Step, Map. -/
import Derived.Test.YtmleoagdelgddaaMatCompute
namespace Go.Proofs.Ytmleoagdelgddaa
open Go.RowKit Dec

/-- A matrix among the arguments or results, as a value; a point. -/
abbrev MV.val (m : MV) : Value := .agg #[.int .i64 m.a.m, .int .i64 m.a.s, .int .i64 m.b.m, .int .i64 m.b.s, .int .i64 m.c.m, .int .i64 m.c.s, .int .i64 m.d.m, .int .i64 m.d.s, .int .i64 m.e.m, .int .i64 m.e.s, .int .i64 m.f.m, .int .i64 m.f.s]
abbrev PV.val (p : PV) : Value := .agg #[.int .i64 p.x.m, .int .i64 p.x.s, .int .i64 p.y.m, .int .i64 p.y.s]
def MV.nums (m : MV) (i : Nat) : DV := match i with | 0 => m.a | 1 => m.b | 2 => m.c | 3 => m.d | 4 => m.e | _ => m.f
def PV.nums (p : PV) (i : Nat) : DV := match i with | 0 => p.x | _ => p.y
theorem MV.fine (m : MV) (E : Int) (h : (m.Ok ∧ E = 0) ∨ (¬ m.Ok ∧ E = 1)) : Fine m.nums 6 E := by
  rcases h with ⟨⟨h0, h1, h2, h3, h4, h5⟩, rfl⟩ | ⟨h, rfl⟩
  · refine .inl ⟨rfl, fun i hi => ?_⟩
    match i, hi with
    | 0, _ => exact h0
    | 1, _ => exact h1
    | 2, _ => exact h2
    | 3, _ => exact h3
    | 4, _ => exact h4
    | 5, _ => exact h5
  · refine .inr ⟨rfl, ?_⟩
    by_cases h0 : m.a.Ok
    · by_cases h1 : m.b.Ok
      · by_cases h2 : m.c.Ok
        · by_cases h3 : m.d.Ok
          · by_cases h4 : m.e.Ok
            · exact ⟨5, by omega, fun h5 => h ⟨h0, h1, h2, h3, h4, h5⟩⟩
            · exact ⟨4, by omega, h4⟩
          · exact ⟨3, by omega, h3⟩
        · exact ⟨2, by omega, h2⟩
      · exact ⟨1, by omega, h1⟩
    · exact ⟨0, by omega, h0⟩
theorem PV.fine (p : PV) (E : Int) (h : (p.Ok ∧ E = 0) ∨ (¬ p.Ok ∧ E = 1)) : Fine p.nums 2 E := by
  rcases h with ⟨⟨h0, h1⟩, rfl⟩ | ⟨h, rfl⟩
  · refine .inl ⟨rfl, fun i hi => ?_⟩
    match i, hi with
    | 0, _ => exact h0
    | 1, _ => exact h1
  · refine .inr ⟨rfl, ?_⟩
    by_cases h0 : p.x.Ok
    · exact ⟨1, by omega, fun h1 => h ⟨h0, h1⟩⟩
    · exact ⟨0, by omega, h0⟩

theorem MV.at_new (m : MV) (w : World) (T : TypeId) : ∀ i < 6, At (w.alloc (.cells #[.int .i64 m.a.m, .int .i64 m.a.s, .int .i64 m.b.m, .int .i64 m.b.s, .int .i64 m.c.m, .int .i64 m.c.s, .int .i64 m.d.m, .int .i64 m.d.s, .int .i64 m.e.m, .int .i64 m.e.s, .int .i64 m.f.m, .int .i64 m.f.s] T)) w.heap.size (i * 2) (m.nums i) := by
  intro i hi
  unfold At
  rw [World.cell?_alloc_new, World.cell?_alloc_new]
  match i, hi with
  | 0, _ => exact ⟨rfl, rfl⟩
  | 1, _ => exact ⟨rfl, rfl⟩
  | 2, _ => exact ⟨rfl, rfl⟩
  | 3, _ => exact ⟨rfl, rfl⟩
  | 4, _ => exact ⟨rfl, rfl⟩
  | 5, _ => exact ⟨rfl, rfl⟩
theorem PV.at_new (p : PV) (w : World) (T : TypeId) : ∀ i < 2, At (w.alloc (.cells #[.int .i64 p.x.m, .int .i64 p.x.s, .int .i64 p.y.m, .int .i64 p.y.s] T)) w.heap.size (i * 2) (p.nums i) := by
  intro i hi
  unfold At
  rw [World.cell?_alloc_new, World.cell?_alloc_new]
  match i, hi with
  | 0, _ => exact ⟨rfl, rfl⟩
  | 1, _ => exact ⟨rfl, rfl⟩
theorem six_any (m : MV) (w : World) (T : TypeId) (E : Int) (h : (m.Ok ∧ E = 0) ∨ (¬ m.Ok ∧ E = 1)) (R : Nat) (hR : R = w.heap.size) :
    Calls Try.prog 51 #[.slice (some ⟨R, 0, none⟩) 6 6] (w.alloc (.cells #[.int .i64 m.a.m, .int .i64 m.a.s, .int .i64 m.b.m, .int .i64 m.b.s, .int .i64 m.c.m, .int .i64 m.c.s, .int .i64 m.d.m, .int .i64 m.d.s, .int .i64 m.e.m, .int .i64 m.e.s, .int .i64 m.f.m, .int .i64 m.f.s] T))
      fun e w' => e = .returned (.int .i64 E) ∧ Below w.heap.size w w' := by
  subst hR
  refine (checkNumbers_any 6 m.nums _ _ E (by omega) (MV.at_new m w T) (m.fine E h)).mono ?_
  rintro e w' ⟨rfl, hb⟩
  exact ⟨rfl, ((Below.refl _ _).alloc (Nat.le_refl _) _).trans (hb.mono (by simp))⟩
theorem two_any (p : PV) (w : World) (T : TypeId) (E : Int) (h : (p.Ok ∧ E = 0) ∨ (¬ p.Ok ∧ E = 1)) (R : Nat) (hR : R = w.heap.size) :
    Calls Try.prog 51 #[.slice (some ⟨R, 0, none⟩) 2 2] (w.alloc (.cells #[.int .i64 p.x.m, .int .i64 p.x.s, .int .i64 p.y.m, .int .i64 p.y.s] T))
      fun e w' => e = .returned (.int .i64 E) ∧ Below w.heap.size w w' := by
  subst hR
  refine (checkNumbers_any 2 p.nums _ _ E (by omega) (PV.at_new p w T) (p.fine E h)).mono ?_
  rintro e w' ⟨rfl, hb⟩
  exact ⟨rfl, ((Below.refl _ _).alloc (Nat.le_refl _) _).trans (hb.mono (by simp))⟩

theorem mcheck_any (m : MV) (w : World) (E : Int) (h : (m.Ok ∧ E = 0) ∨ (¬ m.Ok ∧ E = 1)) :
    Calls Try.prog 36 #[m.val] w fun e w' => e = .returned (.int .i64 E) ∧ Below w.heap.size w w' := by
  have H := Lib.hid h
  clear h
  go_enter Try.func36, Try.ntmps36
  go_wp2_with fail
  refine (six_any m _ _ E H.out _ (by simp)).mono ?_
  rintro e w1 ⟨rfl, hb⟩
  go_wp2
  go_ret
  exact ⟨rfl, ((Below.refl _ _).alloc (Nat.le_refl _) _).trans (hb.mono (by simp))⟩
def IsM (r : MV) (E : Int) (w : World) (e : Ending) (w' : World) : Prop := e = .returned (.tuple #[r.val, .int .i64 E]) ∧ Below w.heap.size w w'
def IsP (r : PV) (E : Int) (w : World) (e : Ending) (w' : World) : Prop := e = .returned (.tuple #[r.val, .int .i64 E]) ∧ Below w.heap.size w w'

/-- compute at two elements that both answer; and where one of them does not. -/
def PairOk (x y : El) (w : World) (e : Ending) (w' : World) : Prop :=
  Below w.heap.size w w' ∧ ∃ L, e = .returned (.tuple #[.slice (some ⟨L, 0, none⟩) 2 2, .int .i64 0]) ∧ w.heap.size < L ∧ At w' L 0 x.r ∧ At w' L 2 y.r
end Go.Proofs.Ytmleoagdelgddaa

