/- The walks of matrix's checkNumbers, sum and what sum hands back. -/
import Derived.Test.YtmleoagdelgddaaMatMath
import Derived.Test.YtmleoagdelgddaaDecMul
import Derived.Deep.RegionHeld3
import Derived.StillTailTactics
namespace Go.Proofs.Ytmleoagdelgddaa
open Go.RowKit Dec

/-- A decimal's two cells in memory, from cell o on. -/
def At (w : World) (B o : Nat) (d : DV) : Prop := w.cell? ⟨B, o, none⟩ = some (.int .i64 d.m) ∧ w.cell? ⟨B, o + 1, none⟩ = some (.int .i64 d.s)
theorem At.later {w w' : World} {B o : Nat} {d : DV} (h : At w B o d) (hb : Below w.heap.size w w') : At w' B o d := ⟨cell_later hb h.1, cell_later hb h.2⟩
theorem At.lt {w : World} {B o : Nat} {d : DV} (h : At w B o d) : B < w.heap.size := World.block_lt_of_cell? _ _ h.1

/-- A decimal's variable. -/
def Var (w : World) (B : Nat) (d : DV) : Prop := w.cell? ⟨B, 0, none⟩ = some (.int .i64 d.m) ∧ w.cell? ⟨B, 1, none⟩ = some (.int .i64 d.s)
theorem Var.later {w w' : World} {B : Nat} {d : DV} (h : Var w B d) (hb : Below w.heap.size w w') : Var w' B d := ⟨cell_later hb h.1, cell_later hb h.2⟩
theorem Var.lt {w : World} {B : Nat} {d : DV} (h : Var w B d) : B < w.heap.size := World.block_lt_of_cell? _ _ h.1
theorem Var.old {w : World} {B : Nat} {d : DV} (h : Var w B d) (o : Obj) : Var (w.alloc o) B d := h.later ((Below.refl _ _).alloc (Nat.le_refl _) o)
theorem Var.new (w : World) (d : DV) (T : Nat) : Var (w.alloc (.cells #[.int .i64 d.m, .int .i64 d.s] T)) w.heap.size d := ⟨by rw [World.cell?_alloc_new]; rfl, by rw [World.cell?_alloc_new]; rfl⟩

theorem check_any (d : DV) (w : World) (E : Int) (h : (d.Ok ∧ E = 0) ∨ (¬ d.Ok ∧ E = 1)) :
    Calls Try.prog 68 #[.agg #[.int .i64 d.m, .int .i64 d.s]] w fun e w' => e = .returned (.int .i64 E) ∧ Below w.heap.size w w' := by
  rcases h with ⟨h, rfl⟩ | ⟨h, rfl⟩
  · exact check_ok _ _ _ h
  · exact check_bad _ _ _ h

theorem pre_succ {P : Nat → Prop} {k : Nat} (h : ∀ i < k, P i) (hk : P k) : ∀ i < k + 1, P i := fun i hi => by
  rcases Nat.lt_or_ge i k with h' | h'
  · exact h i h'
  · obtain rfl : i = k := by omega
    exact hk

/-- A decimal and an error are handed back; what there was stays. -/
def IsD (r : DV) (E : Int) (w : World) (e : Ending) (w' : World) : Prop := e = .returned (.tuple #[.agg #[.int .i64 r.m, .int .i64 r.s], .int .i64 E]) ∧ Below w.heap.size w w'
theorem mul_tells (a b r : DV) (E : Int) (w : World) (ha : a.Ok) (hb : b.Ok) (h : Tells (a.v * b.v) 18 r E) :
    Calls Try.prog 70 #[.agg #[.int .i64 a.m, .int .i64 a.s], .agg #[.int .i64 b.m, .int .i64 b.s]] w (IsD r E w) := by
  refine (mul_ok _ _ _ _ w ha hb).mono ?_
  rintro e w' ⟨M, S, E', he, hd, hk⟩
  obtain ⟨rfl, rfl, rfl⟩ := hd.unique h
  exact ⟨he, hk⟩
theorem add_tells (a b r : DV) (E : Int) (w : World) (ha : a.Ok) (hb : b.Ok) (h : Tells (a.v + b.v) 9 r E) :
    Calls Try.prog 72 #[.agg #[.int .i64 a.m, .int .i64 a.s], .agg #[.int .i64 b.m, .int .i64 b.s]] w (IsD r E w) := by
  refine (add_ok _ _ _ _ w ha hb).mono ?_
  rintro e w' ⟨M, S, E', he, hd, hk⟩
  obtain ⟨rfl, rfl, rfl⟩ := hd.unique h
  exact ⟨he, hk⟩

/-- What checkNumbers answers of the first numbers. -/
def Fine (D : Nat → DV) (n : Nat) (E : Int) : Prop := (E = 0 ∧ ∀ i < n, (D i).Ok) ∨ (E = 1 ∧ ∃ i < n, ¬ (D i).Ok)

set_option maxHeartbeats 1000000 in
theorem checkNumbers_any (n : Nat) (D : Nat → DV) (R : Nat) (w : World) (E : Int) (hn : n ≤ 100) (hD : Hid (∀ i < n, At w R (i * 2) (D i))) (hok : Hid (Fine D n E)) :
    Calls Try.prog 51 #[.slice (some ⟨R, 0, none⟩) n n] w fun e w' => e = .returned (.int .i64 E) ∧ Below w.heap.size w w' := by
  go_enter Try.func51, Try.ntmps51
  go_wp2
  go_loopw [8] (fun i wr => ∃ k : Nat, k ≤ n ∧ i = .int .i64 k ∧ Hid (∀ i < k, (D i).Ok) ∧ Below w.heap.size w wr) (fun i _ => n - (intOf i).toNat)
  case atStart => exact ⟨0, Nat.zero_le _, rfl, fun i hi => absurd hi (by omega), Below.refl _ _⟩
  case round =>
    obtain ⟨k, hk, rfl, hpre, hb⟩ := hrel
    by_cases hlt : k < n
    · have hd := Lib.hid ((hD.out k hlt).later hb)
      obtain ⟨hd0, hd1⟩ := id hd.out
      by_cases ho : (D k).Ok
      · have HO := Lib.hid ho
        clear ho
        go_wp2_with fail
        refine (check_any (D k) _ 0 (.inl ⟨HO.out, rfl⟩)).mono ?_
        rintro e w1 ⟨rfl, b1⟩
        have hb1 := (hb.alloc hb.size (.cells #[.int .i64 (D k).m, .int .i64 (D k).s] 40)).trans (b1.mono (by simp; have := hb.size; omega))
        go_wp2
        go_roundw
        case rel => exact ⟨k + 1, by omega, by go_num, pre_succ hpre.out HO.out, hb1⟩
        case measure => simp [intOf]; omega
      · have HO := Lib.hid ho
        clear ho
        obtain rfl : E = 1 := by
          rcases hok.out with ⟨-, h⟩ | ⟨h, -⟩
          · exact absurd (h k hlt) HO.out
          · exact h
        go_wp2_with fail
        refine (check_any (D k) _ 1 (.inr ⟨HO.out, rfl⟩)).mono ?_
        rintro e w1 ⟨rfl, b1⟩
        have hb1 := (hb.alloc hb.size (.cells #[.int .i64 (D k).m, .int .i64 (D k).s] 40)).trans (b1.mono (by simp; have := hb.size; omega))
        go_wp2
        go_ret
        exact ⟨rfl, hb1⟩
    · obtain rfl : E = 0 := by
        rcases hok.out with ⟨h, -⟩ | ⟨-, i, hi, h⟩
        · exact h
        · exact absurd (hpre.out i (by omega)) h
      go_wp2
      go_ret
      exact ⟨rfl, hb⟩

/-- The five variables that a made element has caught, from block B on. -/
def Caught (w : World) (B : Nat) (a b c d l : DV) : Prop := Var w B a ∧ Var w (B + 1) b ∧ Var w (B + 2) c ∧ Var w (B + 3) d ∧ Var w (B + 4) l
theorem Caught.later {w w' : World} {B : Nat} {a b c d l : DV} (h : Caught w B a b c d l) (hb : Below w.heap.size w w') : Caught w' B a b c d l :=
  ⟨h.1.later hb, h.2.1.later hb, h.2.2.1.later hb, h.2.2.2.1.later hb, h.2.2.2.2.later hb⟩
end Go.Proofs.Ytmleoagdelgddaa

