/- A number that lies in a variable of the reference's, its digits in a row of their own. -/
import Derived.Test.YtpdjooeogpidhaaRefRight
import Derived.Test.YtpdjooeogpidhaaRefParse
import Derived.Test.YtpdjooeogpidhaaDecVals
namespace Go.Proofs.Ytpdjooeogpidhaa
open Go.RowKit Dec

abbrev ivd (ds : List Int) : List Value := ds.map (Value.int .i64)
/-- Block P holds a number: its sign, its digits (the lowest first) in a row of the program's own, how many stand behind the point. -/
def NV (w : World) (P : Nat) (b : Bool) (ds : List Int) (s : Int) (v : Value) (base : Nat) : Prop :=
  Whole w P 90 #[.bool b, v, .int .i64 s] ∧ w.ownsRow base 3 1 v ds.length (ds.map (Value.int .i64))
section
variable {w w' : World} {P : Nat} {b : Bool} {ds : List Int} {s : Int} {v : Value} {base : Nat}
theorem NV.later (h : NV w P b ds s v base) (hb : Below w.heap.size w w') : NV w' P b ds s v base :=
  ⟨h.1.here hb, own_frame h.2 (Fr.of_below hb) (fun g hg e => by have := (own_lt h.2 hg).2.1; omega)⟩
theorem NV.made {v : Value} (h : w.ownsRow base 3 1 v ds.length (ds.map (Value.int .i64))) : NV (w.alloc (.cells #[.bool b, v, .int .i64 s] 90)) w.heap.size b ds s v base :=
  ⟨Whole.made _ _ _, h.alloc _⟩
theorem NV.old (h : NV w P b ds s v base) (o : Obj) : NV (w.alloc o) P b ds s v base := h.later ((Below.refl _ _).alloc (Nat.le_refl _) o)
theorem NV.cells (h : NV w P b ds s v base) : w.cell? ⟨P, 0, none⟩ = some (.bool b) ∧ w.cell? ⟨P, 1, none⟩ = some v ∧ w.cell? ⟨P, 2, none⟩ = some (.int .i64 s) ∧ (∀ i, w.frozen? ⟨P, i, none⟩ = false) ∧ P < w.heap.size :=
  ⟨h.1.reads 0, h.1.reads 1, h.1.reads 2, h.1.thawed, h.1.lt⟩
theorem own_off {xs : List Value} {n : Nat} {cs : Array Value} (h : w.ownsRow base 3 1 v n xs) (hP : Whole w P 90 cs) (x y z : Value) : (((w.setCell ⟨P, 0, none⟩ x).setCell ⟨P, 1, none⟩ y).setCell ⟨P, 2, none⟩ z).ownsRow base 3 1 v n xs :=
  own_frame h ((((Fr.refl (fun k => k = P) w).setB 0 x).setB 1 y).setB 2 z) (fun g hg e => by
    obtain ⟨_, _, cs', hw⟩ := own_lt h hg
    exact hw.apart hP (by decide) e)
/-- Behind a store into it. -/
theorem NV.store (h : NV w P b ds s v base) {b' : Bool} {ds' : List Int} {s' : Int} {v' : Value} {base' : Nat} (ho : w.ownsRow base' 3 1 v' ds'.length (ds'.map (Value.int .i64))) :
    NV (((w.setCell ⟨P, 0, none⟩ (.bool b')).setCell ⟨P, 1, none⟩ v').setCell ⟨P, 2, none⟩ (.int .i64 s')) P b' ds' s' v' base' := by
  refine ⟨?_, own_off ho h.1 _ _ _⟩
  have := ((h.1.set 0 (.bool b')).set 1 v').set 2 (.int .i64 s')
  simpa using this
/-- Behind a store into another one. -/
theorem NV.aside (h : NV w P b ds s v base) {P' : Nat} {cs : Array Value} (hP : Whole w P' 90 cs) (hne : P ≠ P') (x y z : Value) :
    NV (((w.setCell ⟨P', 0, none⟩ x).setCell ⟨P', 1, none⟩ y).setCell ⟨P', 2, none⟩ z) P b ds s v base :=
  ⟨((h.1.away (p := ⟨P', 0, none⟩) hne x).away (p := ⟨P', 1, none⟩) hne y).away (p := ⟨P', 2, none⟩) hne z, own_off h.2 hP _ _ _⟩
theorem NV.row (h : NV w P b ds s v base) : Row w v ds := own_row h.2
theorem NV.reads (h : NV w P b ds s v base) : Reads w v ds := row_reads h.row
theorem NV.form (h : NV w P b ds s v base) : ∃ a c, v = .slice a ds.length c := own_slice' h.2
end
theorem whole_away3 {w : World} {g P : Nat} {T : TypeId} {cs : Array Value} (h : Whole w g T cs) (hne : g ≠ P) (x y z : Value) : Whole (((w.setCell ⟨P, 0, none⟩ x).setCell ⟨P, 1, none⟩ y).setCell ⟨P, 2, none⟩ z) g T cs :=
  ((h.away (p := ⟨P, 0, none⟩) hne x).away (p := ⟨P, 1, none⟩) hne y).away (p := ⟨P, 2, none⟩) hne z
theorem below_set3 {w w' : World} {B P : Nat} (h : Below B w w') (hB : B ≤ P) (x y z : Value) : Below B w (((w'.setCell ⟨P, 0, none⟩ x).setCell ⟨P, 1, none⟩ y).setCell ⟨P, 2, none⟩ z) :=
  ((h.setCell (p := ⟨P, 0, none⟩) hB x).setCell (p := ⟨P, 1, none⟩) hB y).setCell (p := ⟨P, 2, none⟩) hB z
/-- The digits of a decimal's number, lifted by k. -/
def lifted (k u : Nat) : List Int := List.replicate k 0 ++ digs u
theorem digs_rep (k : Nat) : Digs (List.replicate k 0) := fun d hd => by
  have := List.eq_of_mem_replicate hd
  omega
theorem num_rep (k : Nat) : num (List.replicate k 0) = 0 := by
  induction k with
  | zero => rfl
  | succ k ih => rw [List.replicate_succ]; show (0 : Int).toNat + 10 * num (List.replicate k 0) = 0; rw [ih]; rfl
theorem lifted_num (k u : Nat) : num (lifted k u) = 10 ^ k * u := by
  unfold lifted
  rw [num_append, num_rep, (num_digs u).1, List.length_replicate, Nat.zero_add]
theorem lifted_digs (k u : Nat) : Digs (lifted k u) := fun d hd => by
  rcases List.mem_append.1 hd with e | e
  · exact digs_rep k d e
  · exact (num_digs u).2 d e
theorem lift_is (b : Bool) (v : Value) (u s t : Nat) (w : World) (hv : Row w v (digs u)) (hu : u ≤ 999999999999999999) (hs : s ≤ 1000) (ht : t ≤ 1000) :
    Calls Try.prog 64 #[.agg #[.bool b, v, .int .i64 s], .int .i64 t] w (IsRow b (lifted (t - s) u) (max s t : Nat) w) :=
  lift_any b v (digs u) s t w hv (by have := digs_len 18 u (by omega); omega) hs ht
theorem lifted_len (k u : Nat) (hu : u ≤ 999999999999999999) : (lifted k u).length ≤ k + 18 := by
  unfold lifted
  rw [List.length_append, List.length_replicate]
  have := digs_len 18 u (by omega)
  omega
end Go.Proofs.Ytpdjooeogpidhaa
