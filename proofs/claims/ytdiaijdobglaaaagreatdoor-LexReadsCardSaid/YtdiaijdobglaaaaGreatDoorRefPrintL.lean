/- RefLift, RefRight, DecVals, RefNV, RefPrint, RefPrintL in one text. -/
import Derived.Test.YtdiaijdobglaaaaGreatDoorRefMake
import Derived.Laws.AppendOwnNone
import Derived.Test.YtdiaijdobglaaaaGreatDoorRefLess
import Derived.Test.YtdiaijdobglaaaaGreatDoorDecSums
import Derived.Test.YtdiaijdobglaaaaGreatDoorRefParse
import Derived.Test.YtdiaijdobglaaaaGreatDoorDecPrint
namespace Go.Proofs.YtdiaijdobglaaaaGreatDoor
open Go.RowKit Dec

def cellNat (o : Option Value) : Nat := match o with | some (.int _ n) => n.toNat | _ => 0

/-- A number that a call answers: a row of its own. -/
def IsRow (b : Bool) (ds : List Int) (s : Int) (w : World) (e : Ending) (w' : World) : Prop :=
  ∃ v, e = .returned (.agg #[.bool b, v, .int .i64 s]) ∧ w'.ownsRow w.heap.size 3 1 v ds.length (ds.map (Value.int .i64)) ∧ Below w.heap.size w w'

end Go.Proofs.YtdiaijdobglaaaaGreatDoor
namespace Go.Proofs.YtdiaijdobglaaaaGreatDoor
open Go.RowKit Dec

theorem ret_bool {a b : Bool} (h : a = b) : Ending.returned (.bool a) = .returned (.bool b) := by rw [h]
theorem tm10 (m : Int) : m.tmod 10 = 0 ↔ m % 10 = 0 := by rw [← Int.dvd_iff_tmod_eq_zero, ← Int.dvd_iff_emod_eq_zero]

set_option maxRecDepth 100000 in
theorem right_any (m s : Int) (w : World) : Calls Tryz.prog 48 #[.agg #[.int .i64 m, .int .i64 s]] w fun e w' => e = .returned (.bool (decide (Valid m s))) ∧ Below w.heap.size w w' := by
  obtain ⟨B, hB⟩ : ∃ B, B = decide (Valid m s) := ⟨_, rfl⟩
  rw [← hB]
  have H := Lib.hid hB
  clear hB
  go_enter Tryz.func48, Tryz.ntmps48
  go_wp2
  all_goals go_ret
  all_goals refine ⟨?_, (Below.refl _ _).alloc (Nat.le_refl _) _⟩
  all_goals rw [H.out]
  all_goals refine ret_bool ?_
  all_goals rw [Bool.eq_iff_iff, decide_eq_true_iff]
  all_goals simp [Valid, tm10]
  all_goals omega

end Go.Proofs.YtdiaijdobglaaaaGreatDoor
namespace Go.Proofs.YtdiaijdobglaaaaGreatDoor
open Go.RowKit Dec

theorem Denotes_valid {v : Int} {t : Nat} {m s e : Int} (h : Denotes v t m s e) : Valid m s ∧ (e = 0 ∨ e = 5) := by
  rcases h with ⟨he, hv, -⟩ | ⟨he, hm, hs, -⟩
  · exact ⟨hv, .inl he⟩
  · subst hm; subst hs; exact ⟨by decide, .inr he⟩

theorem neg_val (m s : Int) : val9 m s + val9 (-m) s = 0 := by unfold val9; rw [Int.neg_mul]; omega

theorem den_zero : Denotes 0 9 0 0 0 := den_ok (by decide) (by decide)

theorem valid_neg {m s : Int} (h : Valid m s) : Valid (-m) s := by
  obtain ⟨a, b, c, d, e⟩ := h
  exact ⟨by omega, by omega, c, d, by omega⟩

theorem ten_scale {m : Int} {s : Nat} {M S E : Int} (h : Denotes m s M S E) : Denotes (10 * m) (s + 1) M S E :=
  h.scale (by rw [Int.pow_succ, Int.mul_comm 10 m, Int.mul_assoc, Int.mul_comm 10])

theorem make_told (m : Int) (s : Nat) : ∃ M S E, Denotes m s M S E := by
  by_cases hx : (strip s m.natAbs).1 ≤ 999999999999999999 ∧ (strip s m.natAbs).2 ≤ 9
  · by_cases hm : 0 ≤ m
    · exact ⟨((strip s m.natAbs).1 : Int), _, _, den_strip rfl (by simp) (.inr ⟨hm, by omega⟩) rfl (by simpa using hx.1) hx.2⟩
    · exact ⟨-((strip s m.natAbs).1 : Int), _, _, den_strip rfl (by simp) (.inl ⟨by omega, by omega⟩) rfl (by simpa using hx.1) hx.2⟩
  · exact ⟨0, 0, 5, den_over rfl (by omega)⟩

theorem val_inj {m s m' s' : Int} (hv : Valid m s) (hv' : Valid m' s') (h : val9 m s = val9 m' s') : m = m' ∧ s = s' := by
  obtain ⟨s, rfl⟩ : ∃ n : Nat, s = n := ⟨s.toNat, by have := hv.2.2.1; omega⟩
  obtain ⟨s', rfl⟩ : ∃ n : Nat, s' = n := ⟨s'.toNat, by have := hv'.2.2.1; omega⟩
  have h9 := hv.2.2.2.1
  have h9' := hv'.2.2.2.1
  refine valid_unique hv hv' ?_
  unfold val9 at h
  rw [Int.toNat_natCast, Int.toNat_natCast] at h ⊢
  have e1 : m * 10 ^ s' * 10 ^ 9 = m * p10 (9 - s) * 10 ^ (s + s') := by
    show m * p10 s' * p10 9 = m * p10 (9 - s) * p10 (s + s')
    rw [Int.mul_assoc, Int.mul_assoc, ← p10_add, ← p10_add, show s' + 9 = 9 - s + (s + s') by omega]
  have e2 : m' * 10 ^ s * 10 ^ 9 = m' * p10 (9 - s') * 10 ^ (s + s') := by
    show m' * p10 s * p10 9 = m' * p10 (9 - s') * p10 (s + s')
    rw [Int.mul_assoc, Int.mul_assoc, ← p10_add, ← p10_add, show s + 9 = 9 - s' + (s + s') by omega]
  refine Int.eq_of_mul_eq_mul_right (Int.ne_of_gt (pow_pos10 9)) ?_
  rw [e1, e2, h]

theorem val_of_den {v m s : Int} (h : Denotes v 9 m s 0) : val9 m s = v := by
  rcases h with ⟨_, hv, h⟩ | ⟨h, _⟩
  · obtain ⟨s, rfl⟩ : ∃ n : Nat, s = n := ⟨s.toNat, by have := hv.2.2.1; omega⟩
    have h9 := hv.2.2.2.1
    unfold val9
    rw [Int.toNat_natCast] at h ⊢
    refine Int.eq_of_mul_eq_mul_right (Int.ne_of_gt (pow_pos10 s)) ?_
    rw [← h]
    show m * p10 (9 - s) * p10 s = m * p10 9
    rw [Int.mul_assoc, ← p10_add, show 9 - s + s = 9 by omega]
  · cases h

theorem sign_val {m s : Int} : (m < 0 ↔ val9 m s < 0) ∧ (m = 0 ↔ val9 m s = 0) := by
  have hp := p10_pos (9 - s.toNat)
  unfold val9
  rcases Int.lt_trichotomy m 0 with h | h | h
  · have := Int.mul_neg_of_neg_of_pos h (show 0 < p10 (9 - s.toNat) by omega)
    omega
  · subst h; simp
  · have := Int.mul_pos h (show 0 < p10 (9 - s.toNat) by omega)
    omega

theorem val_of_den18 {v m s : Int} (h : Denotes v 18 m s 0) : val9 m s * 10 ^ 9 = v := by
  rcases h with ⟨_, hv, h⟩ | ⟨h, _⟩
  · obtain ⟨s, rfl⟩ : ∃ n : Nat, s = n := ⟨s.toNat, by have := hv.2.2.1; omega⟩
    have h9 := hv.2.2.2.1
    unfold val9
    rw [Int.toNat_natCast] at h ⊢
    refine Int.eq_of_mul_eq_mul_right (Int.ne_of_gt (pow_pos10 s)) ?_
    rw [← h]
    show m * p10 (9 - s) * p10 9 * p10 s = m * p10 18
    rw [Int.mul_assoc, Int.mul_assoc, ← p10_add, ← p10_add, show 9 - s + (9 + s) = 18 by omega]
  · cases h

theorem den_self {m s : Int} (hv : Valid m s) : Denotes (val9 m s) 9 m s 0 := by
  obtain ⟨s, rfl⟩ : ∃ n : Nat, s = n := ⟨s.toNat, by have := hv.2.2.1; omega⟩
  have h9 := hv.2.2.2.1
  refine den_ok hv ?_
  unfold val9
  rw [Int.toNat_natCast]
  show m * p10 9 = m * p10 (9 - s) * p10 s
  rw [Int.mul_assoc, ← p10_add, show 9 - s + s = 9 by omega]

theorem den_zero_added {m s : Int} (hv : Valid m s) : Denotes (val9 m s + val9 0 0) 9 m s 0 := by
  rw [show val9 0 0 = 0 by decide, Int.add_zero]; exact den_self hv

theorem den_one {m s : Int} (hv : Valid m s) : Denotes (val9 m s * val9 1 0) 18 m s 0 := (den_self hv).scale (by
  rw [show val9 1 0 = 10 ^ 9 by decide, Int.mul_assoc]; rfl)
end Go.Proofs.YtdiaijdobglaaaaGreatDoor
namespace Go.Proofs.YtdiaijdobglaaaaGreatDoor
open Go.RowKit Dec

abbrev ivd (ds : List Int) : List Value := ds.map (Value.int .i64)
/-- Block P holds a number: its sign, its digits (the lowest first) in a row of the program's own, how many stand behind the point. -/
def NV (w : World) (P : Nat) (b : Bool) (ds : List Int) (s : Int) (v : Value) (base : Nat) : Prop :=
  Whole w P 64 #[.bool b, v, .int .i64 s] ∧ w.ownsRow base 3 1 v ds.length (ds.map (Value.int .i64))
section
variable {w w' : World} {P : Nat} {b : Bool} {ds : List Int} {s : Int} {v : Value} {base : Nat}
theorem NV.later (h : NV w P b ds s v base) (hb : Below w.heap.size w w') : NV w' P b ds s v base :=
  ⟨h.1.here hb, own_frame h.2 (Fr.of_below hb) (fun g hg e => by have := (own_lt h.2 hg).2.1; omega)⟩
theorem NV.made {v : Value} (h : w.ownsRow base 3 1 v ds.length (ds.map (Value.int .i64))) : NV (w.alloc (.cells #[.bool b, v, .int .i64 s] 64)) w.heap.size b ds s v base :=
  ⟨Whole.made _ _ _, h.alloc _⟩
theorem NV.old (h : NV w P b ds s v base) (o : Obj) : NV (w.alloc o) P b ds s v base := h.later ((Below.refl _ _).alloc (Nat.le_refl _) o)
theorem NV.cells (h : NV w P b ds s v base) : w.cell? ⟨P, 0, none⟩ = some (.bool b) ∧ w.cell? ⟨P, 1, none⟩ = some v ∧ w.cell? ⟨P, 2, none⟩ = some (.int .i64 s) ∧ (∀ i, w.frozen? ⟨P, i, none⟩ = false) ∧ P < w.heap.size :=
  ⟨h.1.reads 0, h.1.reads 1, h.1.reads 2, h.1.thawed, h.1.lt⟩
theorem own_off {xs : List Value} {n : Nat} {cs : Array Value} (h : w.ownsRow base 3 1 v n xs) (hP : Whole w P 64 cs) (x y z : Value) : (((w.setCell ⟨P, 0, none⟩ x).setCell ⟨P, 1, none⟩ y).setCell ⟨P, 2, none⟩ z).ownsRow base 3 1 v n xs :=
  own_frame h ((((Fr.refl (fun k => k = P) w).setB 0 x).setB 1 y).setB 2 z) (fun g hg e => by
    obtain ⟨_, _, cs', hw⟩ := own_lt h hg
    exact hw.apart hP (by decide) e)
/-- Behind a store into it. -/
theorem NV.store (h : NV w P b ds s v base) {b' : Bool} {ds' : List Int} {s' : Int} {v' : Value} {base' : Nat} (ho : w.ownsRow base' 3 1 v' ds'.length (ds'.map (Value.int .i64))) :
    NV (((w.setCell ⟨P, 0, none⟩ (.bool b')).setCell ⟨P, 1, none⟩ v').setCell ⟨P, 2, none⟩ (.int .i64 s')) P b' ds' s' v' base' := by
  refine ⟨?_, own_off ho h.1 _ _ _⟩
  have := ((h.1.set 0 (.bool b')).set 1 v').set 2 (.int .i64 s')
  simpa using this
/-- Behind a store into another one. -/
theorem NV.aside (h : NV w P b ds s v base) {P' : Nat} {cs : Array Value} (hP : Whole w P' 64 cs) (hne : P ≠ P') (x y z : Value) :
    NV (((w.setCell ⟨P', 0, none⟩ x).setCell ⟨P', 1, none⟩ y).setCell ⟨P', 2, none⟩ z) P b ds s v base :=
  ⟨((h.1.away (p := ⟨P', 0, none⟩) hne x).away (p := ⟨P', 1, none⟩) hne y).away (p := ⟨P', 2, none⟩) hne z, own_off h.2 hP _ _ _⟩
theorem NV.row (h : NV w P b ds s v base) : Row w v ds := own_row h.2
theorem NV.reads (h : NV w P b ds s v base) : ReadsD w v ds := row_reads h.row
theorem NV.form (h : NV w P b ds s v base) : ∃ a c, v = .slice a ds.length c := own_slice' h.2
end
theorem whole_away3 {w : World} {g P : Nat} {T : TypeId} {cs : Array Value} (h : Whole w g T cs) (hne : g ≠ P) (x y z : Value) : Whole (((w.setCell ⟨P, 0, none⟩ x).setCell ⟨P, 1, none⟩ y).setCell ⟨P, 2, none⟩ z) g T cs :=
  ((h.away (p := ⟨P, 0, none⟩) hne x).away (p := ⟨P, 1, none⟩) hne y).away (p := ⟨P, 2, none⟩) hne z
theorem below_set3 {w w' : World} {B P : Nat} (h : Below B w w') (hB : B ≤ P) (x y z : Value) : Below B w (((w'.setCell ⟨P, 0, none⟩ x).setCell ⟨P, 1, none⟩ y).setCell ⟨P, 2, none⟩ z) :=
  ((h.setCell (p := ⟨P, 0, none⟩) hB x).setCell (p := ⟨P, 1, none⟩) hB y).setCell (p := ⟨P, 2, none⟩) hB z
/-- The digits of a decimal's number, lifted by k. -/
def lifted (k u : Nat) : List Int := List.replicate k 0 ++ digs u
theorem digs_rep (k : Nat) : Digs (List.replicate k 0) := fun d hd => by
  have := List.eq_of_mem_replicate hd
  omega
theorem num_rep (k : Nat) : num (List.replicate k 0) = 0 := by
  induction k with
  | zero => rfl
  | succ k ih => rw [List.replicate_succ]; show (0 : Int).toNat + 10 * num (List.replicate k 0) = 0; rw [ih]; rfl
theorem lifted_num (k u : Nat) : num (lifted k u) = 10 ^ k * u := by
  unfold lifted
  rw [num_append, num_rep, (num_digs u).1, List.length_replicate, Nat.zero_add]
theorem lifted_digs (k u : Nat) : Digs (lifted k u) := fun d hd => by
  rcases List.mem_append.1 hd with e | e
  · exact digs_rep k d e
  · exact (num_digs u).2 d e
theorem lifted_len (k u : Nat) (hu : u ≤ 999999999999999999) : (lifted k u).length ≤ k + 18 := by
  unfold lifted
  rw [List.length_append, List.length_replicate]
  have := digs_len 18 u (by omega)
  omega
end Go.Proofs.YtdiaijdobglaaaaGreatDoor
namespace Go.Proofs.YtdiaijdobglaaaaGreatDoor
open Go.RowKit Dec

/-- The places n - 1 to 0 of a number, as bytes. -/
def rowU (u n : Nat) : List UInt8 := (List.range n).map fun t => Lib.dg u (n - 1 - t)
/-- What is printed when the places down to a are done. -/
def outU (sg : List UInt8) (u n s a : Nat) : List UInt8 := sg ++ if a < s then (rowU u n).take (n - s) ++ 46 :: ((rowU u n).take (n - a)).drop (n - s) else (rowU u n).take (n - a)
theorem digs_at (u j : Nat) : digitAt (digs u) j = ((u / 10 ^ j % 10 : Nat) : Int) := by
  rw [digitAt_nat]
  induction j generalizing u with
  | zero =>
    by_cases h : u = 0
    · subst h; rw [digs_zero]; rfl
    · rw [digs_pos h]; simp
  | succ j ih =>
    by_cases h : u = 0
    · subst h; rw [digs_zero]; simp
    · rw [digs_pos h]
      show (digs (u / 10)).getD j 0 = _
      rw [ih, Nat.div_div_eq_div_mul, Nat.pow_succ, Nat.mul_comm]
theorem rowU_len (u n : Nat) : (rowU u n).length = n := by simp [rowU]
theorem rowU_snoc (u n p : Nat) (h : p < n) : (rowU u n).take (n - p) = (rowU u n).take (n - (p + 1)) ++ [Lib.dg u p] := by
  have e : n - p = n - (p + 1) + 1 := by omega
  rw [e, List.take_succ_eq_append_getElem (by rw [rowU_len]; omega)]
  congr 2
  simp only [rowU, List.getElem_map, List.getElem_range]
  congr 1
  omega
theorem outU_step (sg : List UInt8) (u n s p : Nat) (hp : p < n) (hs : s < n) : outU sg u n s p = (if p + 1 = s then outU sg u n s (p + 1) ++ [46] else outU sg u n s (p + 1)) ++ [Lib.dg u p] := by
  unfold outU
  rw [rowU_snoc u n p hp]
  by_cases h1 : p + 1 = s
  · rw [if_pos h1, if_pos (by omega), if_neg (by omega), List.drop_append_of_le_length (by rw [List.length_take, rowU_len]; omega), h1, List.drop_eq_nil_of_le (by rw [List.length_take, rowU_len]; omega)]
    simp
  · rw [if_neg h1]
    by_cases h2 : p + 1 < s
    · rw [if_pos (by omega), if_pos h2, List.drop_append_of_le_length (by rw [List.length_take, rowU_len]; omega)]
      simp
    · rw [if_neg (by omega), if_neg h2, List.append_assoc]
theorem outU_start {sg l : List UInt8} {u n s : Nat} (h : sg = l) (hs : s < n) : l = outU sg u n s n := by
  subst h
  unfold outU
  rw [if_neg (by omega), Nat.sub_self]
  simp
theorem outU_len (sg : List UInt8) (u n s a : Nat) : (outU sg u n s a).length ≤ sg.length + n + 1 := by
  unfold outU
  split
  all_goals simp [rowU_len]
  all_goals omega
theorem sign_len (m : Int) : (signL m).length ≤ 1 := by unfold signL; split <;> simp
theorem one_str (k : Nat) (hk : k ≤ 9) (w : World) :
    (convert 22 9 (.slice (some ⟨w.heap.size, 0, none⟩) 1 1)).run Tryz.prog (w.alloc (.cells #[.int .u8 (48 + (k : Int))] 5)) = .ok (.string ⟨#[UInt8.ofNat (48 + k)]⟩) (w.alloc (.cells #[.int .u8 (48 + (k : Int))] 5)) := by
  refine run_convert_bytes_back (P := Tryz.prog) _ 22 9 5 ⟨w.heap.size, 0, none⟩ 1 [UInt8.ofNat (48 + k)] Tryz.underlying22 Tryz.underlying5 Tryz.underlying9 (fun j hj => ?_)
  obtain rfl : j = 0 := by simpa using hj
  have h := (Whole.made w 5 #[.int .u8 (48 + (k : Int))]).reads 0
  have e : ([UInt8.ofNat (48 + k)][0].toNat : Int) = 48 + (k : Int) := by
    simp only [List.getElem_cons_zero, UInt8.toNat_ofNat']
    omega
  rw [e]
  exact h
theorem refprint_bad (m s : Int) (w : World) (hv : ¬ Valid m s) :
    Calls Tryz.prog 25 #[.agg #[.int .i64 m, .int .i64 s]] w fun e w' => e = .returned (.tuple #[.string ⟨#[]⟩, .int .i64 1]) ∧ Below w.heap.size w w' := by
  have hd : decide (Valid m s) = false := decide_eq_false hv
  have HD := Lib.hid hd
  clear hv hd
  go_enter Tryz.func25, Tryz.ntmps25
  go_wp2_with fail
  refine (right_any m s _).mono ?_
  rintro e w1 ⟨rfl, hb⟩
  rw [HD.out]
  have HB := Lib.hid (((Below.refl w.heap.size w).alloc (Nat.le_refl _) (.cells #[.int .i64 m, .int .i64 s] 25)).trans (hb.mono (by simp)))
  clear hb
  go_wp2_with fail
  go_ret2
  exact ⟨rfl, HB.out⟩
set_option maxRecDepth 100000 in
set_option maxHeartbeats 4000000 in
theorem refprint_ok (m : Int) (s : Nat) (w : World) (hv : Valid m s) :
    Calls Tryz.prog 25 #[.agg #[.int .i64 m, .int .i64 s]] w (IsText (outU (signL m) m.natAbs (max (digs m.natAbs).length (s + 1)) s 0) w) := by
  have hd : decide (Valid m s) = true := decide_eq_true hv
  have HD := Lib.hid hd
  have h1 := hv.1
  have h2 := hv.2.1
  have h5 := hv.2.2.2.1
  have hlen6 : (digs m.natAbs).length ≤ 18 := digs_len 18 _ (by omega)
  have hwA := Whole.made w 25 #[.int .i64 m, .int .i64 s]
  have HWA := Lib.hid hwA
  clear hv hd hwA
  go_enter Tryz.func25, Tryz.ntmps25
  go_wp2_with fail
  refine (right_any m s _).mono ?_
  rintro e w1 ⟨rfl, hb⟩
  rw [HD.out]
  have hA1 := HWA.out.here hb
  have a0 : w1.cell? ⟨w.heap.size, 0, none⟩ = some (.int .i64 m) := hA1.reads 0
  have a1 : w1.cell? ⟨w.heap.size, 1, none⟩ = some (.int .i64 s) := hA1.reads 1
  have la := hA1.lt
  have HB := Lib.hid (((Below.refl w.heap.size w).alloc (Nat.le_refl _) (.cells #[.int .i64 m, .int .i64 s] 25)).trans (hb.mono (by simp)))
  clear hb hA1 HWA
  go_wp2_with fail
  refine (of_num m s _ (by omega)).mono ?_
  rintro e w3 ⟨v3, rfl, hown, hb⟩
  obtain ⟨av3, cv3, rfl⟩ := own_slice' hown
  clear a0 a1 la
  go_upto_region 4 with fail
  have hNV : NV (w3.alloc (.cells #[.bool (decide (m < 0)), .slice av3 (digs m.natAbs).length cv3, .int .i64 s] 64)) w3.heap.size (decide (m < 0)) (digs m.natAbs) s (.slice av3 (digs m.natAbs).length cv3) _ := NV.made hown
  have hbb := HB.out.trans (hb.mono HB.out.size)
  have HN := Lib.hid (And.intro hNV (hbb.alloc hbb.size (.cells #[.bool (decide (m < 0)), .slice av3 (digs m.natAbs).length cv3, .int .i64 s] 64)))
  generalize hW4 : w3.alloc (.cells #[.bool (decide (m < 0)), .slice av3 (digs m.natAbs).length cv3, .int .i64 s] 64) = W4 at *
  clear hW4 hNV hbb hb hown HB
  generalize w3.heap.size = P4 at *
  have hda := digs_at m.natAbs
  have HDA := Lib.hid hda
  clear hda
  obtain ⟨c0, c1, c2, -, lc⟩ := HN.out.1.cells
  generalize hX : digs m.natAbs = X at *
  have hmx : (max (X.length : Int) ((s : Int) + 1)) = ((max X.length (s + 1) : Nat) : Int) := by omega
  have hmx2 : max X.length (s + 1) ≤ 20 := by omega
  have hnum := (num_digs m.natAbs).2
  rw [hX] at hnum
  have HX := Lib.hid (And.intro hX hnum)
  clear hX hnum
  generalize hn : max X.length (s + 1) = n at *
  have hsn : s < n := by omega
  generalize hbn : decide (m < 0) = bn at *
  have HBN := Lib.hid hbn
  clear hbn
  cases bn
  all_goals
    have hsg : signL m = if m < 0 then [45] else [] := rfl
    have HSG := Lib.hid hsg
    clear hsg
    go_wp2_with fail
    go_loopw [5, 6] (fun sv av wr => ∃ (a : Nat) (r : ByteArray), a ≤ n ∧ av = .int .i64 ((a : Int) - 1) ∧ sv = .string r ∧ Hid (r.data.toList = outU (signL m) m.natAbs n s a) ∧ Below W4.heap.size W4 wr) (fun _ av _ => (intOf av + 1).toNat)
    case atStart => first | exact ⟨n, _, Nat.le_refl _, rfl, rfl, Lib.hid (outU_start (HSG.out.trans (if_pos (of_decide_eq_true HBN.out))) hsn), Below.refl _ _⟩ | exact ⟨n, _, Nat.le_refl _, rfl, rfl, Lib.hid (outU_start (HSG.out.trans (if_neg (of_decide_eq_false HBN.out))) hsn), Below.refl _ _⟩
    case round =>
      obtain ⟨a, r, ha, rfl, rfl, HT, hb⟩ := hrel
      have hnv := HN.out.1.later hb
      obtain ⟨d0, d1, d2, -, ld⟩ := hnv.cells
      have HB := Lib.hid hb
      have hsz : r.size ≤ 23 := by rw [Lib.size_eq, HT.out]; have := outU_len (signL m) m.natAbs n s a; have := sign_len m; omega
      by_cases ha0 : 0 < a
      · obtain ⟨p, rfl⟩ : ∃ p, a = p + 1 := ⟨a - 1, by omega⟩
        have hst := outU_step (signL m) m.natAbs n s p (by omega) hsn
        have hdd : digitAt X p = ((m.natAbs / 10 ^ p % 10 : Nat) : Int) := HDA.out p
        have hcall := digit_ok _ X p wr hnv.reads (by omega)
        have hdg : Lib.dg m.natAbs p = UInt8.ofNat (48 + m.natAbs / 10 ^ p % 10) := rfl
        rw [hdd] at hcall
        have hk9 : m.natAbs / 10 ^ p % 10 ≤ 9 := by omega
        clear hdd hnv
        generalize m.natAbs / 10 ^ p % 10 = k at *
        have hcv := one_str k hk9 wr
        generalize UInt8.ofNat (48 + k) = x at *
        rw [hdg] at hst
        have HC := Lib.hid (And.intro hcall hst)
        clear hcall hst hb hdg
        have hal := HB.out.alloc HB.out.size (.cells #[.int .u8 (48 + (k : Int))] 5)
        have HL := Lib.hid hal
        clear hal
        rw [show ((p + 1 : Nat) : Int) - 1 = p by omega]
        by_cases hps : p + 1 = s
        · have hb0 : ((p : Int) == (s : Int) - 1) = true := by rw [beq_iff_eq]; omega
          have hsz2 : (r ++ ⟨#[46]⟩ : ByteArray).size ≤ 24 := by rw [ByteArray.size_append]; show r.size + 1 ≤ 24; omega
          go_wp2_with fail
          refine HC.out.1.mono ?_
          rintro e w5 ⟨rfl, rfl⟩
          go_wp2_with fail
          have hs' : Hid ((r ++ ⟨#[46]⟩ ++ ⟨#[x]⟩ : ByteArray).data.toList = outU (signL m) m.natAbs n s p) := Lib.hid (by
            rw [HC.out.2, if_pos hps, Joins.data_append, Joins.data_append, HT.out])
          go_roundw
          case rel => exact ⟨p, _, by omega, rfl, rfl, hs', HL.out⟩
          case measure => simp [intOf]
        · have hb0 : ((p : Int) == (s : Int) - 1) = false := by rw [beq_eq_false_iff_ne]; omega
          go_wp2_with fail
          refine HC.out.1.mono ?_
          rintro e w5 ⟨rfl, rfl⟩
          go_wp2_with fail
          have hs' : Hid ((r ++ ⟨#[x]⟩ : ByteArray).data.toList = outU (signL m) m.natAbs n s p) := Lib.hid (by
            rw [HC.out.2, if_neg hps, Joins.data_append, HT.out])
          go_roundw
          case rel => exact ⟨p, _, by omega, rfl, rfl, hs', HL.out⟩
          case measure => simp [intOf]
      · obtain rfl : a = 0 := by omega
        go_wp2_with fail
        go_ret2
        exact ⟨r, rfl, HT.out, HN.out.2.trans (HB.out.mono HN.out.2.size)⟩
end Go.Proofs.YtdiaijdobglaaaaGreatDoor
namespace Go.Proofs.YtdiaijdobglaaaaGreatDoor
open Go.RowKit Dec

theorem rowU_succ (u n : Nat) : rowU u (n + 1) = Lib.dg u n :: rowU u n := by
  unfold rowU
  rw [List.range_succ_eq_map, List.map_cons, List.map_map]
  congr 1
  apply List.map_congr_left
  intro t _
  show Lib.dg u (n + 1 - 1 - (t + 1)) = _
  congr 1
  omega
theorem dg_high {u n : Nat} (h : Lib.nDigits u ≤ n) : Lib.dg u n = 48 := by
  unfold Lib.dg
  have h1 := Lib.lt_pow_nDigits u
  have h2 : 10 ^ Lib.nDigits u ≤ 10 ^ n := Nat.pow_le_pow_right (by decide) h
  rw [Nat.div_eq_of_lt (by omega)]
  rfl
theorem rowU_rep (u k : Nat) : rowU u (Lib.nDigits u + k) = Lib.repeatL [48] k ++ Lib.decDigits u := by
  induction k with
  | zero => rw [Lib.decDigits_eq]; rfl
  | succ k ih =>
    rw [← Nat.add_assoc, rowU_succ, ih, dg_high (by omega)]
    rfl
theorem digs_count (u : Nat) (h : u ≠ 0) : (digs u).length = Lib.nDigits u := by
  induction u using Nat.strongRecOn with
  | _ u ih =>
    rw [digs_pos h, List.length_cons]
    by_cases h1 : u < 10
    · rw [Nat.div_eq_of_lt h1, digs_zero, Lib.nDigits_small h1]; rfl
    · rw [Lib.nDigits_big h1, ih (u / 10) (by omega) (by omega)]
theorem outU_print (m : Int) (s : Nat) : outU (signL m) m.natAbs (max (digs m.natAbs).length (s + 1)) s 0 = printL m s := by
  have hn : max (digs m.natAbs).length (s + 1) = Lib.nDigits m.natAbs + (s + 1 - (Lib.decDigits m.natAbs).length) := by
    rw [Lib.decDigits_length]
    have h1 := Lib.nDigits_pos m.natAbs
    by_cases h : m.natAbs = 0
    · have h2 : Lib.nDigits m.natAbs = 1 := Lib.nDigits_small (by omega)
      have h3 : (digs m.natAbs).length = 0 := by rw [h, digs_zero]; rfl
      omega
    · rw [digs_count _ h]; omega
  rw [hn]
  have hr : rowU m.natAbs (Lib.nDigits m.natAbs + (s + 1 - (Lib.decDigits m.natAbs).length)) = rowL m s := rowU_rep _ _
  have hl : (rowL m s).length = Lib.nDigits m.natAbs + (s + 1 - (Lib.decDigits m.natAbs).length) := by rw [← hr, rowU_len]
  unfold outU printL
  rw [← hl] at hr ⊢
  rw [hr, Nat.sub_zero, List.take_length]
  by_cases h0 : s = 0
  · subst h0
    rw [if_neg (by omega), if_pos rfl]
    have h1 := Lib.nDigits_pos m.natAbs
    unfold rowL
    rw [Lib.decDigits_length, show 0 + 1 - Lib.nDigits m.natAbs = 0 by omega]
    rfl
  · rw [if_pos (by omega), if_neg h0]
theorem refprint_is (m : Int) (s : Nat) (w : World) (hv : Valid m s) :
    Calls Tryz.prog 25 #[.agg #[.int .i64 m, .int .i64 s]] w (IsText (printL m s) w) := by
  rw [← outU_print]
  exact refprint_ok m s w hv
end Go.Proofs.YtdiaijdobglaaaaGreatDoor
