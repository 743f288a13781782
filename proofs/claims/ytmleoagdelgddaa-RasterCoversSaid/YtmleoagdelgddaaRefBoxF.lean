/- The reference's Right of a matrix: the walk. -/
import Derived.Test.YtmleoagdelgddaaRefNV
import Derived.Test.YtmleoagdelgddaaMatMath
import Derived.Test.YtmleoagdelgddaaMem
import Derived.Test.YtmleoagdelgddaaRefMul
import Derived.Test.YtmleoagdelgddaaBoxWalkA
import Derived.Test.YtmleoagdelgddaaRegionS
import Derived.Test.YtmleoagdelgddaaBoxOf
namespace Go.Proofs.Ytmleoagdelgddaa
open Go.RowKit Dec

theorem right_is (d : DV) (B : Bool) (hB : decide d.Ok = B) (w : World) : Calls Try.prog 61 #[.agg #[.int .i64 d.m, .int .i64 d.s]] w fun e w' => e = .returned (.bool B) ∧ Below w.heap.size w w' := by
  subst hB
  exact right_any d.m d.s w
set_option maxRecDepth 100000 in
set_option maxHeartbeats 4000000 in
theorem mright_any (m : MV) (w : World) (E : Bool) (h : decide m.Ok = E) : Calls Try.prog 41 #[.agg #[.int .i64 m.a.m, .int .i64 m.a.s, .int .i64 m.b.m, .int .i64 m.b.s, .int .i64 m.c.m, .int .i64 m.c.s, .int .i64 m.d.m, .int .i64 m.d.s, .int .i64 m.e.m, .int .i64 m.e.s, .int .i64 m.f.m, .int .i64 m.f.s]] w fun e w' => e = .returned (.bool E) ∧ Below w.heap.size w w' := by
  have H := Lib.hid (And.intro (Whole.made w 42 #[.int .i64 m.a.m, .int .i64 m.a.s, .int .i64 m.b.m, .int .i64 m.b.s, .int .i64 m.c.m, .int .i64 m.c.s, .int .i64 m.d.m, .int .i64 m.d.s, .int .i64 m.e.m, .int .i64 m.e.s, .int .i64 m.f.m, .int .i64 m.f.s]) ((Below.refl w.heap.size w).alloc (Nat.le_refl _) (.cells #[.int .i64 m.a.m, .int .i64 m.a.s, .int .i64 m.b.m, .int .i64 m.b.s, .int .i64 m.c.m, .int .i64 m.c.s, .int .i64 m.d.m, .int .i64 m.d.s, .int .i64 m.e.m, .int .i64 m.e.s, .int .i64 m.f.m, .int .i64 m.f.s] 42)))
  have HE := Lib.hid h
  clear h
  go_enter Try.func41, Try.ntmps41
  go_wp2_with fail
  by_cases h0 : m.a.Ok
  rotate_left
  · obtain rfl : false = E := by rw [← HE.out]; exact (decide_eq_false (fun k : m.Ok => h0 k.1)).symm
    refine (right_is m.a false (decide_eq_false h0) _).mono ?_
    rintro e v ⟨rfl, kk⟩
    have HF := Lib.hid (H.out.2.trans (kk.mono H.out.2.size))
    clear kk HE H h0
    go_wp2_with fail
    go_ret
    exact ⟨rfl, HF.out⟩
  refine (right_is m.a true (decide_eq_true h0) _).mono ?_
  rintro e w0 ⟨rfl, kk⟩
  have H := Lib.hid (And.intro (H.out.1.here kk) (H.out.2.trans (kk.mono H.out.2.size)))
  have G0 := Lib.hid h0
  clear kk h0
  have k0 : w0.cell? ⟨w.heap.size, 2, none⟩ = some (.int .i64 m.b.m) := H.out.1.reads 2
  have k1 : w0.cell? ⟨w.heap.size, 3, none⟩ = some (.int .i64 m.b.s) := H.out.1.reads 3
  have lt := H.out.1.lt
  go_wp2_with fail
  by_cases h1 : m.b.Ok
  rotate_left
  · obtain rfl : false = E := by rw [← HE.out]; exact (decide_eq_false (fun k : m.Ok => h1 k.2.1)).symm
    refine (right_is m.b false (decide_eq_false h1) _).mono ?_
    rintro e v ⟨rfl, kk⟩
    have HF := Lib.hid (H.out.2.trans (kk.mono H.out.2.size))
    clear kk HE H h1
    go_wp2_with fail
    go_ret
    exact ⟨rfl, HF.out⟩
  refine (right_is m.b true (decide_eq_true h1) _).mono ?_
  rintro e w1 ⟨rfl, kk⟩
  have H := Lib.hid (And.intro (H.out.1.here kk) (H.out.2.trans (kk.mono H.out.2.size)))
  clear k0 k1 lt
  have G1 := Lib.hid h1
  clear kk h1
  have k0 : w1.cell? ⟨w.heap.size, 4, none⟩ = some (.int .i64 m.c.m) := H.out.1.reads 4
  have k1 : w1.cell? ⟨w.heap.size, 5, none⟩ = some (.int .i64 m.c.s) := H.out.1.reads 5
  have lt := H.out.1.lt
  go_wp2_with fail
  by_cases h2 : m.c.Ok
  rotate_left
  · obtain rfl : false = E := by rw [← HE.out]; exact (decide_eq_false (fun k : m.Ok => h2 k.2.2.1)).symm
    refine (right_is m.c false (decide_eq_false h2) _).mono ?_
    rintro e v ⟨rfl, kk⟩
    have HF := Lib.hid (H.out.2.trans (kk.mono H.out.2.size))
    clear kk HE H h2
    go_wp2_with fail
    go_ret
    exact ⟨rfl, HF.out⟩
  refine (right_is m.c true (decide_eq_true h2) _).mono ?_
  rintro e w2 ⟨rfl, kk⟩
  have H := Lib.hid (And.intro (H.out.1.here kk) (H.out.2.trans (kk.mono H.out.2.size)))
  clear k0 k1 lt
  have G2 := Lib.hid h2
  clear kk h2
  have k0 : w2.cell? ⟨w.heap.size, 6, none⟩ = some (.int .i64 m.d.m) := H.out.1.reads 6
  have k1 : w2.cell? ⟨w.heap.size, 7, none⟩ = some (.int .i64 m.d.s) := H.out.1.reads 7
  have lt := H.out.1.lt
  go_wp2_with fail
  by_cases h3 : m.d.Ok
  rotate_left
  · obtain rfl : false = E := by rw [← HE.out]; exact (decide_eq_false (fun k : m.Ok => h3 k.2.2.2.1)).symm
    refine (right_is m.d false (decide_eq_false h3) _).mono ?_
    rintro e v ⟨rfl, kk⟩
    have HF := Lib.hid (H.out.2.trans (kk.mono H.out.2.size))
    clear kk HE H h3
    go_wp2_with fail
    go_ret
    exact ⟨rfl, HF.out⟩
  refine (right_is m.d true (decide_eq_true h3) _).mono ?_
  rintro e w3 ⟨rfl, kk⟩
  have H := Lib.hid (And.intro (H.out.1.here kk) (H.out.2.trans (kk.mono H.out.2.size)))
  clear k0 k1 lt
  have G3 := Lib.hid h3
  clear kk h3
  have k0 : w3.cell? ⟨w.heap.size, 8, none⟩ = some (.int .i64 m.e.m) := H.out.1.reads 8
  have k1 : w3.cell? ⟨w.heap.size, 9, none⟩ = some (.int .i64 m.e.s) := H.out.1.reads 9
  have lt := H.out.1.lt
  go_wp2_with fail
  by_cases h4 : m.e.Ok
  rotate_left
  · obtain rfl : false = E := by rw [← HE.out]; exact (decide_eq_false (fun k : m.Ok => h4 k.2.2.2.2.1)).symm
    refine (right_is m.e false (decide_eq_false h4) _).mono ?_
    rintro e v ⟨rfl, kk⟩
    have HF := Lib.hid (H.out.2.trans (kk.mono H.out.2.size))
    clear kk HE H h4
    go_wp2_with fail
    go_ret
    exact ⟨rfl, HF.out⟩
  refine (right_is m.e true (decide_eq_true h4) _).mono ?_
  rintro e w4 ⟨rfl, kk⟩
  have H := Lib.hid (And.intro (H.out.1.here kk) (H.out.2.trans (kk.mono H.out.2.size)))
  clear k0 k1 lt
  have G4 := Lib.hid h4
  clear kk h4
  have k0 : w4.cell? ⟨w.heap.size, 10, none⟩ = some (.int .i64 m.f.m) := H.out.1.reads 10
  have k1 : w4.cell? ⟨w.heap.size, 11, none⟩ = some (.int .i64 m.f.s) := H.out.1.reads 11
  have lt := H.out.1.lt
  go_wp2_with fail
  by_cases h5 : m.f.Ok
  rotate_left
  · obtain rfl : false = E := by rw [← HE.out]; exact (decide_eq_false (fun k : m.Ok => h5 k.2.2.2.2.2)).symm
    refine (right_is m.f false (decide_eq_false h5) _).mono ?_
    rintro e v ⟨rfl, kk⟩
    have HF := Lib.hid (H.out.2.trans (kk.mono H.out.2.size))
    clear kk HE H h5
    go_wp2_with fail
    go_ret
    exact ⟨rfl, HF.out⟩
  refine (right_is m.f true (decide_eq_true h5) _).mono ?_
  rintro e w5 ⟨rfl, kk⟩
  have H := Lib.hid (And.intro (H.out.1.here kk) (H.out.2.trans (kk.mono H.out.2.size)))
  clear k0 k1 lt
  have G5 := Lib.hid h5
  clear kk h5
  obtain rfl : true = E := by rw [← HE.out]; exact (decide_eq_true (show m.Ok from ⟨G0.out, G1.out, G2.out, G3.out, G4.out, G5.out⟩)).symm
  clear HE
  go_wp2_with fail
  go_ret
  exact ⟨rfl, H.out.2⟩
end Go.Proofs.Ytmleoagdelgddaa
/- The reference's order of two numbers, the lesser, the greater: the walks. -/
namespace Go.Proofs.Ytmleoagdelgddaa
open Go.RowKit Dec

theorem refcompare_ok (a b : DV) (w : World) (ha : a.Ok) (hb : b.Ok) :
    Calls Try.prog 77 #[.agg #[.int .i64 a.m, .int .i64 a.s], .agg #[.int .i64 b.m, .int .i64 b.s]] w fun e w' => e = .returned (.tuple #[.int .i64 (Lib.compareInt a.v b.v), .int .i64 0]) ∧ Below w.heap.size w w' := by
  obtain ⟨am, s⟩ := a
  obtain ⟨bm, s'⟩ := b
  obtain ⟨k, rfl⟩ : ∃ n : Nat, s = n := ⟨s.toNat, by have := ha.2.2.1; simp only at this; omega⟩
  obtain ⟨k', rfl⟩ : ∃ n : Nat, s' = n := ⟨s'.toNat, by have := hb.2.2.1; simp only at this; omega⟩
  exact refcmp_ok am bm k k' w ha hb
theorem upto_yes (a b : DV) (w : World) (c : Int) (h : Hid (a.Ok ∧ b.Ok ∧ Lib.compareInt a.v b.v = c)) (hc : c ≤ 0) :
    Calls Try.prog 62 #[.agg #[.int .i64 a.m, .int .i64 a.s], .agg #[.int .i64 b.m, .int .i64 b.s]] w fun e w' => e = .returned (.bool true) ∧ Below w.heap.size w w' := by
  go_enter Try.func62, Try.ntmps62
  go_wp2_with fail
  refine (refcompare_ok a b _ h.out.1 h.out.2.1).mono ?_
  rw [h.out.2.2]
  rintro e w1 ⟨rfl, hb⟩
  go_wp2
  go_ret
  exact ⟨by simp, by (repeat (first | with_reducible exact Below.refl _ _ | with_reducible refine Below.drew ?_ | with_reducible refine bdrewN ?_ _ | (with_reducible refine Below.setCell ?_ ?_ _; rotate_left; focus (first | exact Nat.le_refl _ | omega | (simp; omega) | (simp; done))) | (with_reducible refine Below.alloc ?_ ?_ _; rotate_left; focus (first | exact Nat.le_refl _ | omega | (simp; omega) | (simp; done))) | (with_reducible refine Below.trans ?_ (Below.mono (by assumption) ?_); rotate_left; focus (first | exact Nat.le_refl _ | omega | (simp; omega) | (simp; done)))))⟩
theorem upto_no (a b : DV) (w : World) (c : Int) (h : Hid (a.Ok ∧ b.Ok ∧ Lib.compareInt a.v b.v = c)) (hc : 0 < c) :
    Calls Try.prog 62 #[.agg #[.int .i64 a.m, .int .i64 a.s], .agg #[.int .i64 b.m, .int .i64 b.s]] w fun e w' => e = .returned (.bool false) ∧ Below w.heap.size w w' := by
  go_enter Try.func62, Try.ntmps62
  go_wp2_with fail
  refine (refcompare_ok a b _ h.out.1 h.out.2.1).mono ?_
  rw [h.out.2.2]
  rintro e w1 ⟨rfl, hb⟩
  go_wp2
  go_ret
  exact ⟨by simp; exact hc, by (repeat (first | with_reducible exact Below.refl _ _ | with_reducible refine Below.drew ?_ | with_reducible refine bdrewN ?_ _ | (with_reducible refine Below.setCell ?_ ?_ _; rotate_left; focus (first | exact Nat.le_refl _ | omega | (simp; omega) | (simp; done))) | (with_reducible refine Below.alloc ?_ ?_ _; rotate_left; focus (first | exact Nat.le_refl _ | omega | (simp; omega) | (simp; done))) | (with_reducible refine Below.trans ?_ (Below.mono (by assumption) ?_); rotate_left; focus (first | exact Nat.le_refl _ | omega | (simp; omega) | (simp; done)))))⟩
theorem upto_any (a b : DV) (w : World) (ha : a.Ok) (hb : b.Ok) (r : Bool) (h : leB a b = r) :
    Calls Try.prog 62 #[.agg #[.int .i64 a.m, .int .i64 a.s], .agg #[.int .i64 b.m, .int .i64 b.s]] w fun e w' => e = .returned (.bool r) ∧ Below w.heap.size w w' := by
  have k := cmp_le a.v b.v
  cases r with
  | true => exact upto_yes a b w _ ⟨ha, hb, rfl⟩ (k.1.2 (leB_iff.1 h).2.2)
  | false => exact upto_no a b w _ ⟨ha, hb, rfl⟩ (k.2.2.2 (Int.lt_of_not_ge fun q => leB_not.1 h ⟨ha, hb, q⟩))

theorem least_any (a b : DV) (w : World) (ha : a.Ok) (hb : b.Ok) :
    Calls Try.prog 67 #[.agg #[.int .i64 a.m, .int .i64 a.s], .agg #[.int .i64 b.m, .int .i64 b.s]] w fun e w' => e = .returned (.agg #[.int .i64 (lesD a b).m, .int .i64 (lesD a b).s]) ∧ Below w.heap.size w w' := by
  cases h : leB a b
  · rw [lesD_no h]
    have H := Lib.hid (And.intro ha (And.intro hb h))
    clear h ha hb
    go_enter Try.func67, Try.ntmps67
    go_wp2_with fail
    refine (upto_any a b _ H.out.1 H.out.2.1 false H.out.2.2).mono ?_
    rintro e w1 ⟨rfl, hb⟩
    obtain ⟨hc, hf⟩ := bcell hb
    have hz := hb.size
    simp at hz
    have l0 : w.heap.size < w1.heap.size := (by omega); have l1 : w.heap.size + 1 < w1.heap.size := (by omega); have l2 : w.heap.size + 1 + 1 < w1.heap.size := (by omega)
    go_wp2
    exact bodyPost_ret (v := .agg #[.int .i64 b.m, .int .i64 b.s]) (by simp [results, Try.results67, go_sem, hc]) rfl ⟨rfl, by (repeat (first | with_reducible exact Below.refl _ _ | with_reducible refine Below.drew ?_ | with_reducible refine bdrewN ?_ _ | (with_reducible refine Below.setCell ?_ ?_ _; rotate_left; focus (first | exact Nat.le_refl _ | omega | (simp; omega) | (simp; done))) | (with_reducible refine Below.alloc ?_ ?_ _; rotate_left; focus (first | exact Nat.le_refl _ | omega | (simp; omega) | (simp; done))) | (with_reducible refine Below.trans ?_ (Below.mono (by assumption) ?_); rotate_left; focus (first | exact Nat.le_refl _ | omega | (simp; omega) | (simp; done)))))⟩
  · rw [lesD_yes h]
    have H := Lib.hid (And.intro ha (And.intro hb h))
    clear h ha hb
    go_enter Try.func67, Try.ntmps67
    go_wp2_with fail
    refine (upto_any a b _ H.out.1 H.out.2.1 true H.out.2.2).mono ?_
    rintro e w1 ⟨rfl, hb⟩
    obtain ⟨hc, hf⟩ := bcell hb
    have hz := hb.size
    simp at hz
    have l0 : w.heap.size < w1.heap.size := (by omega); have l1 : w.heap.size + 1 < w1.heap.size := (by omega); have l2 : w.heap.size + 1 + 1 < w1.heap.size := (by omega)
    go_wp2
    exact bodyPost_ret (v := .agg #[.int .i64 a.m, .int .i64 a.s]) (by simp [results, Try.results67, go_sem, hc]) rfl ⟨rfl, by (repeat (first | with_reducible exact Below.refl _ _ | with_reducible refine Below.drew ?_ | with_reducible refine bdrewN ?_ _ | (with_reducible refine Below.setCell ?_ ?_ _; rotate_left; focus (first | exact Nat.le_refl _ | omega | (simp; omega) | (simp; done))) | (with_reducible refine Below.alloc ?_ ?_ _; rotate_left; focus (first | exact Nat.le_refl _ | omega | (simp; omega) | (simp; done))) | (with_reducible refine Below.trans ?_ (Below.mono (by assumption) ?_); rotate_left; focus (first | exact Nat.le_refl _ | omega | (simp; omega) | (simp; done)))))⟩
theorem most_any (a b : DV) (w : World) (ha : a.Ok) (hb : b.Ok) :
    Calls Try.prog 66 #[.agg #[.int .i64 a.m, .int .i64 a.s], .agg #[.int .i64 b.m, .int .i64 b.s]] w fun e w' => e = .returned (.agg #[.int .i64 (greD a b).m, .int .i64 (greD a b).s]) ∧ Below w.heap.size w w' := by
  cases h : leB a b
  · rw [greD_no h]
    have H := Lib.hid (And.intro ha (And.intro hb h))
    clear h ha hb
    go_enter Try.func66, Try.ntmps66
    go_wp2_with fail
    refine (upto_any a b _ H.out.1 H.out.2.1 false H.out.2.2).mono ?_
    rintro e w1 ⟨rfl, hb⟩
    obtain ⟨hc, hf⟩ := bcell hb
    have hz := hb.size
    simp at hz
    have l0 : w.heap.size < w1.heap.size := (by omega); have l1 : w.heap.size + 1 < w1.heap.size := (by omega); have l2 : w.heap.size + 1 + 1 < w1.heap.size := (by omega)
    go_wp2
    exact bodyPost_ret (v := .agg #[.int .i64 a.m, .int .i64 a.s]) (by simp [results, Try.results66, go_sem, hc]) rfl ⟨rfl, by (repeat (first | with_reducible exact Below.refl _ _ | with_reducible refine Below.drew ?_ | with_reducible refine bdrewN ?_ _ | (with_reducible refine Below.setCell ?_ ?_ _; rotate_left; focus (first | exact Nat.le_refl _ | omega | (simp; omega) | (simp; done))) | (with_reducible refine Below.alloc ?_ ?_ _; rotate_left; focus (first | exact Nat.le_refl _ | omega | (simp; omega) | (simp; done))) | (with_reducible refine Below.trans ?_ (Below.mono (by assumption) ?_); rotate_left; focus (first | exact Nat.le_refl _ | omega | (simp; omega) | (simp; done)))))⟩
  · rw [greD_yes h]
    have H := Lib.hid (And.intro ha (And.intro hb h))
    clear h ha hb
    go_enter Try.func66, Try.ntmps66
    go_wp2_with fail
    refine (upto_any a b _ H.out.1 H.out.2.1 true H.out.2.2).mono ?_
    rintro e w1 ⟨rfl, hb⟩
    obtain ⟨hc, hf⟩ := bcell hb
    have hz := hb.size
    simp at hz
    have l0 : w.heap.size < w1.heap.size := (by omega); have l1 : w.heap.size + 1 < w1.heap.size := (by omega); have l2 : w.heap.size + 1 + 1 < w1.heap.size := (by omega)
    go_wp2
    exact bodyPost_ret (v := .agg #[.int .i64 b.m, .int .i64 b.s]) (by simp [results, Try.results66, go_sem, hc]) rfl ⟨rfl, by (repeat (first | with_reducible exact Below.refl _ _ | with_reducible refine Below.drew ?_ | with_reducible refine bdrewN ?_ _ | (with_reducible refine Below.setCell ?_ ?_ _; rotate_left; focus (first | exact Nat.le_refl _ | omega | (simp; omega) | (simp; done))) | (with_reducible refine Below.alloc ?_ ?_ _; rotate_left; focus (first | exact Nat.le_refl _ | omega | (simp; omega) | (simp; done))) | (with_reducible refine Below.trans ?_ (Below.mono (by assumption) ?_); rotate_left; focus (first | exact Nat.le_refl _ | omega | (simp; omega) | (simp; done)))))⟩
end Go.Proofs.Ytmleoagdelgddaa
/- The reference's Right of a box: the walk. -/
namespace Go.Proofs.Ytmleoagdelgddaa
open Go.RowKit Dec

theorem BV.Ok.nums {b : BV} (h : b.Ok) : b.x0.Ok ∧ b.x1.Ok ∧ b.y0.Ok ∧ b.y1.Ok :=
  ⟨(leB_iff.1 h.1).1, (leB_iff.1 h.1).2.1, (leB_iff.1 h.2).1, (leB_iff.1 h.2).2.1⟩
set_option maxRecDepth 100000 in
set_option maxHeartbeats 4000000 in
theorem bright_any (b : BV) (w : World) (E : Bool) (h : decide b.Ok = E) : Calls Try.prog 42 #[b.val] w fun e w' => e = .returned (.bool E) ∧ Below w.heap.size w w' := by
  have H := Lib.hid (And.intro (Whole.made w 52 #[.int .i64 b.x0.m, .int .i64 b.x0.s, .int .i64 b.y0.m, .int .i64 b.y0.s, .int .i64 b.x1.m, .int .i64 b.x1.s, .int .i64 b.y1.m, .int .i64 b.y1.s]) ((Below.refl w.heap.size w).alloc (Nat.le_refl _) (.cells #[.int .i64 b.x0.m, .int .i64 b.x0.s, .int .i64 b.y0.m, .int .i64 b.y0.s, .int .i64 b.x1.m, .int .i64 b.x1.s, .int .i64 b.y1.m, .int .i64 b.y1.s] 52)))
  have HE := Lib.hid h
  clear h
  go_enter Try.func42, Try.ntmps42
  go_wp2_with fail
  by_cases h0 : b.x0.Ok
  rotate_left
  · obtain rfl : false = E := by rw [← HE.out]; exact (decide_eq_false (fun k : b.Ok => h0 k.nums.1)).symm
    refine (right_is b.x0 false (decide_eq_false h0) _).mono ?_
    rintro e v ⟨rfl, kk⟩
    have HF := Lib.hid (H.out.2.trans (kk.mono H.out.2.size))
    clear kk HE H h0
    go_wp2_with fail
    go_ret
    exact ⟨rfl, HF.out⟩
  refine (right_is b.x0 true (decide_eq_true h0) _).mono ?_
  rintro e w0 ⟨rfl, kk⟩
  have H := Lib.hid (And.intro (H.out.1.here kk) (H.out.2.trans (kk.mono H.out.2.size)))
  skip
  have G0 := Lib.hid h0
  clear kk h0
  have k0 : w0.cell? ⟨w.heap.size, 4, none⟩ = some (.int .i64 b.x1.m) := H.out.1.reads 4
  have k1 : w0.cell? ⟨w.heap.size, 5, none⟩ = some (.int .i64 b.x1.s) := H.out.1.reads 5
  have lt := H.out.1.lt
  go_wp2_with fail
  by_cases h1 : b.x1.Ok
  rotate_left
  · obtain rfl : false = E := by rw [← HE.out]; exact (decide_eq_false (fun k : b.Ok => h1 k.nums.2.1)).symm
    refine (right_is b.x1 false (decide_eq_false h1) _).mono ?_
    rintro e v ⟨rfl, kk⟩
    have HF := Lib.hid (H.out.2.trans (kk.mono H.out.2.size))
    clear kk HE H h1
    go_wp2_with fail
    go_ret
    exact ⟨rfl, HF.out⟩
  refine (right_is b.x1 true (decide_eq_true h1) _).mono ?_
  rintro e w1 ⟨rfl, kk⟩
  have H := Lib.hid (And.intro (H.out.1.here kk) (H.out.2.trans (kk.mono H.out.2.size)))
  clear k0 k1 lt
  have G1 := Lib.hid h1
  clear kk h1
  have k0 : w1.cell? ⟨w.heap.size, 2, none⟩ = some (.int .i64 b.y0.m) := H.out.1.reads 2
  have k1 : w1.cell? ⟨w.heap.size, 3, none⟩ = some (.int .i64 b.y0.s) := H.out.1.reads 3
  have lt := H.out.1.lt
  go_wp2_with fail
  by_cases h2 : b.y0.Ok
  rotate_left
  · obtain rfl : false = E := by rw [← HE.out]; exact (decide_eq_false (fun k : b.Ok => h2 k.nums.2.2.1)).symm
    refine (right_is b.y0 false (decide_eq_false h2) _).mono ?_
    rintro e v ⟨rfl, kk⟩
    have HF := Lib.hid (H.out.2.trans (kk.mono H.out.2.size))
    clear kk HE H h2
    go_wp2_with fail
    go_ret
    exact ⟨rfl, HF.out⟩
  refine (right_is b.y0 true (decide_eq_true h2) _).mono ?_
  rintro e w2 ⟨rfl, kk⟩
  have H := Lib.hid (And.intro (H.out.1.here kk) (H.out.2.trans (kk.mono H.out.2.size)))
  clear k0 k1 lt
  have G2 := Lib.hid h2
  clear kk h2
  have k0 : w2.cell? ⟨w.heap.size, 6, none⟩ = some (.int .i64 b.y1.m) := H.out.1.reads 6
  have k1 : w2.cell? ⟨w.heap.size, 7, none⟩ = some (.int .i64 b.y1.s) := H.out.1.reads 7
  have lt := H.out.1.lt
  go_wp2_with fail
  by_cases h3 : b.y1.Ok
  rotate_left
  · obtain rfl : false = E := by rw [← HE.out]; exact (decide_eq_false (fun k : b.Ok => h3 k.nums.2.2.2)).symm
    refine (right_is b.y1 false (decide_eq_false h3) _).mono ?_
    rintro e v ⟨rfl, kk⟩
    have HF := Lib.hid (H.out.2.trans (kk.mono H.out.2.size))
    clear kk HE H h3
    go_wp2_with fail
    go_ret
    exact ⟨rfl, HF.out⟩
  refine (right_is b.y1 true (decide_eq_true h3) _).mono ?_
  rintro e w3 ⟨rfl, kk⟩
  have H := Lib.hid (And.intro (H.out.1.here kk) (H.out.2.trans (kk.mono H.out.2.size)))
  clear k0 k1 lt
  have G3 := Lib.hid h3
  clear kk h3
  have k0 : w3.cell? ⟨w.heap.size, 0, none⟩ = some (.int .i64 b.x0.m) := H.out.1.reads 0
  have k1 : w3.cell? ⟨w.heap.size, 1, none⟩ = some (.int .i64 b.x0.s) := H.out.1.reads 1
  have k2 : w3.cell? ⟨w.heap.size, 4, none⟩ = some (.int .i64 b.x1.m) := H.out.1.reads 4
  have k3 : w3.cell? ⟨w.heap.size, 5, none⟩ = some (.int .i64 b.x1.s) := H.out.1.reads 5
  have lt := H.out.1.lt
  go_wp2_with fail
  by_cases h0 : leB b.x0 b.x1 = true
  rotate_left
  · obtain rfl : false = E := by rw [← HE.out]; exact (decide_eq_false (fun k : b.Ok => h0 k.1)).symm
    refine (upto_any b.x0 b.x1 _ G0.out G1.out false (by simpa using h0)).mono ?_
    rintro e v ⟨rfl, kk⟩
    have HF := Lib.hid (H.out.2.trans (kk.mono H.out.2.size))
    clear kk HE H h0
    go_wp2_with fail
    go_ret
    exact ⟨rfl, HF.out⟩
  refine (upto_any b.x0 b.x1 _ G0.out G1.out true h0).mono ?_
  rintro e w4 ⟨rfl, kk⟩
  have H := Lib.hid (And.intro (H.out.1.here kk) (H.out.2.trans (kk.mono H.out.2.size)))
  clear k0 k1 k2 k3 lt
  have L0 := Lib.hid h0
  clear kk h0
  have k0 : w4.cell? ⟨w.heap.size, 2, none⟩ = some (.int .i64 b.y0.m) := H.out.1.reads 2
  have k1 : w4.cell? ⟨w.heap.size, 3, none⟩ = some (.int .i64 b.y0.s) := H.out.1.reads 3
  have k2 : w4.cell? ⟨w.heap.size, 6, none⟩ = some (.int .i64 b.y1.m) := H.out.1.reads 6
  have k3 : w4.cell? ⟨w.heap.size, 7, none⟩ = some (.int .i64 b.y1.s) := H.out.1.reads 7
  have lt := H.out.1.lt
  go_wp2_with fail
  by_cases h1 : leB b.y0 b.y1 = true
  rotate_left
  · obtain rfl : false = E := by rw [← HE.out]; exact (decide_eq_false (fun k : b.Ok => h1 k.2)).symm
    refine (upto_any b.y0 b.y1 _ G2.out G3.out false (by simpa using h1)).mono ?_
    rintro e v ⟨rfl, kk⟩
    have HF := Lib.hid (H.out.2.trans (kk.mono H.out.2.size))
    clear kk HE H h1
    go_wp2_with fail
    go_ret
    exact ⟨rfl, HF.out⟩
  refine (upto_any b.y0 b.y1 _ G2.out G3.out true h1).mono ?_
  rintro e w5 ⟨rfl, kk⟩
  have H := Lib.hid (And.intro (H.out.1.here kk) (H.out.2.trans (kk.mono H.out.2.size)))
  clear k0 k1 k2 k3 lt
  have L1 := Lib.hid h1
  clear kk h1
  obtain rfl : true = E := by rw [← HE.out]; exact (decide_eq_true (show b.Ok from ⟨L0.out, L1.out⟩)).symm
  clear HE
  go_wp2_with fail
  go_ret
  exact ⟨rfl, H.out.2⟩
end Go.Proofs.Ytmleoagdelgddaa
/- The reference's box around two: the walk. -/
namespace Go.Proofs.Ytmleoagdelgddaa
open Go.RowKit Dec

/-- All four numbers of a box are decimals. -/
structure BV.Nums (b : BV) : Prop where
  x0 : b.x0.Ok
  y0 : b.y0.Ok
  x1 : b.x1.Ok
  y1 : b.y1.Ok
set_option maxRecDepth 100000 in
set_option maxHeartbeats 8000000 in
theorem around_any (a b : BV) (w : World) (ha : a.Nums) (hb : b.Nums) :
    Calls Try.prog 65 #[a.val, b.val] w fun e w' => e = .returned (joinB a b).val ∧ Below w.heap.size w w' := by
  have HN := Lib.hid (And.intro ha hb)
  clear ha hb
  have hA := ((BIn.made w 52 a).old (.cells #[.int .i64 b.x0.m, .int .i64 b.x0.s, .int .i64 b.y0.m, .int .i64 b.y0.s, .int .i64 b.x1.m, .int .i64 b.x1.s, .int .i64 b.y1.m, .int .i64 b.y1.s] 52)).old (.cells #[.int .i64 0, .int .i64 0, .int .i64 0, .int .i64 0, .int .i64 0, .int .i64 0, .int .i64 0, .int .i64 0] 52)
  have hB := (BIn.made (w.alloc (.cells #[.int .i64 a.x0.m, .int .i64 a.x0.s, .int .i64 a.y0.m, .int .i64 a.y0.s, .int .i64 a.x1.m, .int .i64 a.x1.s, .int .i64 a.y1.m, .int .i64 a.y1.s] 52)) 52 b).old (.cells #[.int .i64 0, .int .i64 0, .int .i64 0, .int .i64 0, .int .i64 0, .int .i64 0, .int .i64 0, .int .i64 0] 52)
  have hR := Whole.made ((w.alloc (.cells #[.int .i64 a.x0.m, .int .i64 a.x0.s, .int .i64 a.y0.m, .int .i64 a.y0.s, .int .i64 a.x1.m, .int .i64 a.x1.s, .int .i64 a.y1.m, .int .i64 a.y1.s] 52)).alloc (.cells #[.int .i64 b.x0.m, .int .i64 b.x0.s, .int .i64 b.y0.m, .int .i64 b.y0.s, .int .i64 b.x1.m, .int .i64 b.x1.s, .int .i64 b.y1.m, .int .i64 b.y1.s] 52)) 52 #[.int .i64 0, .int .i64 0, .int .i64 0, .int .i64 0, .int .i64 0, .int .i64 0, .int .i64 0, .int .i64 0]
  have hb0 : Below w.heap.size w (((w.alloc (.cells #[.int .i64 a.x0.m, .int .i64 a.x0.s, .int .i64 a.y0.m, .int .i64 a.y0.s, .int .i64 a.x1.m, .int .i64 a.x1.s, .int .i64 a.y1.m, .int .i64 a.y1.s] 52)).alloc (.cells #[.int .i64 b.x0.m, .int .i64 b.x0.s, .int .i64 b.y0.m, .int .i64 b.y0.s, .int .i64 b.x1.m, .int .i64 b.x1.s, .int .i64 b.y1.m, .int .i64 b.y1.s] 52)).alloc (.cells #[.int .i64 0, .int .i64 0, .int .i64 0, .int .i64 0, .int .i64 0, .int .i64 0, .int .i64 0, .int .i64 0] 52)) := by (repeat (first | with_reducible exact Below.refl _ _ | with_reducible refine Below.drew ?_ | with_reducible refine bdrewN ?_ _ | (with_reducible refine Below.setCell ?_ ?_ _; rotate_left; focus (first | exact Nat.le_refl _ | omega | (simp; omega) | (simp; done))) | (with_reducible refine Below.alloc ?_ ?_ _; rotate_left; focus (first | exact Nat.le_refl _ | omega | (simp; omega) | (simp; done))) | (with_reducible refine Below.trans ?_ (Below.mono (by assumption) ?_); rotate_left; focus (first | exact Nat.le_refl _ | omega | (simp; omega) | (simp; done)))))
  simp only [World.size_alloc] at hB hR
  go_enter Try.func65, Try.ntmps65
  go_wp2_with fail
  generalize ((w.alloc (.cells #[.int .i64 a.x0.m, .int .i64 a.x0.s, .int .i64 a.y0.m, .int .i64 a.y0.s, .int .i64 a.x1.m, .int .i64 a.x1.s, .int .i64 a.y1.m, .int .i64 a.y1.s] 52)).alloc (.cells #[.int .i64 b.x0.m, .int .i64 b.x0.s, .int .i64 b.y0.m, .int .i64 b.y0.s, .int .i64 b.x1.m, .int .i64 b.x1.s, .int .i64 b.y1.m, .int .i64 b.y1.s] 52)).alloc (.cells #[.int .i64 0, .int .i64 0, .int .i64 0, .int .i64 0, .int .i64 0, .int .i64 0, .int .i64 0, .int .i64 0] 52) = W at *
  have HB := Lib.hid hb0
  clear hb0
  have HC0 : W.cell? ⟨w.heap.size, 0, none⟩ = some (.int .i64 a.x0.m) ∧ W.cell? ⟨w.heap.size, 1, none⟩ = some (.int .i64 a.x0.s) ∧ W.cell? ⟨w.heap.size, 2, none⟩ = some (.int .i64 a.y0.m) ∧ W.cell? ⟨w.heap.size, 3, none⟩ = some (.int .i64 a.y0.s) ∧ W.cell? ⟨w.heap.size, 4, none⟩ = some (.int .i64 a.x1.m) ∧ W.cell? ⟨w.heap.size, 5, none⟩ = some (.int .i64 a.x1.s) ∧ W.cell? ⟨w.heap.size, 6, none⟩ = some (.int .i64 a.y1.m) ∧ W.cell? ⟨w.heap.size, 7, none⟩ = some (.int .i64 a.y1.s) ∧ W.cell? ⟨w.heap.size + 1, 0, none⟩ = some (.int .i64 b.x0.m) ∧ W.cell? ⟨w.heap.size + 1, 1, none⟩ = some (.int .i64 b.x0.s) ∧ W.cell? ⟨w.heap.size + 1, 2, none⟩ = some (.int .i64 b.y0.m) ∧ W.cell? ⟨w.heap.size + 1, 3, none⟩ = some (.int .i64 b.y0.s) ∧ W.cell? ⟨w.heap.size + 1, 4, none⟩ = some (.int .i64 b.x1.m) ∧ W.cell? ⟨w.heap.size + 1, 5, none⟩ = some (.int .i64 b.x1.s) ∧ W.cell? ⟨w.heap.size + 1, 6, none⟩ = some (.int .i64 b.y1.m) ∧ W.cell? ⟨w.heap.size + 1, 7, none⟩ = some (.int .i64 b.y1.s) := ⟨hA.1, hA.2.1, hA.2.2.1, hA.2.2.2.1, hA.2.2.2.2.1, hA.2.2.2.2.2.1, hA.2.2.2.2.2.2.1, hA.2.2.2.2.2.2.2, hB.1, hB.2.1, hB.2.2.1, hB.2.2.2.1, hB.2.2.2.2.1, hB.2.2.2.2.2.1, hB.2.2.2.2.2.2.1, hB.2.2.2.2.2.2.2⟩
  refine wp_region_S 21 (fun v => v.cell? ⟨w.heap.size, 0, none⟩ = some (.int .i64 a.x0.m) ∧ v.cell? ⟨w.heap.size, 1, none⟩ = some (.int .i64 a.x0.s) ∧ v.cell? ⟨w.heap.size, 2, none⟩ = some (.int .i64 a.y0.m) ∧ v.cell? ⟨w.heap.size, 3, none⟩ = some (.int .i64 a.y0.s) ∧ v.cell? ⟨w.heap.size, 4, none⟩ = some (.int .i64 a.x1.m) ∧ v.cell? ⟨w.heap.size, 5, none⟩ = some (.int .i64 a.x1.s) ∧ v.cell? ⟨w.heap.size, 6, none⟩ = some (.int .i64 a.y1.m) ∧ v.cell? ⟨w.heap.size, 7, none⟩ = some (.int .i64 a.y1.s) ∧ v.cell? ⟨w.heap.size + 1, 0, none⟩ = some (.int .i64 b.x0.m) ∧ v.cell? ⟨w.heap.size + 1, 1, none⟩ = some (.int .i64 b.x0.s) ∧ v.cell? ⟨w.heap.size + 1, 2, none⟩ = some (.int .i64 b.y0.m) ∧ v.cell? ⟨w.heap.size + 1, 3, none⟩ = some (.int .i64 b.y0.s) ∧ v.cell? ⟨w.heap.size + 1, 4, none⟩ = some (.int .i64 b.x1.m) ∧ v.cell? ⟨w.heap.size + 1, 5, none⟩ = some (.int .i64 b.x1.s) ∧ v.cell? ⟨w.heap.size + 1, 6, none⟩ = some (.int .i64 b.y1.m) ∧ v.cell? ⟨w.heap.size + 1, 7, none⟩ = some (.int .i64 b.y1.s)) (by kernel_rfl) ?_
  refine wpAnyS_takeW (i := 0) (v := ?v1) rfl (by kernel_rfl) (fun _ _ _ h => h) (Or.inl ⟨by rfl, ?y1⟩) (fun _ => HC0) ?r1
  case y1 => intro wq _; go_simp; try with_reducible rfl
  try simp only [Act.put, List.setIfInBounds_toArray, List.set_cons_zero, List.set_cons_succ]
  refine wpAnyS_takeW (i := 2) (v := ?v2) rfl (by kernel_rfl) (fun _ _ _ h => h) (Or.inl ⟨by rfl, ?y2⟩) (fun _ => HC0) ?r2
  case y2 => intro wq _; go_simp; try with_reducible rfl
  try simp only [Act.put, List.setIfInBounds_toArray, List.set_cons_zero, List.set_cons_succ]
  refine wpAnyS_takeW (i := 5) (v := ?v3) rfl (by kernel_rfl) (fun _ _ _ h => h) (Or.inl ⟨by rfl, ?y3⟩) (fun _ => HC0) ?r3
  case y3 => intro wq _; go_simp; try with_reducible rfl
  try simp only [Act.put, List.setIfInBounds_toArray, List.set_cons_zero, List.set_cons_succ]
  refine wpAnyS_takeW (i := 7) (v := ?v4) rfl (by kernel_rfl) (fun _ _ _ h => h) (Or.inl ⟨by rfl, ?y4⟩) (fun _ => HC0) ?r4
  case y4 => intro wq _; go_simp; try with_reducible rfl
  try simp only [Act.put, List.setIfInBounds_toArray, List.set_cons_zero, List.set_cons_succ]
  refine wpAnyS_takeW (i := 10) (v := ?v5) rfl (by kernel_rfl) (fun _ _ _ h => h) (Or.inl ⟨by rfl, ?y5⟩) (fun _ => HC0) ?r5
  case y5 => intro wq _; go_simp; try with_reducible rfl
  try simp only [Act.put, List.setIfInBounds_toArray, List.set_cons_zero, List.set_cons_succ]
  refine wpAnyS_takeW (i := 12) (v := ?v6) rfl (by kernel_rfl) (fun _ _ _ h => h) (Or.inl ⟨by rfl, ?y6⟩) (fun _ => HC0) ?r6
  case y6 => intro wq _; go_simp; try with_reducible rfl
  try simp only [Act.put, List.setIfInBounds_toArray, List.set_cons_zero, List.set_cons_succ]
  refine wpAnyS_takeW (i := 15) (v := ?v7) rfl (by kernel_rfl) (fun _ _ _ h => h) (Or.inl ⟨by rfl, ?y7⟩) (fun _ => HC0) ?r7
  case y7 => intro wq _; go_simp; try with_reducible rfl
  try simp only [Act.put, List.setIfInBounds_toArray, List.set_cons_zero, List.set_cons_succ]
  refine wpAnyS_takeW (i := 17) (v := ?v8) rfl (by kernel_rfl) (fun _ _ _ h => h) (Or.inl ⟨by rfl, ?y8⟩) (fun _ => HC0) ?r8
  case y8 => intro wq _; go_simp; try with_reducible rfl
  try simp only [Act.put, List.setIfInBounds_toArray, List.set_cons_zero, List.set_cons_succ]
  refine wpAnyS_take (i := 1) (v := ?v9) rfl (by kernel_rfl) (fun _ _ _ h => h) (Or.inl ⟨by rfl, ?y9⟩) HC0 ?r9
  case y9 => intro wq hq; (try dsimp only at hq); go_simp; try with_reducible rfl
  try simp only [Act.put, List.setIfInBounds_toArray, List.set_cons_zero, List.set_cons_succ]
  refine wpAnyS_take (i := 3) (v := ?v10) rfl (by kernel_rfl) (fun _ _ _ h => h) (Or.inl ⟨by rfl, ?y10⟩) HC0 ?r10
  case y10 => intro wq hq; (try dsimp only at hq); go_simp; try with_reducible rfl
  try simp only [Act.put, List.setIfInBounds_toArray, List.set_cons_zero, List.set_cons_succ]
  refine wpAnyS_take (i := 6) (v := ?v11) rfl (by kernel_rfl) (fun _ _ _ h => h) (Or.inl ⟨by rfl, ?y11⟩) HC0 ?r11
  case y11 => intro wq hq; (try dsimp only at hq); go_simp; try with_reducible rfl
  try simp only [Act.put, List.setIfInBounds_toArray, List.set_cons_zero, List.set_cons_succ]
  refine wpAnyS_take (i := 8) (v := ?v12) rfl (by kernel_rfl) (fun _ _ _ h => h) (Or.inl ⟨by rfl, ?y12⟩) HC0 ?r12
  case y12 => intro wq hq; (try dsimp only at hq); go_simp; try with_reducible rfl
  try simp only [Act.put, List.setIfInBounds_toArray, List.set_cons_zero, List.set_cons_succ]
  refine wpAnyS_take (i := 11) (v := ?v13) rfl (by kernel_rfl) (fun _ _ _ h => h) (Or.inl ⟨by rfl, ?y13⟩) HC0 ?r13
  case y13 => intro wq hq; (try dsimp only at hq); go_simp; try with_reducible rfl
  try simp only [Act.put, List.setIfInBounds_toArray, List.set_cons_zero, List.set_cons_succ]
  refine wpAnyS_take (i := 13) (v := ?v14) rfl (by kernel_rfl) (fun _ _ _ h => h) (Or.inl ⟨by rfl, ?y14⟩) HC0 ?r14
  case y14 => intro wq hq; (try dsimp only at hq); go_simp; try with_reducible rfl
  try simp only [Act.put, List.setIfInBounds_toArray, List.set_cons_zero, List.set_cons_succ]
  refine wpAnyS_take (i := 16) (v := ?v15) rfl (by kernel_rfl) (fun _ _ _ h => h) (Or.inl ⟨by rfl, ?y15⟩) HC0 ?r15
  case y15 => intro wq hq; (try dsimp only at hq); go_simp; try with_reducible rfl
  try simp only [Act.put, List.setIfInBounds_toArray, List.set_cons_zero, List.set_cons_succ]
  refine wpAnyS_take (i := 18) (v := ?v16) rfl (by kernel_rfl) (fun _ _ _ h => h) (Or.inl ⟨by rfl, ?y16⟩) HC0 ?r16
  case y16 => intro wq hq; (try dsimp only at hq); go_simp; try with_reducible rfl
  try simp only [Act.put, List.setIfInBounds_toArray, List.set_cons_zero, List.set_cons_succ]
  refine wpAnyS_one (j := 4) (by kernel_rfl) rfl (fun K hK => ?_)
  go_simp
  go_at_call 67; (with_reducible refine (least_any a.x0 b.x0 _ HN.out.1.x0 HN.out.2.x0).mono ?_)
  rintro e v1 ⟨rfl, k1⟩
  have k1 := undrew k1
  have hA1 := BIn.later hA k1
  have hB1 := BIn.later hB k1
  have hR1 := Whole.here hR k1
  have HB1 := Lib.hid (HB.out.trans (k1.mono HB.out.size))
  have HC1 : v1.cell? ⟨w.heap.size, 0, none⟩ = some (.int .i64 a.x0.m) ∧ v1.cell? ⟨w.heap.size, 1, none⟩ = some (.int .i64 a.x0.s) ∧ v1.cell? ⟨w.heap.size, 2, none⟩ = some (.int .i64 a.y0.m) ∧ v1.cell? ⟨w.heap.size, 3, none⟩ = some (.int .i64 a.y0.s) ∧ v1.cell? ⟨w.heap.size, 4, none⟩ = some (.int .i64 a.x1.m) ∧ v1.cell? ⟨w.heap.size, 5, none⟩ = some (.int .i64 a.x1.s) ∧ v1.cell? ⟨w.heap.size, 6, none⟩ = some (.int .i64 a.y1.m) ∧ v1.cell? ⟨w.heap.size, 7, none⟩ = some (.int .i64 a.y1.s) ∧ v1.cell? ⟨w.heap.size + 1, 0, none⟩ = some (.int .i64 b.x0.m) ∧ v1.cell? ⟨w.heap.size + 1, 1, none⟩ = some (.int .i64 b.x0.s) ∧ v1.cell? ⟨w.heap.size + 1, 2, none⟩ = some (.int .i64 b.y0.m) ∧ v1.cell? ⟨w.heap.size + 1, 3, none⟩ = some (.int .i64 b.y0.s) ∧ v1.cell? ⟨w.heap.size + 1, 4, none⟩ = some (.int .i64 b.x1.m) ∧ v1.cell? ⟨w.heap.size + 1, 5, none⟩ = some (.int .i64 b.x1.s) ∧ v1.cell? ⟨w.heap.size + 1, 6, none⟩ = some (.int .i64 b.y1.m) ∧ v1.cell? ⟨w.heap.size + 1, 7, none⟩ = some (.int .i64 b.y1.s) := ⟨hA1.1, hA1.2.1, hA1.2.2.1, hA1.2.2.2.1, hA1.2.2.2.2.1, hA1.2.2.2.2.2.1, hA1.2.2.2.2.2.2.1, hA1.2.2.2.2.2.2.2, hB1.1, hB1.2.1, hB1.2.2.1, hB1.2.2.2.1, hB1.2.2.2.2.1, hB1.2.2.2.2.2.1, hB1.2.2.2.2.2.2.1, hB1.2.2.2.2.2.2.2⟩
  clear k1
  go_wp2_with fail
  refine hK.out _ _ ⟨fun _ _ => HC1, ?_⟩
  clear hK K
  try simp only [Act.put, List.setIfInBounds_toArray, List.set_cons_zero, List.set_cons_succ]
  refine wpAnyS_one (j := 9) (by kernel_rfl) rfl (fun K hK => ?_)
  go_simp
  go_at_call 67; (with_reducible refine (least_any a.y0 b.y0 _ HN.out.1.y0 HN.out.2.y0).mono ?_)
  rintro e v2 ⟨rfl, k2⟩
  have hA2 := BIn.later hA1 k2
  have hB2 := BIn.later hB1 k2
  have hR2 := Whole.here hR1 k2
  have HB2 := Lib.hid (HB1.out.trans (k2.mono HB1.out.size))
  have HC2 : v2.cell? ⟨w.heap.size, 0, none⟩ = some (.int .i64 a.x0.m) ∧ v2.cell? ⟨w.heap.size, 1, none⟩ = some (.int .i64 a.x0.s) ∧ v2.cell? ⟨w.heap.size, 2, none⟩ = some (.int .i64 a.y0.m) ∧ v2.cell? ⟨w.heap.size, 3, none⟩ = some (.int .i64 a.y0.s) ∧ v2.cell? ⟨w.heap.size, 4, none⟩ = some (.int .i64 a.x1.m) ∧ v2.cell? ⟨w.heap.size, 5, none⟩ = some (.int .i64 a.x1.s) ∧ v2.cell? ⟨w.heap.size, 6, none⟩ = some (.int .i64 a.y1.m) ∧ v2.cell? ⟨w.heap.size, 7, none⟩ = some (.int .i64 a.y1.s) ∧ v2.cell? ⟨w.heap.size + 1, 0, none⟩ = some (.int .i64 b.x0.m) ∧ v2.cell? ⟨w.heap.size + 1, 1, none⟩ = some (.int .i64 b.x0.s) ∧ v2.cell? ⟨w.heap.size + 1, 2, none⟩ = some (.int .i64 b.y0.m) ∧ v2.cell? ⟨w.heap.size + 1, 3, none⟩ = some (.int .i64 b.y0.s) ∧ v2.cell? ⟨w.heap.size + 1, 4, none⟩ = some (.int .i64 b.x1.m) ∧ v2.cell? ⟨w.heap.size + 1, 5, none⟩ = some (.int .i64 b.x1.s) ∧ v2.cell? ⟨w.heap.size + 1, 6, none⟩ = some (.int .i64 b.y1.m) ∧ v2.cell? ⟨w.heap.size + 1, 7, none⟩ = some (.int .i64 b.y1.s) := ⟨hA2.1, hA2.2.1, hA2.2.2.1, hA2.2.2.2.1, hA2.2.2.2.2.1, hA2.2.2.2.2.2.1, hA2.2.2.2.2.2.2.1, hA2.2.2.2.2.2.2.2, hB2.1, hB2.2.1, hB2.2.2.1, hB2.2.2.2.1, hB2.2.2.2.2.1, hB2.2.2.2.2.2.1, hB2.2.2.2.2.2.2.1, hB2.2.2.2.2.2.2.2⟩
  clear k2
  go_wp2_with fail
  refine hK.out _ _ ⟨fun _ _ => HC2, ?_⟩
  clear hK K
  try simp only [Act.put, List.setIfInBounds_toArray, List.set_cons_zero, List.set_cons_succ]
  refine wpAnyS_one (j := 14) (by kernel_rfl) rfl (fun K hK => ?_)
  go_simp
  go_at_call 66; (with_reducible refine (most_any a.x1 b.x1 _ HN.out.1.x1 HN.out.2.x1).mono ?_)
  rintro e v3 ⟨rfl, k3⟩
  have hA3 := BIn.later hA2 k3
  have hB3 := BIn.later hB2 k3
  have hR3 := Whole.here hR2 k3
  have HB3 := Lib.hid (HB2.out.trans (k3.mono HB2.out.size))
  have HC3 : v3.cell? ⟨w.heap.size, 0, none⟩ = some (.int .i64 a.x0.m) ∧ v3.cell? ⟨w.heap.size, 1, none⟩ = some (.int .i64 a.x0.s) ∧ v3.cell? ⟨w.heap.size, 2, none⟩ = some (.int .i64 a.y0.m) ∧ v3.cell? ⟨w.heap.size, 3, none⟩ = some (.int .i64 a.y0.s) ∧ v3.cell? ⟨w.heap.size, 4, none⟩ = some (.int .i64 a.x1.m) ∧ v3.cell? ⟨w.heap.size, 5, none⟩ = some (.int .i64 a.x1.s) ∧ v3.cell? ⟨w.heap.size, 6, none⟩ = some (.int .i64 a.y1.m) ∧ v3.cell? ⟨w.heap.size, 7, none⟩ = some (.int .i64 a.y1.s) ∧ v3.cell? ⟨w.heap.size + 1, 0, none⟩ = some (.int .i64 b.x0.m) ∧ v3.cell? ⟨w.heap.size + 1, 1, none⟩ = some (.int .i64 b.x0.s) ∧ v3.cell? ⟨w.heap.size + 1, 2, none⟩ = some (.int .i64 b.y0.m) ∧ v3.cell? ⟨w.heap.size + 1, 3, none⟩ = some (.int .i64 b.y0.s) ∧ v3.cell? ⟨w.heap.size + 1, 4, none⟩ = some (.int .i64 b.x1.m) ∧ v3.cell? ⟨w.heap.size + 1, 5, none⟩ = some (.int .i64 b.x1.s) ∧ v3.cell? ⟨w.heap.size + 1, 6, none⟩ = some (.int .i64 b.y1.m) ∧ v3.cell? ⟨w.heap.size + 1, 7, none⟩ = some (.int .i64 b.y1.s) := ⟨hA3.1, hA3.2.1, hA3.2.2.1, hA3.2.2.2.1, hA3.2.2.2.2.1, hA3.2.2.2.2.2.1, hA3.2.2.2.2.2.2.1, hA3.2.2.2.2.2.2.2, hB3.1, hB3.2.1, hB3.2.2.1, hB3.2.2.2.1, hB3.2.2.2.2.1, hB3.2.2.2.2.2.1, hB3.2.2.2.2.2.2.1, hB3.2.2.2.2.2.2.2⟩
  clear k3
  go_wp2_with fail
  refine hK.out _ _ ⟨fun _ _ => HC3, ?_⟩
  clear hK K
  try simp only [Act.put, List.setIfInBounds_toArray, List.set_cons_zero, List.set_cons_succ]
  refine wpAnyS_one (j := 19) (by kernel_rfl) rfl (fun K hK => ?_)
  go_simp
  go_at_call 66; (with_reducible refine (most_any a.y1 b.y1 _ HN.out.1.y1 HN.out.2.y1).mono ?_)
  rintro e v4 ⟨rfl, k4⟩
  have hA4 := BIn.later hA3 k4
  have hB4 := BIn.later hB3 k4
  have hR4 := Whole.here hR3 k4
  have HB4 := Lib.hid (HB3.out.trans (k4.mono HB3.out.size))
  have HC4 : v4.cell? ⟨w.heap.size, 0, none⟩ = some (.int .i64 a.x0.m) ∧ v4.cell? ⟨w.heap.size, 1, none⟩ = some (.int .i64 a.x0.s) ∧ v4.cell? ⟨w.heap.size, 2, none⟩ = some (.int .i64 a.y0.m) ∧ v4.cell? ⟨w.heap.size, 3, none⟩ = some (.int .i64 a.y0.s) ∧ v4.cell? ⟨w.heap.size, 4, none⟩ = some (.int .i64 a.x1.m) ∧ v4.cell? ⟨w.heap.size, 5, none⟩ = some (.int .i64 a.x1.s) ∧ v4.cell? ⟨w.heap.size, 6, none⟩ = some (.int .i64 a.y1.m) ∧ v4.cell? ⟨w.heap.size, 7, none⟩ = some (.int .i64 a.y1.s) ∧ v4.cell? ⟨w.heap.size + 1, 0, none⟩ = some (.int .i64 b.x0.m) ∧ v4.cell? ⟨w.heap.size + 1, 1, none⟩ = some (.int .i64 b.x0.s) ∧ v4.cell? ⟨w.heap.size + 1, 2, none⟩ = some (.int .i64 b.y0.m) ∧ v4.cell? ⟨w.heap.size + 1, 3, none⟩ = some (.int .i64 b.y0.s) ∧ v4.cell? ⟨w.heap.size + 1, 4, none⟩ = some (.int .i64 b.x1.m) ∧ v4.cell? ⟨w.heap.size + 1, 5, none⟩ = some (.int .i64 b.x1.s) ∧ v4.cell? ⟨w.heap.size + 1, 6, none⟩ = some (.int .i64 b.y1.m) ∧ v4.cell? ⟨w.heap.size + 1, 7, none⟩ = some (.int .i64 b.y1.s) := ⟨hA4.1, hA4.2.1, hA4.2.2.1, hA4.2.2.2.1, hA4.2.2.2.2.1, hA4.2.2.2.2.2.1, hA4.2.2.2.2.2.2.1, hA4.2.2.2.2.2.2.2, hB4.1, hB4.2.1, hB4.2.2.1, hB4.2.2.2.1, hB4.2.2.2.2.1, hB4.2.2.2.2.2.1, hB4.2.2.2.2.2.2.1, hB4.2.2.2.2.2.2.2⟩
  clear k4
  have rd4 := hR4.reads
  have ft4 := hR4.thawed
  have l4 := hR4.lt
  go_wp2_with fail
  refine hK.out _ _ ⟨fun _ _ => HC4, ?_⟩
  clear hK K
  try simp only [Act.put, List.setIfInBounds_toArray, List.set_cons_zero, List.set_cons_succ]
  refine wpAnyS_takeW (i := 20) (v := ?v17) rfl (by kernel_rfl) (fun _ _ _ h => h) (Or.inl ⟨by rfl, ?y17⟩) (fun _ => HC4) ?r17
  case y17 => intro wq _; go_simp; try with_reducible rfl
  try simp only [Act.put, List.setIfInBounds_toArray, List.set_cons_zero, List.set_cons_succ]
  refine wpAnyS_one (j := 21) (by kernel_rfl) rfl (fun K hK => ?_)
  go_simp
  refine hK.out _ _ ⟨fun h => absurd rfl h, ?_⟩
  clear hK K
  try simp only [Act.put, List.setIfInBounds_toArray, List.set_cons_zero, List.set_cons_succ]
  refine wpAnyS_done (by kernel_rfl) ?_ _
  go_wp2_with fail
  refine bodyPost_ret (v := (joinB a b).val) (by simp [results, Try.results65, go_sem, rd4, joinB]) rfl ⟨rfl, ?_⟩
  (repeat (first | with_reducible refine Below.drew ?_ | with_reducible refine bdrewN ?_ _ | (with_reducible refine Below.setCell ?_ ?_ _; rotate_left; focus (first | exact Nat.le_refl _ | omega | (simp; omega) | (simp; done))) | (with_reducible refine Below.alloc ?_ ?_ _; rotate_left; focus (first | exact Nat.le_refl _ | omega | (simp; omega) | (simp; done))))); with_reducible exact HB4.out
end Go.Proofs.Ytmleoagdelgddaa
/- The reference's Of: the walk. -/
namespace Go.Proofs.Ytmleoagdelgddaa
open Go.RowKit Dec

theorem lesD_self (a : DV) : lesD a a = a := by unfold lesD; split <;> rfl
theorem greD_self (a : DV) : greD a a = a := by unfold greD; split <;> rfl
theorem ofN_one (f : Nat → PV) : ofN f 1 = ofN f 0 := by
  show growB (ofN f 0) (f 0) = _
  unfold growB ofN
  simp only [lesD_self, greD_self]
theorem ofN_nums (f : Nat → PV) (n k : Nat) (h0 : 0 < n) (hk : k ≤ n) (h : ∀ i < n, (f i).Ok) : (ofN f k).Nums := by
  rcases Nat.eq_zero_or_pos k with rfl | hp
  · have := h 0 h0
    exact ⟨this.1, this.2, this.1, this.2⟩
  · have := (ofN_ok f k hp (fun i hi => h i (by omega))).1
    exact ⟨this.1, this.2.1, this.2.2.1, this.2.2.2⟩
theorem refof_none (p : Option Addr) (c : Nat) (w : World) :
    Calls Try.prog 45 #[.slice p 0 c] w fun e w' => e = .returned (.tuple #[BV.zero.val, .int .i64 8]) ∧ Below w.heap.size w w' := by
  go_enter Try.func45, Try.ntmps45
  go_wp2
  exact bodyPost_ret (v := .tuple #[BV.zero.val, .int .i64 8]) (by simp [results, Try.results45, go_sem, BV.zero, DV.zero]) rfl ⟨rfl, by (repeat (first | with_reducible exact Below.refl _ _ | with_reducible refine Below.drew ?_ | with_reducible refine bdrewN ?_ _ | (with_reducible refine Below.setCell ?_ ?_ _; rotate_left; focus (first | exact Nat.le_refl _ | omega | (simp; omega) | (simp; done))) | (with_reducible refine Below.alloc ?_ ?_ _; rotate_left; focus (first | exact Nat.le_refl _ | omega | (simp; omega) | (simp; done))) | (with_reducible refine Below.trans ?_ (Below.mono (by assumption) ?_); rotate_left; focus (first | exact Nat.le_refl _ | omega | (simp; omega) | (simp; done)))))⟩
theorem Whole.away8 {w : World} {g B : Nat} {T : TypeId} {cs : Array Value} (h : Whole w g T cs) (hn : g ≠ B) (a0 a1 a2 a3 a4 a5 a6 a7 : Value) :
    Whole ((((((((w.setCell ⟨B, 0, none⟩ a0).setCell ⟨B, 1, none⟩ a1).setCell ⟨B, 2, none⟩ a2).setCell ⟨B, 3, none⟩ a3).setCell ⟨B, 4, none⟩ a4).setCell ⟨B, 5, none⟩ a5).setCell ⟨B, 6, none⟩ a6).setCell ⟨B, 7, none⟩ a7) g T cs :=
  ((((((((h.away (p := ⟨B, 0, none⟩) hn a0).away (p := ⟨B, 1, none⟩) hn a1).away (p := ⟨B, 2, none⟩) hn a2).away (p := ⟨B, 3, none⟩) hn a3).away (p := ⟨B, 4, none⟩) hn a4).away (p := ⟨B, 5, none⟩) hn a5).away (p := ⟨B, 6, none⟩) hn a6).away (p := ⟨B, 7, none⟩) hn a7)
/-- A point as a box of its own. -/
abbrev ptB (p : PV) : BV := ⟨p.x, p.y, p.x, p.y⟩
theorem ptB_nums {p : PV} (h : p.Ok) : (ptB p).Nums := ⟨h.1, h.2, h.1, h.2⟩
theorem joinB_pt (b : BV) (p : PV) : joinB b (ptB p) = growB b p := rfl
set_option maxRecDepth 100000 in
set_option maxHeartbeats 8000000 in
theorem refof_any (f : Nat → PV) (n c R o : Nat) (w : World) (b : BV) (E : Int) (hn : 0 < n) (hm : n ≤ 1000000) (hF : Hid (∀ i < n, PAt w R (o + i * 4) (f i))) (h : Hid (OfIs f n b E)) :
    Calls Try.prog 45 #[.slice (some ⟨R, o, none⟩) n c] w fun e w' => e = .returned (.tuple #[b.val, .int .i64 E]) ∧ Below w.heap.size w w' := by
  have hn0 : ((n : Int) == 0) = false := by rw [beq_eq_false_iff_ne]; omega
  have HS0 := Lib.hid (And.intro (Whole.made w 52 #[.int .i64 0, .int .i64 0, .int .i64 0, .int .i64 0, .int .i64 0, .int .i64 0, .int .i64 0, .int .i64 0]) ((Below.refl w.heap.size w).alloc (Nat.le_refl _) (.cells #[.int .i64 0, .int .i64 0, .int .i64 0, .int .i64 0, .int .i64 0, .int .i64 0, .int .i64 0, .int .i64 0] 52)))
  go_enter Try.func45, Try.ntmps45
  go_wp2
  go_loopw [4] (fun i wr => ∃ k : Nat, k ≤ n ∧ i = .int .i64 k ∧ Hid (∀ i < k, (f i).Ok) ∧ Hid (Whole wr w.heap.size 52 #[.int .i64 0, .int .i64 0, .int .i64 0, .int .i64 0, .int .i64 0, .int .i64 0, .int .i64 0, .int .i64 0] ∧ Below w.heap.size w wr)) (fun i _ => n - (intOf i).toNat)
  case atStart => exact ⟨0, Nat.zero_le _, rfl, fun i hi => absurd hi (by omega), HS0⟩
  case round =>
    clear HS0
    obtain ⟨k, hk, rfl, hpre, hS⟩ := hrel
    by_cases hlt : k < n
    · obtain ⟨p0, p1, p2, p3⟩ := (hF.out k hlt).later hS.out.2
      have lR' : R < wr.heap.size := World.block_lt_of_cell? _ _ p0
      by_cases hx : (f k).x.Ok
      · have HX := Lib.hid hx
        clear hx
        go_wp2_with fail
        refine (right_is (f k).x true (decide_eq_true HX.out) _).mono ?_
        rintro e w1 ⟨rfl, b1⟩
        have H1 := Lib.hid (And.intro (hS.out.1.here b1) (hS.out.2.trans (b1.mono hS.out.2.size)))
        clear b1 p0 p1 p2 p3 lR'
        obtain ⟨p0, p1, p2, p3⟩ := (hF.out k hlt).later H1.out.2
        have lR' : R < w1.heap.size := World.block_lt_of_cell? _ _ p0
        by_cases hy : (f k).y.Ok
        · have HY := Lib.hid hy
          clear hy
          go_wp2_with fail
          refine (right_is (f k).y true (decide_eq_true HY.out) _).mono ?_
          rintro e w2 ⟨rfl, b2⟩
          have H2 := Lib.hid (And.intro (H1.out.1.here b2) (H1.out.2.trans (b2.mono H1.out.2.size)))
          clear b2 p0 p1 p2 p3 lR'
          go_wp2_with fail
          go_roundw
          case rel => exact ⟨k + 1, by omega, by go_num, pre_succ hpre.out ⟨HX.out, HY.out⟩, H2⟩
          case measure => simp [intOf]; omega
        · have HY := Lib.hid hy
          clear hy
          obtain ⟨rfl, rfl⟩ : b = .zero ∧ E = 1 := by
            rcases h.out with ⟨h, -⟩ | ⟨-, -, h, h'⟩ | ⟨-, h, -⟩
            · omega
            · exact ⟨h, h'⟩
            · exact absurd (h k hlt).2 HY.out
          go_wp2_with fail
          refine (right_is (f k).y false (decide_eq_false HY.out) _).mono ?_
          rintro e w2 ⟨rfl, b2⟩
          have H2 := Lib.hid (And.intro (H1.out.1.here b2) (H1.out.2.trans (b2.mono H1.out.2.size)))
          clear b2 p0 p1 p2 p3 lR'
          have rd := H2.out.1.reads
          have ft := H2.out.1.thawed
          have lW := H2.out.1.lt
          go_wp2
          refine bodyPost_ret (v := .tuple #[BV.zero.val, .int .i64 1]) (by simp [results, Try.results45, go_sem, rd, BV.zero, DV.zero]) rfl ⟨rfl, ?_⟩
          (repeat (first | with_reducible refine Below.drew ?_ | with_reducible refine bdrewN ?_ _ | (with_reducible refine Below.setCell ?_ ?_ _; rotate_left; focus (first | exact Nat.le_refl _ | omega | (simp; omega) | (simp; done))) | (with_reducible refine Below.alloc ?_ ?_ _; rotate_left; focus (first | exact Nat.le_refl _ | omega | (simp; omega) | (simp; done))))); with_reducible exact H2.out.2
      · have HX := Lib.hid hx
        clear hx
        obtain ⟨rfl, rfl⟩ : b = .zero ∧ E = 1 := by
          rcases h.out with ⟨h, -⟩ | ⟨-, -, h, h'⟩ | ⟨-, h, -⟩
          · omega
          · exact ⟨h, h'⟩
          · exact absurd (h k hlt).1 HX.out
        go_wp2_with fail
        refine (right_is (f k).x false (decide_eq_false HX.out) _).mono ?_
        rintro e w2 ⟨rfl, b2⟩
        have H2 := Lib.hid (And.intro (hS.out.1.here b2) (hS.out.2.trans (b2.mono hS.out.2.size)))
        clear b2 p0 p1 p2 p3 lR'
        have rd := H2.out.1.reads
        have ft := H2.out.1.thawed
        have lW := H2.out.1.lt
        go_wp2
        refine bodyPost_ret (v := .tuple #[BV.zero.val, .int .i64 1]) (by simp [results, Try.results45, go_sem, rd, BV.zero, DV.zero]) rfl ⟨rfl, ?_⟩
        (repeat (first | with_reducible refine Below.drew ?_ | with_reducible refine bdrewN ?_ _ | (with_reducible refine Below.setCell ?_ ?_ _; rotate_left; focus (first | exact Nat.le_refl _ | omega | (simp; omega) | (simp; done))) | (with_reducible refine Below.alloc ?_ ?_ _; rotate_left; focus (first | exact Nat.le_refl _ | omega | (simp; omega) | (simp; done))))); with_reducible exact H2.out.2
    · obtain rfl : k = n := by omega
      obtain ⟨rfl, rfl⟩ : b = ofN f k ∧ E = 0 := by
        rcases h.out with ⟨h, -⟩ | ⟨-, ⟨i, hi, h'⟩, -⟩ | ⟨-, -, h, h'⟩
        · omega
        · exact absurd (hpre.out i hi) h'
        · exact ⟨h, h'⟩
      obtain ⟨p0, p1, p2, p3⟩ := (hF.out 0 hn).later hS.out.2
      simp only [Nat.zero_mul, Nat.add_zero] at p0 p1 p2 p3
      have lR' : R < wr.heap.size := World.block_lt_of_cell? _ _ p0
      go_wp2
      go_region
      go_wp2
      have HL := Lib.hid (And.intro (hS.out.1.old (.cells #[.int .i64 (f 0).x.m, .int .i64 (f 0).x.s, .int .i64 (f 0).y.m, .int .i64 (f 0).y.s, .int .i64 (f 0).x.m, .int .i64 (f 0).x.s, .int .i64 (f 0).y.m, .int .i64 (f 0).y.s] 52)) (And.intro (Whole.made wr 52 #[.int .i64 (f 0).x.m, .int .i64 (f 0).x.s, .int .i64 (f 0).y.m, .int .i64 (f 0).y.s, .int .i64 (f 0).x.m, .int .i64 (f 0).x.s, .int .i64 (f 0).y.m, .int .i64 (f 0).y.s]) (hS.out.2.alloc hS.out.2.size (.cells #[.int .i64 (f 0).x.m, .int .i64 (f 0).x.s, .int .i64 (f 0).y.m, .int .i64 (f 0).y.s, .int .i64 (f 0).x.m, .int .i64 (f 0).x.s, .int .i64 (f 0).y.m, .int .i64 (f 0).y.s] 52))))
      clear p0 p1 p2 p3 lR'
      obtain ⟨P, hP⟩ : ∃ P, wr.heap.size = P := ⟨_, rfl⟩
      have hPw : w.heap.size < P := by have := hS.out.1.lt; omega
      rw [hP]
      rw [hP] at HL
      go_loopw [6] (fun i wx => ∃ j : Nat, 1 ≤ j ∧ j ≤ k ∧ i = .int .i64 j ∧ Hid (Whole wx w.heap.size 52 #[.int .i64 0, .int .i64 0, .int .i64 0, .int .i64 0, .int .i64 0, .int .i64 0, .int .i64 0, .int .i64 0] ∧ Whole wx P 52 #[.int .i64 (ofN f j).x0.m, .int .i64 (ofN f j).x0.s, .int .i64 (ofN f j).y0.m, .int .i64 (ofN f j).y0.s, .int .i64 (ofN f j).x1.m, .int .i64 (ofN f j).x1.s, .int .i64 (ofN f j).y1.m, .int .i64 (ofN f j).y1.s] ∧ Below w.heap.size w wx)) (fun i _ => k - (intOf i).toNat)
      case atStart => exact ⟨1, by omega, by omega, rfl, by rw [ofN_one]; exact Lib.hid ⟨HL.out.1.here (Below.refl _ _).drew, HL.out.2.1.here (Below.refl _ _).drew, HL.out.2.2.drew⟩⟩
      case round =>
        clear HL hS
        obtain ⟨j, hj1, hj, rfl, hS⟩ := hrel
        by_cases hlj : j < k
        · obtain ⟨p0, p1, p2, p3⟩ := (hF.out j hlj).later hS.out.2.2
          have lR' : R < wr.heap.size := World.block_lt_of_cell? _ _ p0
          have hR := hS.out.2.1
          have hW := hS.out.1
          have HB := Lib.hid hS.out.2.2
          have rb := hR.reads
          have HC0 : wr.cell? ⟨P, 0, none⟩ = some (.int .i64 (ofN f j).x0.m) ∧ wr.cell? ⟨P, 1, none⟩ = some (.int .i64 (ofN f j).x0.s) ∧ wr.cell? ⟨P, 2, none⟩ = some (.int .i64 (ofN f j).y0.m) ∧ wr.cell? ⟨P, 3, none⟩ = some (.int .i64 (ofN f j).y0.s) ∧ wr.cell? ⟨P, 4, none⟩ = some (.int .i64 (ofN f j).x1.m) ∧ wr.cell? ⟨P, 5, none⟩ = some (.int .i64 (ofN f j).x1.s) ∧ wr.cell? ⟨P, 6, none⟩ = some (.int .i64 (ofN f j).y1.m) ∧ wr.cell? ⟨P, 7, none⟩ = some (.int .i64 (ofN f j).y1.s) ∧ wr.cell? ⟨R, o + j * 4, none⟩ = some (.int .i64 (f j).x.m) ∧ wr.cell? ⟨R, o + j * 4 + 1, none⟩ = some (.int .i64 (f j).x.s) ∧ wr.cell? ⟨R, o + j * 4 + 2, none⟩ = some (.int .i64 (f j).y.m) ∧ wr.cell? ⟨R, o + j * 4 + 3, none⟩ = some (.int .i64 (f j).y.s) := ⟨rb 0, rb 1, rb 2, rb 3, rb 4, rb 5, rb 6, rb 7, p0, p1, p2, p3⟩
          clear rb p0 p1 p2 p3
          have l1 := hR.lt
          go_wp2_with fail
          refine wp_region_S 23 (fun v => v.cell? ⟨P, 0, none⟩ = some (.int .i64 (ofN f j).x0.m) ∧ v.cell? ⟨P, 1, none⟩ = some (.int .i64 (ofN f j).x0.s) ∧ v.cell? ⟨P, 2, none⟩ = some (.int .i64 (ofN f j).y0.m) ∧ v.cell? ⟨P, 3, none⟩ = some (.int .i64 (ofN f j).y0.s) ∧ v.cell? ⟨P, 4, none⟩ = some (.int .i64 (ofN f j).x1.m) ∧ v.cell? ⟨P, 5, none⟩ = some (.int .i64 (ofN f j).x1.s) ∧ v.cell? ⟨P, 6, none⟩ = some (.int .i64 (ofN f j).y1.m) ∧ v.cell? ⟨P, 7, none⟩ = some (.int .i64 (ofN f j).y1.s) ∧ v.cell? ⟨R, o + j * 4, none⟩ = some (.int .i64 (f j).x.m) ∧ v.cell? ⟨R, o + j * 4 + 1, none⟩ = some (.int .i64 (f j).x.s) ∧ v.cell? ⟨R, o + j * 4 + 2, none⟩ = some (.int .i64 (f j).y.m) ∧ v.cell? ⟨R, o + j * 4 + 3, none⟩ = some (.int .i64 (f j).y.s)) (by kernel_rfl) ?_
          refine wpAnyS_takeW (i := 1) (v := ?v1) rfl (by kernel_rfl) (fun _ _ _ h => h) (Or.inl ⟨by rfl, ?y1⟩) (fun _ => HC0) ?r1
          case y1 => intro wq _; go_simp; try with_reducible rfl
          try simp only [Act.put, List.setIfInBounds_toArray, List.set_cons_zero, List.set_cons_succ]
          refine wpAnyS_takeW (i := 2) (v := ?v2) rfl (by kernel_rfl) (fun _ _ _ h => h) (Or.inl ⟨by rfl, ?y2⟩) (fun _ => HC0) ?r2
          case y2 => intro wq _; go_simp; try with_reducible rfl
          try simp only [Act.put, List.setIfInBounds_toArray, List.set_cons_zero, List.set_cons_succ]
          refine wpAnyS_takeW (i := 6) (v := ?v3) rfl (by kernel_rfl) (fun _ _ _ h => h) (Or.inl ⟨by rfl, ?y3⟩) (fun _ => HC0) ?r3
          case y3 => intro wq _; go_simp; try with_reducible rfl
          try simp only [Act.put, List.setIfInBounds_toArray, List.set_cons_zero, List.set_cons_succ]
          refine wpAnyS_takeW (i := 7) (v := ?v4) rfl (by kernel_rfl) (fun _ _ _ h => h) (Or.inl ⟨by rfl, ?y4⟩) (fun _ => HC0) ?r4
          case y4 => intro wq _; go_simp; try with_reducible rfl
          try simp only [Act.put, List.setIfInBounds_toArray, List.set_cons_zero, List.set_cons_succ]
          refine wpAnyS_takeW (i := 11) (v := ?v5) rfl (by kernel_rfl) (fun _ _ _ h => h) (Or.inl ⟨by rfl, ?y5⟩) (fun _ => HC0) ?r5
          case y5 => intro wq _; go_simp; try with_reducible rfl
          try simp only [Act.put, List.setIfInBounds_toArray, List.set_cons_zero, List.set_cons_succ]
          refine wpAnyS_takeW (i := 12) (v := ?v6) rfl (by kernel_rfl) (fun _ _ _ h => h) (Or.inl ⟨by rfl, ?y6⟩) (fun _ => HC0) ?r6
          case y6 => intro wq _; go_simp; try with_reducible rfl
          try simp only [Act.put, List.setIfInBounds_toArray, List.set_cons_zero, List.set_cons_succ]
          refine wpAnyS_takeW (i := 16) (v := ?v7) rfl (by kernel_rfl) (fun _ _ _ h => h) (Or.inl ⟨by rfl, ?y7⟩) (fun _ => HC0) ?r7
          case y7 => intro wq _; go_simp; try with_reducible rfl
          try simp only [Act.put, List.setIfInBounds_toArray, List.set_cons_zero, List.set_cons_succ]
          refine wpAnyS_takeW (i := 17) (v := ?v8) rfl (by kernel_rfl) (fun _ _ _ h => h) (Or.inl ⟨by rfl, ?y8⟩) (fun _ => HC0) ?r8
          case y8 => intro wq _; go_simp; try with_reducible rfl
          try simp only [Act.put, List.setIfInBounds_toArray, List.set_cons_zero, List.set_cons_succ]
          refine wpAnyS_takeW (i := 3) (v := ?v9) rfl (by kernel_rfl) (fun _ _ _ h => h) (Or.inl ⟨by rfl, ?y9⟩) (fun _ => HC0) ?r9
          case y9 => intro wq _; go_simp; try with_reducible rfl
          try simp only [Act.put, List.setIfInBounds_toArray, List.set_cons_zero, List.set_cons_succ]
          refine wpAnyS_takeW (i := 8) (v := ?v10) rfl (by kernel_rfl) (fun _ _ _ h => h) (Or.inl ⟨by rfl, ?y10⟩) (fun _ => HC0) ?r10
          case y10 => intro wq _; go_simp; try with_reducible rfl
          try simp only [Act.put, List.setIfInBounds_toArray, List.set_cons_zero, List.set_cons_succ]
          refine wpAnyS_takeW (i := 13) (v := ?v11) rfl (by kernel_rfl) (fun _ _ _ h => h) (Or.inl ⟨by rfl, ?y11⟩) (fun _ => HC0) ?r11
          case y11 => intro wq _; go_simp; try with_reducible rfl
          try simp only [Act.put, List.setIfInBounds_toArray, List.set_cons_zero, List.set_cons_succ]
          refine wpAnyS_takeW (i := 18) (v := ?v12) rfl (by kernel_rfl) (fun _ _ _ h => h) (Or.inl ⟨by rfl, ?y12⟩) (fun _ => HC0) ?r12
          case y12 => intro wq _; go_simp; try with_reducible rfl
          try simp only [Act.put, List.setIfInBounds_toArray, List.set_cons_zero, List.set_cons_succ]
          refine wpAnyS_takeW (i := 4) (v := ?v13) rfl (by kernel_rfl) (fun _ _ _ h => h) (Or.inl ⟨by rfl, ?y13⟩) (fun _ => HC0) ?r13
          case y13 => intro wq _; go_simp; try with_reducible rfl
          try simp only [Act.put, List.setIfInBounds_toArray, List.set_cons_zero, List.set_cons_succ]
          refine wpAnyS_takeW (i := 9) (v := ?v14) rfl (by kernel_rfl) (fun _ _ _ h => h) (Or.inl ⟨by rfl, ?y14⟩) (fun _ => HC0) ?r14
          case y14 => intro wq _; go_simp; try with_reducible rfl
          try simp only [Act.put, List.setIfInBounds_toArray, List.set_cons_zero, List.set_cons_succ]
          refine wpAnyS_takeW (i := 14) (v := ?v15) rfl (by kernel_rfl) (fun _ _ _ h => h) (Or.inl ⟨by rfl, ?y15⟩) (fun _ => HC0) ?r15
          case y15 => intro wq _; go_simp; try with_reducible rfl
          try simp only [Act.put, List.setIfInBounds_toArray, List.set_cons_zero, List.set_cons_succ]
          refine wpAnyS_takeW (i := 19) (v := ?v16) rfl (by kernel_rfl) (fun _ _ _ h => h) (Or.inl ⟨by rfl, ?y16⟩) (fun _ => HC0) ?r16
          case y16 => intro wq _; go_simp; try with_reducible rfl
          try simp only [Act.put, List.setIfInBounds_toArray, List.set_cons_zero, List.set_cons_succ]
          refine wpAnyS_take (i := 0) (v := ?v17) rfl (by kernel_rfl) (fun _ _ _ h => h) (Or.inl ⟨by rfl, ?y17⟩) HC0 ?r17
          case y17 => intro wq hq; (try dsimp only at hq); go_simp; try with_reducible rfl
          try simp only [Act.put, List.setIfInBounds_toArray, List.set_cons_zero, List.set_cons_succ]
          refine wpAnyS_take (i := 5) (v := ?v18) rfl (by kernel_rfl) (fun _ _ _ h => h) (Or.inl ⟨by rfl, ?y18⟩) HC0 ?r18
          case y18 => intro wq hq; (try dsimp only at hq); go_simp; try with_reducible rfl
          try simp only [Act.put, List.setIfInBounds_toArray, List.set_cons_zero, List.set_cons_succ]
          refine wpAnyS_take (i := 10) (v := ?v19) rfl (by kernel_rfl) (fun _ _ _ h => h) (Or.inl ⟨by rfl, ?y19⟩) HC0 ?r19
          case y19 => intro wq hq; (try dsimp only at hq); go_simp; try with_reducible rfl
          try simp only [Act.put, List.setIfInBounds_toArray, List.set_cons_zero, List.set_cons_succ]
          refine wpAnyS_take (i := 15) (v := ?v20) rfl (by kernel_rfl) (fun _ _ _ h => h) (Or.inl ⟨by rfl, ?y20⟩) HC0 ?r20
          case y20 => intro wq hq; (try dsimp only at hq); go_simp; try with_reducible rfl
          try simp only [Act.put, List.setIfInBounds_toArray, List.set_cons_zero, List.set_cons_succ]
          refine wpAnyS_take (i := 20) (v := ?v21) rfl (by kernel_rfl) (fun _ _ _ h => h) (Or.inl ⟨by rfl, ?y21⟩) HC0 ?r21
          case y21 => intro wq hq; (try dsimp only at hq); go_simp; try with_reducible rfl
          try simp only [Act.put, List.setIfInBounds_toArray, List.set_cons_zero, List.set_cons_succ]
          refine wpAnyS_takeW (i := 21) (v := ?v22) rfl (by kernel_rfl) (fun _ _ _ h => h) (Or.inl ⟨by rfl, ?y22⟩) (fun _ => HC0) ?r22
          case y22 => intro wq _; go_simp; try with_reducible rfl
          try simp only [Act.put, List.setIfInBounds_toArray, List.set_cons_zero, List.set_cons_succ]
          refine wpAnyS_one (j := 22) (by kernel_rfl) rfl (fun K hK => ?_)
          go_simp
          go_at_call 65; (with_reducible refine (around_any (ofN f j) (ptB (f j)) _ (ofN_nums f k j hn hj hpre.out) (ptB_nums (hpre.out j hlj))).mono ?_)
          rw [show joinB (ofN f j) (ptB (f j)) = ofN f (j + 1) from rfl]
          rintro e v1 ⟨rfl, k1⟩
          have k1 := undrew k1
          have hR1 := Whole.here hR k1
          have hW1 := Whole.here hW k1
          have HB1 := Lib.hid (HB.out.trans (k1.mono HB.out.size))
          have r1 := hR1.reads
          obtain ⟨s0, s1, s2, s3⟩ := (hF.out j hlj).later HB1.out
          have HC1 : v1.cell? ⟨P, 0, none⟩ = some (.int .i64 (ofN f j).x0.m) ∧ v1.cell? ⟨P, 1, none⟩ = some (.int .i64 (ofN f j).x0.s) ∧ v1.cell? ⟨P, 2, none⟩ = some (.int .i64 (ofN f j).y0.m) ∧ v1.cell? ⟨P, 3, none⟩ = some (.int .i64 (ofN f j).y0.s) ∧ v1.cell? ⟨P, 4, none⟩ = some (.int .i64 (ofN f j).x1.m) ∧ v1.cell? ⟨P, 5, none⟩ = some (.int .i64 (ofN f j).x1.s) ∧ v1.cell? ⟨P, 6, none⟩ = some (.int .i64 (ofN f j).y1.m) ∧ v1.cell? ⟨P, 7, none⟩ = some (.int .i64 (ofN f j).y1.s) ∧ v1.cell? ⟨R, o + j * 4, none⟩ = some (.int .i64 (f j).x.m) ∧ v1.cell? ⟨R, o + j * 4 + 1, none⟩ = some (.int .i64 (f j).x.s) ∧ v1.cell? ⟨R, o + j * 4 + 2, none⟩ = some (.int .i64 (f j).y.m) ∧ v1.cell? ⟨R, o + j * 4 + 3, none⟩ = some (.int .i64 (f j).y.s) := ⟨r1 0, r1 1, r1 2, r1 3, r1 4, r1 5, r1 6, r1 7, s0, s1, s2, s3⟩
          have ft1 := hR1.thawed
          have lP1 := hR1.lt
          clear r1 s0 s1 s2 s3 k1
          go_wp2_with fail
          refine hK.out _ _ ⟨fun _ _ => HC1, ?_⟩
          clear hK K
          try simp only [Act.put, List.setIfInBounds_toArray, List.set_cons_zero, List.set_cons_succ]
          refine wpAnyS_one (j := 23) (by kernel_rfl) rfl (fun K hK => ?_)
          go_simp
          refine hK.out _ _ ⟨fun h => absurd rfl h, ?_⟩
          clear hK K
          try simp only [Act.put, List.setIfInBounds_toArray, List.set_cons_zero, List.set_cons_succ]
          refine wpAnyS_done (by kernel_rfl) ?_ _
          go_wp2_with fail
          go_roundw
          case rel => exact ⟨j + 1, by omega, by omega, by go_num, Lib.hid ⟨hW1.away8 (by omega) _ _ _ _ _ _ _ _, (((((((hR1.set 0 _).set 1 _).set 2 _).set 3 _).set 4 _).set 5 _).set 6 _).set 7 _, by (repeat (first | with_reducible refine Below.drew ?_ | with_reducible refine bdrewN ?_ _ | (with_reducible refine Below.setCell ?_ ?_ _; rotate_left; focus (first | exact Nat.le_refl _ | omega | (simp; omega) | (simp; done))) | (with_reducible refine Below.alloc ?_ ?_ _; rotate_left; focus (first | exact Nat.le_refl _ | omega | (simp; omega) | (simp; done))))); with_reducible exact HB1.out⟩⟩
          case measure => simp [intOf]; omega
        · obtain rfl : k = j := by omega
          have rd := hS.out.1.reads
          have ft := hS.out.1.thawed
          have lW := hS.out.1.lt
          have rb := hS.out.2.1.reads
          have lP := hS.out.2.1.lt
          go_wp2
          refine bodyPost_ret (v := .tuple #[(ofN f k).val, .int .i64 0]) (by simp [results, Try.results45, go_sem, rd]) rfl ⟨rfl, ?_⟩
          (repeat (first | with_reducible refine Below.drew ?_ | with_reducible refine bdrewN ?_ _ | (with_reducible refine Below.setCell ?_ ?_ _; rotate_left; focus (first | exact Nat.le_refl _ | omega | (simp; omega) | (simp; done))) | (with_reducible refine Below.alloc ?_ ?_ _; rotate_left; focus (first | exact Nat.le_refl _ | omega | (simp; omega) | (simp; done))))); with_reducible exact hS.out.2.2
end Go.Proofs.Ytmleoagdelgddaa
