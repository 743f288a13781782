/- The reference's Right of a matrix: the walk. -/
import Derived.Test.YtpdjooeogpidhaaRefRight
import Derived.Test.YtpdjooeogpidhaaMatMath
import Derived.Test.YtpdjooeogpidhaaMem
namespace Go.Proofs.Ytpdjooeogpidhaa
open Go.RowKit Dec

theorem right_is (d : DV) (B : Bool) (hB : decide d.Ok = B) (w : World) : Calls Try.prog 30 #[.agg #[.int .i64 d.m, .int .i64 d.s]] w fun e w' => e = .returned (.bool B) ∧ Below w.heap.size w w' := by
  subst hB
  exact right_any d.m d.s w
set_option maxRecDepth 100000 in
set_option maxHeartbeats 4000000 in
theorem mright_any (m : MV) (w : World) (E : Bool) (h : decide m.Ok = E) : Calls Try.prog 13 #[.agg #[.int .i64 m.a.m, .int .i64 m.a.s, .int .i64 m.b.m, .int .i64 m.b.s, .int .i64 m.c.m, .int .i64 m.c.s, .int .i64 m.d.m, .int .i64 m.d.s, .int .i64 m.e.m, .int .i64 m.e.s, .int .i64 m.f.m, .int .i64 m.f.s]] w fun e w' => e = .returned (.bool E) ∧ Below w.heap.size w w' := by
  have H := Lib.hid (And.intro (Whole.made w 25 #[.int .i64 m.a.m, .int .i64 m.a.s, .int .i64 m.b.m, .int .i64 m.b.s, .int .i64 m.c.m, .int .i64 m.c.s, .int .i64 m.d.m, .int .i64 m.d.s, .int .i64 m.e.m, .int .i64 m.e.s, .int .i64 m.f.m, .int .i64 m.f.s]) ((Below.refl w.heap.size w).alloc (Nat.le_refl _) (.cells #[.int .i64 m.a.m, .int .i64 m.a.s, .int .i64 m.b.m, .int .i64 m.b.s, .int .i64 m.c.m, .int .i64 m.c.s, .int .i64 m.d.m, .int .i64 m.d.s, .int .i64 m.e.m, .int .i64 m.e.s, .int .i64 m.f.m, .int .i64 m.f.s] 25)))
  have HE := Lib.hid h
  clear h
  go_enter Try.func13, Try.ntmps13
  go_wp2_with fail
  by_cases h0 : m.a.Ok
  rotate_left
  · obtain rfl : false = E := by rw [← HE.out]; exact (decide_eq_false (fun k : m.Ok => h0 k.1)).symm
    refine (right_is m.a false (decide_eq_false h0) _).mono ?_
    rintro e v ⟨rfl, kk⟩
    have HF := Lib.hid (H.out.2.trans (kk.mono H.out.2.size))
    clear kk HE H h0
    go_wp2_with fail
    go_ret
    exact ⟨rfl, HF.out⟩
  refine (right_is m.a true (decide_eq_true h0) _).mono ?_
  rintro e w0 ⟨rfl, kk⟩
  have H := Lib.hid (And.intro (H.out.1.here kk) (H.out.2.trans (kk.mono H.out.2.size)))
  have G0 := Lib.hid h0
  clear kk h0
  have k0 : w0.cell? ⟨w.heap.size, 2, none⟩ = some (.int .i64 m.b.m) := H.out.1.reads 2
  have k1 : w0.cell? ⟨w.heap.size, 3, none⟩ = some (.int .i64 m.b.s) := H.out.1.reads 3
  have lt := H.out.1.lt
  go_wp2_with fail
  by_cases h1 : m.b.Ok
  rotate_left
  · obtain rfl : false = E := by rw [← HE.out]; exact (decide_eq_false (fun k : m.Ok => h1 k.2.1)).symm
    refine (right_is m.b false (decide_eq_false h1) _).mono ?_
    rintro e v ⟨rfl, kk⟩
    have HF := Lib.hid (H.out.2.trans (kk.mono H.out.2.size))
    clear kk HE H h1
    go_wp2_with fail
    go_ret
    exact ⟨rfl, HF.out⟩
  refine (right_is m.b true (decide_eq_true h1) _).mono ?_
  rintro e w1 ⟨rfl, kk⟩
  have H := Lib.hid (And.intro (H.out.1.here kk) (H.out.2.trans (kk.mono H.out.2.size)))
  clear k0 k1 lt
  have G1 := Lib.hid h1
  clear kk h1
  have k0 : w1.cell? ⟨w.heap.size, 4, none⟩ = some (.int .i64 m.c.m) := H.out.1.reads 4
  have k1 : w1.cell? ⟨w.heap.size, 5, none⟩ = some (.int .i64 m.c.s) := H.out.1.reads 5
  have lt := H.out.1.lt
  go_wp2_with fail
  by_cases h2 : m.c.Ok
  rotate_left
  · obtain rfl : false = E := by rw [← HE.out]; exact (decide_eq_false (fun k : m.Ok => h2 k.2.2.1)).symm
    refine (right_is m.c false (decide_eq_false h2) _).mono ?_
    rintro e v ⟨rfl, kk⟩
    have HF := Lib.hid (H.out.2.trans (kk.mono H.out.2.size))
    clear kk HE H h2
    go_wp2_with fail
    go_ret
    exact ⟨rfl, HF.out⟩
  refine (right_is m.c true (decide_eq_true h2) _).mono ?_
  rintro e w2 ⟨rfl, kk⟩
  have H := Lib.hid (And.intro (H.out.1.here kk) (H.out.2.trans (kk.mono H.out.2.size)))
  clear k0 k1 lt
  have G2 := Lib.hid h2
  clear kk h2
  have k0 : w2.cell? ⟨w.heap.size, 6, none⟩ = some (.int .i64 m.d.m) := H.out.1.reads 6
  have k1 : w2.cell? ⟨w.heap.size, 7, none⟩ = some (.int .i64 m.d.s) := H.out.1.reads 7
  have lt := H.out.1.lt
  go_wp2_with fail
  by_cases h3 : m.d.Ok
  rotate_left
  · obtain rfl : false = E := by rw [← HE.out]; exact (decide_eq_false (fun k : m.Ok => h3 k.2.2.2.1)).symm
    refine (right_is m.d false (decide_eq_false h3) _).mono ?_
    rintro e v ⟨rfl, kk⟩
    have HF := Lib.hid (H.out.2.trans (kk.mono H.out.2.size))
    clear kk HE H h3
    go_wp2_with fail
    go_ret
    exact ⟨rfl, HF.out⟩
  refine (right_is m.d true (decide_eq_true h3) _).mono ?_
  rintro e w3 ⟨rfl, kk⟩
  have H := Lib.hid (And.intro (H.out.1.here kk) (H.out.2.trans (kk.mono H.out.2.size)))
  clear k0 k1 lt
  have G3 := Lib.hid h3
  clear kk h3
  have k0 : w3.cell? ⟨w.heap.size, 8, none⟩ = some (.int .i64 m.e.m) := H.out.1.reads 8
  have k1 : w3.cell? ⟨w.heap.size, 9, none⟩ = some (.int .i64 m.e.s) := H.out.1.reads 9
  have lt := H.out.1.lt
  go_wp2_with fail
  by_cases h4 : m.e.Ok
  rotate_left
  · obtain rfl : false = E := by rw [← HE.out]; exact (decide_eq_false (fun k : m.Ok => h4 k.2.2.2.2.1)).symm
    refine (right_is m.e false (decide_eq_false h4) _).mono ?_
    rintro e v ⟨rfl, kk⟩
    have HF := Lib.hid (H.out.2.trans (kk.mono H.out.2.size))
    clear kk HE H h4
    go_wp2_with fail
    go_ret
    exact ⟨rfl, HF.out⟩
  refine (right_is m.e true (decide_eq_true h4) _).mono ?_
  rintro e w4 ⟨rfl, kk⟩
  have H := Lib.hid (And.intro (H.out.1.here kk) (H.out.2.trans (kk.mono H.out.2.size)))
  clear k0 k1 lt
  have G4 := Lib.hid h4
  clear kk h4
  have k0 : w4.cell? ⟨w.heap.size, 10, none⟩ = some (.int .i64 m.f.m) := H.out.1.reads 10
  have k1 : w4.cell? ⟨w.heap.size, 11, none⟩ = some (.int .i64 m.f.s) := H.out.1.reads 11
  have lt := H.out.1.lt
  go_wp2_with fail
  by_cases h5 : m.f.Ok
  rotate_left
  · obtain rfl : false = E := by rw [← HE.out]; exact (decide_eq_false (fun k : m.Ok => h5 k.2.2.2.2.2)).symm
    refine (right_is m.f false (decide_eq_false h5) _).mono ?_
    rintro e v ⟨rfl, kk⟩
    have HF := Lib.hid (H.out.2.trans (kk.mono H.out.2.size))
    clear kk HE H h5
    go_wp2_with fail
    go_ret
    exact ⟨rfl, HF.out⟩
  refine (right_is m.f true (decide_eq_true h5) _).mono ?_
  rintro e w5 ⟨rfl, kk⟩
  have H := Lib.hid (And.intro (H.out.1.here kk) (H.out.2.trans (kk.mono H.out.2.size)))
  clear k0 k1 lt
  have G5 := Lib.hid h5
  clear kk h5
  obtain rfl : true = E := by rw [← HE.out]; exact (decide_eq_true (show m.Ok from ⟨G0.out, G1.out, G2.out, G3.out, G4.out, G5.out⟩)).symm
  clear HE
  go_wp2_with fail
  go_ret
  exact ⟨rfl, H.out.2⟩
end Go.Proofs.Ytpdjooeogpidhaa
