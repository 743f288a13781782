/- The reference's order of two numbers, the lesser, the greater: the walks. -/
import Derived.Test.YtpdjooeogpidhaaRefCmp
import Derived.Test.YtpdjooeogpidhaaRefMat
import Derived.Test.YtpdjooeogpidhaaBoxWalkA
import Derived.Test.YtpdjooeogpidhaaRegionS
import Derived.Test.YtpdjooeogpidhaaBoxOf
namespace Go.Proofs.Ytpdjooeogpidhaa
open Go.RowKit Dec

theorem refcompare_ok (a b : DV) (w : World) (ha : a.Ok) (hb : b.Ok) :
    Calls Try.prog 52 #[.agg #[.int .i64 a.m, .int .i64 a.s], .agg #[.int .i64 b.m, .int .i64 b.s]] w fun e w' => e = .returned (.tuple #[.int .i64 (Lib.compareInt a.v b.v), .int .i64 0]) ∧ Below w.heap.size w w' := by
  obtain ⟨am, s⟩ := a
  obtain ⟨bm, s'⟩ := b
  obtain ⟨k, rfl⟩ : ∃ n : Nat, s = n := ⟨s.toNat, by have := ha.2.2.1; simp only at this; omega⟩
  obtain ⟨k', rfl⟩ : ∃ n : Nat, s' = n := ⟨s'.toNat, by have := hb.2.2.1; simp only at this; omega⟩
  exact refcmp_ok am bm k k' w ha hb
theorem upto_yes (a b : DV) (w : World) (c : Int) (h : Hid (a.Ok ∧ b.Ok ∧ Lib.compareInt a.v b.v = c)) (hc : c ≤ 0) :
    Calls Try.prog 39 #[.agg #[.int .i64 a.m, .int .i64 a.s], .agg #[.int .i64 b.m, .int .i64 b.s]] w fun e w' => e = .returned (.bool true) ∧ Below w.heap.size w w' := by
  go_enter Try.func39, Try.ntmps39
  go_wp2_with fail
  refine (refcompare_ok a b _ h.out.1 h.out.2.1).mono ?_
  rw [h.out.2.2]
  rintro e w1 ⟨rfl, hb⟩
  go_wp2
  go_ret
  exact ⟨by simp, by (repeat (first | with_reducible exact Below.refl _ _ | with_reducible refine Below.drew ?_ | with_reducible refine bdrewN ?_ _ | (with_reducible refine Below.setCell ?_ ?_ _; rotate_left; focus (first | exact Nat.le_refl _ | omega | (simp; omega) | (simp; done))) | (with_reducible refine Below.alloc ?_ ?_ _; rotate_left; focus (first | exact Nat.le_refl _ | omega | (simp; omega) | (simp; done))) | (with_reducible refine Below.trans ?_ (Below.mono (by assumption) ?_); rotate_left; focus (first | exact Nat.le_refl _ | omega | (simp; omega) | (simp; done)))))⟩
theorem upto_no (a b : DV) (w : World) (c : Int) (h : Hid (a.Ok ∧ b.Ok ∧ Lib.compareInt a.v b.v = c)) (hc : 0 < c) :
    Calls Try.prog 39 #[.agg #[.int .i64 a.m, .int .i64 a.s], .agg #[.int .i64 b.m, .int .i64 b.s]] w fun e w' => e = .returned (.bool false) ∧ Below w.heap.size w w' := by
  go_enter Try.func39, Try.ntmps39
  go_wp2_with fail
  refine (refcompare_ok a b _ h.out.1 h.out.2.1).mono ?_
  rw [h.out.2.2]
  rintro e w1 ⟨rfl, hb⟩
  go_wp2
  go_ret
  exact ⟨by simp; exact hc, by (repeat (first | with_reducible exact Below.refl _ _ | with_reducible refine Below.drew ?_ | with_reducible refine bdrewN ?_ _ | (with_reducible refine Below.setCell ?_ ?_ _; rotate_left; focus (first | exact Nat.le_refl _ | omega | (simp; omega) | (simp; done))) | (with_reducible refine Below.alloc ?_ ?_ _; rotate_left; focus (first | exact Nat.le_refl _ | omega | (simp; omega) | (simp; done))) | (with_reducible refine Below.trans ?_ (Below.mono (by assumption) ?_); rotate_left; focus (first | exact Nat.le_refl _ | omega | (simp; omega) | (simp; done)))))⟩
theorem upto_any (a b : DV) (w : World) (ha : a.Ok) (hb : b.Ok) (r : Bool) (h : leB a b = r) :
    Calls Try.prog 39 #[.agg #[.int .i64 a.m, .int .i64 a.s], .agg #[.int .i64 b.m, .int .i64 b.s]] w fun e w' => e = .returned (.bool r) ∧ Below w.heap.size w w' := by
  have k := cmp_le a.v b.v
  cases r with
  | true => exact upto_yes a b w _ ⟨ha, hb, rfl⟩ (k.1.2 (leB_iff.1 h).2.2)
  | false => exact upto_no a b w _ ⟨ha, hb, rfl⟩ (k.2.2.2 (Int.lt_of_not_ge fun q => leB_not.1 h ⟨ha, hb, q⟩))

theorem least_any (a b : DV) (w : World) (ha : a.Ok) (hb : b.Ok) :
    Calls Try.prog 41 #[.agg #[.int .i64 a.m, .int .i64 a.s], .agg #[.int .i64 b.m, .int .i64 b.s]] w fun e w' => e = .returned (.agg #[.int .i64 (lesD a b).m, .int .i64 (lesD a b).s]) ∧ Below w.heap.size w w' := by
  cases h : leB a b
  · rw [lesD_no h]
    have H := Lib.hid (And.intro ha (And.intro hb h))
    clear h ha hb
    go_enter Try.func41, Try.ntmps41
    go_wp2_with fail
    refine (upto_any a b _ H.out.1 H.out.2.1 false H.out.2.2).mono ?_
    rintro e w1 ⟨rfl, hb⟩
    obtain ⟨hc, hf⟩ := bcell hb
    have hz := hb.size
    simp at hz
    have l0 : w.heap.size < w1.heap.size := (by omega); have l1 : w.heap.size + 1 < w1.heap.size := (by omega); have l2 : w.heap.size + 1 + 1 < w1.heap.size := (by omega)
    go_wp2
    exact bodyPost_ret (v := .agg #[.int .i64 b.m, .int .i64 b.s]) (by simp [results, Try.results41, go_sem, hc]) rfl ⟨rfl, by (repeat (first | with_reducible exact Below.refl _ _ | with_reducible refine Below.drew ?_ | with_reducible refine bdrewN ?_ _ | (with_reducible refine Below.setCell ?_ ?_ _; rotate_left; focus (first | exact Nat.le_refl _ | omega | (simp; omega) | (simp; done))) | (with_reducible refine Below.alloc ?_ ?_ _; rotate_left; focus (first | exact Nat.le_refl _ | omega | (simp; omega) | (simp; done))) | (with_reducible refine Below.trans ?_ (Below.mono (by assumption) ?_); rotate_left; focus (first | exact Nat.le_refl _ | omega | (simp; omega) | (simp; done)))))⟩
  · rw [lesD_yes h]
    have H := Lib.hid (And.intro ha (And.intro hb h))
    clear h ha hb
    go_enter Try.func41, Try.ntmps41
    go_wp2_with fail
    refine (upto_any a b _ H.out.1 H.out.2.1 true H.out.2.2).mono ?_
    rintro e w1 ⟨rfl, hb⟩
    obtain ⟨hc, hf⟩ := bcell hb
    have hz := hb.size
    simp at hz
    have l0 : w.heap.size < w1.heap.size := (by omega); have l1 : w.heap.size + 1 < w1.heap.size := (by omega); have l2 : w.heap.size + 1 + 1 < w1.heap.size := (by omega)
    go_wp2
    exact bodyPost_ret (v := .agg #[.int .i64 a.m, .int .i64 a.s]) (by simp [results, Try.results41, go_sem, hc]) rfl ⟨rfl, by (repeat (first | with_reducible exact Below.refl _ _ | with_reducible refine Below.drew ?_ | with_reducible refine bdrewN ?_ _ | (with_reducible refine Below.setCell ?_ ?_ _; rotate_left; focus (first | exact Nat.le_refl _ | omega | (simp; omega) | (simp; done))) | (with_reducible refine Below.alloc ?_ ?_ _; rotate_left; focus (first | exact Nat.le_refl _ | omega | (simp; omega) | (simp; done))) | (with_reducible refine Below.trans ?_ (Below.mono (by assumption) ?_); rotate_left; focus (first | exact Nat.le_refl _ | omega | (simp; omega) | (simp; done)))))⟩
theorem most_any (a b : DV) (w : World) (ha : a.Ok) (hb : b.Ok) :
    Calls Try.prog 40 #[.agg #[.int .i64 a.m, .int .i64 a.s], .agg #[.int .i64 b.m, .int .i64 b.s]] w fun e w' => e = .returned (.agg #[.int .i64 (greD a b).m, .int .i64 (greD a b).s]) ∧ Below w.heap.size w w' := by
  cases h : leB a b
  · rw [greD_no h]
    have H := Lib.hid (And.intro ha (And.intro hb h))
    clear h ha hb
    go_enter Try.func40, Try.ntmps40
    go_wp2_with fail
    refine (upto_any a b _ H.out.1 H.out.2.1 false H.out.2.2).mono ?_
    rintro e w1 ⟨rfl, hb⟩
    obtain ⟨hc, hf⟩ := bcell hb
    have hz := hb.size
    simp at hz
    have l0 : w.heap.size < w1.heap.size := (by omega); have l1 : w.heap.size + 1 < w1.heap.size := (by omega); have l2 : w.heap.size + 1 + 1 < w1.heap.size := (by omega)
    go_wp2
    exact bodyPost_ret (v := .agg #[.int .i64 a.m, .int .i64 a.s]) (by simp [results, Try.results40, go_sem, hc]) rfl ⟨rfl, by (repeat (first | with_reducible exact Below.refl _ _ | with_reducible refine Below.drew ?_ | with_reducible refine bdrewN ?_ _ | (with_reducible refine Below.setCell ?_ ?_ _; rotate_left; focus (first | exact Nat.le_refl _ | omega | (simp; omega) | (simp; done))) | (with_reducible refine Below.alloc ?_ ?_ _; rotate_left; focus (first | exact Nat.le_refl _ | omega | (simp; omega) | (simp; done))) | (with_reducible refine Below.trans ?_ (Below.mono (by assumption) ?_); rotate_left; focus (first | exact Nat.le_refl _ | omega | (simp; omega) | (simp; done)))))⟩
  · rw [greD_yes h]
    have H := Lib.hid (And.intro ha (And.intro hb h))
    clear h ha hb
    go_enter Try.func40, Try.ntmps40
    go_wp2_with fail
    refine (upto_any a b _ H.out.1 H.out.2.1 true H.out.2.2).mono ?_
    rintro e w1 ⟨rfl, hb⟩
    obtain ⟨hc, hf⟩ := bcell hb
    have hz := hb.size
    simp at hz
    have l0 : w.heap.size < w1.heap.size := (by omega); have l1 : w.heap.size + 1 < w1.heap.size := (by omega); have l2 : w.heap.size + 1 + 1 < w1.heap.size := (by omega)
    go_wp2
    exact bodyPost_ret (v := .agg #[.int .i64 b.m, .int .i64 b.s]) (by simp [results, Try.results40, go_sem, hc]) rfl ⟨rfl, by (repeat (first | with_reducible exact Below.refl _ _ | with_reducible refine Below.drew ?_ | with_reducible refine bdrewN ?_ _ | (with_reducible refine Below.setCell ?_ ?_ _; rotate_left; focus (first | exact Nat.le_refl _ | omega | (simp; omega) | (simp; done))) | (with_reducible refine Below.alloc ?_ ?_ _; rotate_left; focus (first | exact Nat.le_refl _ | omega | (simp; omega) | (simp; done))) | (with_reducible refine Below.trans ?_ (Below.mono (by assumption) ?_); rotate_left; focus (first | exact Nat.le_refl _ | omega | (simp; omega) | (simp; done)))))⟩
end Go.Proofs.Ytpdjooeogpidhaa
/- The reference's Right of a box: the walk. -/
namespace Go.Proofs.Ytpdjooeogpidhaa
open Go.RowKit Dec

theorem BV.Ok.nums {b : BV} (h : b.Ok) : b.x0.Ok ∧ b.x1.Ok ∧ b.y0.Ok ∧ b.y1.Ok :=
  ⟨(leB_iff.1 h.1).1, (leB_iff.1 h.1).2.1, (leB_iff.1 h.2).1, (leB_iff.1 h.2).2.1⟩
set_option maxRecDepth 100000 in
set_option maxHeartbeats 4000000 in
theorem bright_any (b : BV) (w : World) (E : Bool) (h : decide b.Ok = E) : Calls Try.prog 26 #[b.val] w fun e w' => e = .returned (.bool E) ∧ Below w.heap.size w w' := by
  have H := Lib.hid (And.intro (Whole.made w 40 #[.int .i64 b.x0.m, .int .i64 b.x0.s, .int .i64 b.y0.m, .int .i64 b.y0.s, .int .i64 b.x1.m, .int .i64 b.x1.s, .int .i64 b.y1.m, .int .i64 b.y1.s]) ((Below.refl w.heap.size w).alloc (Nat.le_refl _) (.cells #[.int .i64 b.x0.m, .int .i64 b.x0.s, .int .i64 b.y0.m, .int .i64 b.y0.s, .int .i64 b.x1.m, .int .i64 b.x1.s, .int .i64 b.y1.m, .int .i64 b.y1.s] 40)))
  have HE := Lib.hid h
  clear h
  go_enter Try.func26, Try.ntmps26
  go_wp2_with fail
  by_cases h0 : b.x0.Ok
  rotate_left
  · obtain rfl : false = E := by rw [← HE.out]; exact (decide_eq_false (fun k : b.Ok => h0 k.nums.1)).symm
    refine (right_is b.x0 false (decide_eq_false h0) _).mono ?_
    rintro e v ⟨rfl, kk⟩
    have HF := Lib.hid (H.out.2.trans (kk.mono H.out.2.size))
    clear kk HE H h0
    go_wp2_with fail
    go_ret
    exact ⟨rfl, HF.out⟩
  refine (right_is b.x0 true (decide_eq_true h0) _).mono ?_
  rintro e w0 ⟨rfl, kk⟩
  have H := Lib.hid (And.intro (H.out.1.here kk) (H.out.2.trans (kk.mono H.out.2.size)))
  skip
  have G0 := Lib.hid h0
  clear kk h0
  have k0 : w0.cell? ⟨w.heap.size, 4, none⟩ = some (.int .i64 b.x1.m) := H.out.1.reads 4
  have k1 : w0.cell? ⟨w.heap.size, 5, none⟩ = some (.int .i64 b.x1.s) := H.out.1.reads 5
  have lt := H.out.1.lt
  go_wp2_with fail
  by_cases h1 : b.x1.Ok
  rotate_left
  · obtain rfl : false = E := by rw [← HE.out]; exact (decide_eq_false (fun k : b.Ok => h1 k.nums.2.1)).symm
    refine (right_is b.x1 false (decide_eq_false h1) _).mono ?_
    rintro e v ⟨rfl, kk⟩
    have HF := Lib.hid (H.out.2.trans (kk.mono H.out.2.size))
    clear kk HE H h1
    go_wp2_with fail
    go_ret
    exact ⟨rfl, HF.out⟩
  refine (right_is b.x1 true (decide_eq_true h1) _).mono ?_
  rintro e w1 ⟨rfl, kk⟩
  have H := Lib.hid (And.intro (H.out.1.here kk) (H.out.2.trans (kk.mono H.out.2.size)))
  clear k0 k1 lt
  have G1 := Lib.hid h1
  clear kk h1
  have k0 : w1.cell? ⟨w.heap.size, 2, none⟩ = some (.int .i64 b.y0.m) := H.out.1.reads 2
  have k1 : w1.cell? ⟨w.heap.size, 3, none⟩ = some (.int .i64 b.y0.s) := H.out.1.reads 3
  have lt := H.out.1.lt
  go_wp2_with fail
  by_cases h2 : b.y0.Ok
  rotate_left
  · obtain rfl : false = E := by rw [← HE.out]; exact (decide_eq_false (fun k : b.Ok => h2 k.nums.2.2.1)).symm
    refine (right_is b.y0 false (decide_eq_false h2) _).mono ?_
    rintro e v ⟨rfl, kk⟩
    have HF := Lib.hid (H.out.2.trans (kk.mono H.out.2.size))
    clear kk HE H h2
    go_wp2_with fail
    go_ret
    exact ⟨rfl, HF.out⟩
  refine (right_is b.y0 true (decide_eq_true h2) _).mono ?_
  rintro e w2 ⟨rfl, kk⟩
  have H := Lib.hid (And.intro (H.out.1.here kk) (H.out.2.trans (kk.mono H.out.2.size)))
  clear k0 k1 lt
  have G2 := Lib.hid h2
  clear kk h2
  have k0 : w2.cell? ⟨w.heap.size, 6, none⟩ = some (.int .i64 b.y1.m) := H.out.1.reads 6
  have k1 : w2.cell? ⟨w.heap.size, 7, none⟩ = some (.int .i64 b.y1.s) := H.out.1.reads 7
  have lt := H.out.1.lt
  go_wp2_with fail
  by_cases h3 : b.y1.Ok
  rotate_left
  · obtain rfl : false = E := by rw [← HE.out]; exact (decide_eq_false (fun k : b.Ok => h3 k.nums.2.2.2)).symm
    refine (right_is b.y1 false (decide_eq_false h3) _).mono ?_
    rintro e v ⟨rfl, kk⟩
    have HF := Lib.hid (H.out.2.trans (kk.mono H.out.2.size))
    clear kk HE H h3
    go_wp2_with fail
    go_ret
    exact ⟨rfl, HF.out⟩
  refine (right_is b.y1 true (decide_eq_true h3) _).mono ?_
  rintro e w3 ⟨rfl, kk⟩
  have H := Lib.hid (And.intro (H.out.1.here kk) (H.out.2.trans (kk.mono H.out.2.size)))
  clear k0 k1 lt
  have G3 := Lib.hid h3
  clear kk h3
  have k0 : w3.cell? ⟨w.heap.size, 0, none⟩ = some (.int .i64 b.x0.m) := H.out.1.reads 0
  have k1 : w3.cell? ⟨w.heap.size, 1, none⟩ = some (.int .i64 b.x0.s) := H.out.1.reads 1
  have k2 : w3.cell? ⟨w.heap.size, 4, none⟩ = some (.int .i64 b.x1.m) := H.out.1.reads 4
  have k3 : w3.cell? ⟨w.heap.size, 5, none⟩ = some (.int .i64 b.x1.s) := H.out.1.reads 5
  have lt := H.out.1.lt
  go_wp2_with fail
  by_cases h0 : leB b.x0 b.x1 = true
  rotate_left
  · obtain rfl : false = E := by rw [← HE.out]; exact (decide_eq_false (fun k : b.Ok => h0 k.1)).symm
    refine (upto_any b.x0 b.x1 _ G0.out G1.out false (by simpa using h0)).mono ?_
    rintro e v ⟨rfl, kk⟩
    have HF := Lib.hid (H.out.2.trans (kk.mono H.out.2.size))
    clear kk HE H h0
    go_wp2_with fail
    go_ret
    exact ⟨rfl, HF.out⟩
  refine (upto_any b.x0 b.x1 _ G0.out G1.out true h0).mono ?_
  rintro e w4 ⟨rfl, kk⟩
  have H := Lib.hid (And.intro (H.out.1.here kk) (H.out.2.trans (kk.mono H.out.2.size)))
  clear k0 k1 k2 k3 lt
  have L0 := Lib.hid h0
  clear kk h0
  have k0 : w4.cell? ⟨w.heap.size, 2, none⟩ = some (.int .i64 b.y0.m) := H.out.1.reads 2
  have k1 : w4.cell? ⟨w.heap.size, 3, none⟩ = some (.int .i64 b.y0.s) := H.out.1.reads 3
  have k2 : w4.cell? ⟨w.heap.size, 6, none⟩ = some (.int .i64 b.y1.m) := H.out.1.reads 6
  have k3 : w4.cell? ⟨w.heap.size, 7, none⟩ = some (.int .i64 b.y1.s) := H.out.1.reads 7
  have lt := H.out.1.lt
  go_wp2_with fail
  by_cases h1 : leB b.y0 b.y1 = true
  rotate_left
  · obtain rfl : false = E := by rw [← HE.out]; exact (decide_eq_false (fun k : b.Ok => h1 k.2)).symm
    refine (upto_any b.y0 b.y1 _ G2.out G3.out false (by simpa using h1)).mono ?_
    rintro e v ⟨rfl, kk⟩
    have HF := Lib.hid (H.out.2.trans (kk.mono H.out.2.size))
    clear kk HE H h1
    go_wp2_with fail
    go_ret
    exact ⟨rfl, HF.out⟩
  refine (upto_any b.y0 b.y1 _ G2.out G3.out true h1).mono ?_
  rintro e w5 ⟨rfl, kk⟩
  have H := Lib.hid (And.intro (H.out.1.here kk) (H.out.2.trans (kk.mono H.out.2.size)))
  clear k0 k1 k2 k3 lt
  have L1 := Lib.hid h1
  clear kk h1
  obtain rfl : true = E := by rw [← HE.out]; exact (decide_eq_true (show b.Ok from ⟨L0.out, L1.out⟩)).symm
  clear HE
  go_wp2_with fail
  go_ret
  exact ⟨rfl, H.out.2⟩
end Go.Proofs.Ytpdjooeogpidhaa
/- The reference's box around two: the walk. -/
namespace Go.Proofs.Ytpdjooeogpidhaa
open Go.RowKit Dec

/-- All four numbers of a box are decimals. -/
structure BV.Nums (b : BV) : Prop where
  x0 : b.x0.Ok
  y0 : b.y0.Ok
  x1 : b.x1.Ok
  y1 : b.y1.Ok
set_option maxRecDepth 100000 in
set_option maxHeartbeats 8000000 in
theorem around_any (a b : BV) (w : World) (ha : a.Nums) (hb : b.Nums) :
    Calls Try.prog 36 #[a.val, b.val] w fun e w' => e = .returned (joinB a b).val ∧ Below w.heap.size w w' := by
  have HN := Lib.hid (And.intro ha hb)
  clear ha hb
  have hA := ((BIn.made w 40 a).old (.cells #[.int .i64 b.x0.m, .int .i64 b.x0.s, .int .i64 b.y0.m, .int .i64 b.y0.s, .int .i64 b.x1.m, .int .i64 b.x1.s, .int .i64 b.y1.m, .int .i64 b.y1.s] 40)).old (.cells #[.int .i64 0, .int .i64 0, .int .i64 0, .int .i64 0, .int .i64 0, .int .i64 0, .int .i64 0, .int .i64 0] 40)
  have hB := (BIn.made (w.alloc (.cells #[.int .i64 a.x0.m, .int .i64 a.x0.s, .int .i64 a.y0.m, .int .i64 a.y0.s, .int .i64 a.x1.m, .int .i64 a.x1.s, .int .i64 a.y1.m, .int .i64 a.y1.s] 40)) 40 b).old (.cells #[.int .i64 0, .int .i64 0, .int .i64 0, .int .i64 0, .int .i64 0, .int .i64 0, .int .i64 0, .int .i64 0] 40)
  have hR := Whole.made ((w.alloc (.cells #[.int .i64 a.x0.m, .int .i64 a.x0.s, .int .i64 a.y0.m, .int .i64 a.y0.s, .int .i64 a.x1.m, .int .i64 a.x1.s, .int .i64 a.y1.m, .int .i64 a.y1.s] 40)).alloc (.cells #[.int .i64 b.x0.m, .int .i64 b.x0.s, .int .i64 b.y0.m, .int .i64 b.y0.s, .int .i64 b.x1.m, .int .i64 b.x1.s, .int .i64 b.y1.m, .int .i64 b.y1.s] 40)) 40 #[.int .i64 0, .int .i64 0, .int .i64 0, .int .i64 0, .int .i64 0, .int .i64 0, .int .i64 0, .int .i64 0]
  have hb0 : Below w.heap.size w (((w.alloc (.cells #[.int .i64 a.x0.m, .int .i64 a.x0.s, .int .i64 a.y0.m, .int .i64 a.y0.s, .int .i64 a.x1.m, .int .i64 a.x1.s, .int .i64 a.y1.m, .int .i64 a.y1.s] 40)).alloc (.cells #[.int .i64 b.x0.m, .int .i64 b.x0.s, .int .i64 b.y0.m, .int .i64 b.y0.s, .int .i64 b.x1.m, .int .i64 b.x1.s, .int .i64 b.y1.m, .int .i64 b.y1.s] 40)).alloc (.cells #[.int .i64 0, .int .i64 0, .int .i64 0, .int .i64 0, .int .i64 0, .int .i64 0, .int .i64 0, .int .i64 0] 40)) := by (repeat (first | with_reducible exact Below.refl _ _ | with_reducible refine Below.drew ?_ | with_reducible refine bdrewN ?_ _ | (with_reducible refine Below.setCell ?_ ?_ _; rotate_left; focus (first | exact Nat.le_refl _ | omega | (simp; omega) | (simp; done))) | (with_reducible refine Below.alloc ?_ ?_ _; rotate_left; focus (first | exact Nat.le_refl _ | omega | (simp; omega) | (simp; done))) | (with_reducible refine Below.trans ?_ (Below.mono (by assumption) ?_); rotate_left; focus (first | exact Nat.le_refl _ | omega | (simp; omega) | (simp; done)))))
  simp only [World.size_alloc] at hB hR
  go_enter Try.func36, Try.ntmps36
  go_wp2_with fail
  generalize ((w.alloc (.cells #[.int .i64 a.x0.m, .int .i64 a.x0.s, .int .i64 a.y0.m, .int .i64 a.y0.s, .int .i64 a.x1.m, .int .i64 a.x1.s, .int .i64 a.y1.m, .int .i64 a.y1.s] 40)).alloc (.cells #[.int .i64 b.x0.m, .int .i64 b.x0.s, .int .i64 b.y0.m, .int .i64 b.y0.s, .int .i64 b.x1.m, .int .i64 b.x1.s, .int .i64 b.y1.m, .int .i64 b.y1.s] 40)).alloc (.cells #[.int .i64 0, .int .i64 0, .int .i64 0, .int .i64 0, .int .i64 0, .int .i64 0, .int .i64 0, .int .i64 0] 40) = W at *
  have HB := Lib.hid hb0
  clear hb0
  have HC0 : W.cell? ⟨w.heap.size, 0, none⟩ = some (.int .i64 a.x0.m) ∧ W.cell? ⟨w.heap.size, 1, none⟩ = some (.int .i64 a.x0.s) ∧ W.cell? ⟨w.heap.size, 2, none⟩ = some (.int .i64 a.y0.m) ∧ W.cell? ⟨w.heap.size, 3, none⟩ = some (.int .i64 a.y0.s) ∧ W.cell? ⟨w.heap.size, 4, none⟩ = some (.int .i64 a.x1.m) ∧ W.cell? ⟨w.heap.size, 5, none⟩ = some (.int .i64 a.x1.s) ∧ W.cell? ⟨w.heap.size, 6, none⟩ = some (.int .i64 a.y1.m) ∧ W.cell? ⟨w.heap.size, 7, none⟩ = some (.int .i64 a.y1.s) ∧ W.cell? ⟨w.heap.size + 1, 0, none⟩ = some (.int .i64 b.x0.m) ∧ W.cell? ⟨w.heap.size + 1, 1, none⟩ = some (.int .i64 b.x0.s) ∧ W.cell? ⟨w.heap.size + 1, 2, none⟩ = some (.int .i64 b.y0.m) ∧ W.cell? ⟨w.heap.size + 1, 3, none⟩ = some (.int .i64 b.y0.s) ∧ W.cell? ⟨w.heap.size + 1, 4, none⟩ = some (.int .i64 b.x1.m) ∧ W.cell? ⟨w.heap.size + 1, 5, none⟩ = some (.int .i64 b.x1.s) ∧ W.cell? ⟨w.heap.size + 1, 6, none⟩ = some (.int .i64 b.y1.m) ∧ W.cell? ⟨w.heap.size + 1, 7, none⟩ = some (.int .i64 b.y1.s) := ⟨hA.1, hA.2.1, hA.2.2.1, hA.2.2.2.1, hA.2.2.2.2.1, hA.2.2.2.2.2.1, hA.2.2.2.2.2.2.1, hA.2.2.2.2.2.2.2, hB.1, hB.2.1, hB.2.2.1, hB.2.2.2.1, hB.2.2.2.2.1, hB.2.2.2.2.2.1, hB.2.2.2.2.2.2.1, hB.2.2.2.2.2.2.2⟩
  refine wp_region_S 21 (fun v => v.cell? ⟨w.heap.size, 0, none⟩ = some (.int .i64 a.x0.m) ∧ v.cell? ⟨w.heap.size, 1, none⟩ = some (.int .i64 a.x0.s) ∧ v.cell? ⟨w.heap.size, 2, none⟩ = some (.int .i64 a.y0.m) ∧ v.cell? ⟨w.heap.size, 3, none⟩ = some (.int .i64 a.y0.s) ∧ v.cell? ⟨w.heap.size, 4, none⟩ = some (.int .i64 a.x1.m) ∧ v.cell? ⟨w.heap.size, 5, none⟩ = some (.int .i64 a.x1.s) ∧ v.cell? ⟨w.heap.size, 6, none⟩ = some (.int .i64 a.y1.m) ∧ v.cell? ⟨w.heap.size, 7, none⟩ = some (.int .i64 a.y1.s) ∧ v.cell? ⟨w.heap.size + 1, 0, none⟩ = some (.int .i64 b.x0.m) ∧ v.cell? ⟨w.heap.size + 1, 1, none⟩ = some (.int .i64 b.x0.s) ∧ v.cell? ⟨w.heap.size + 1, 2, none⟩ = some (.int .i64 b.y0.m) ∧ v.cell? ⟨w.heap.size + 1, 3, none⟩ = some (.int .i64 b.y0.s) ∧ v.cell? ⟨w.heap.size + 1, 4, none⟩ = some (.int .i64 b.x1.m) ∧ v.cell? ⟨w.heap.size + 1, 5, none⟩ = some (.int .i64 b.x1.s) ∧ v.cell? ⟨w.heap.size + 1, 6, none⟩ = some (.int .i64 b.y1.m) ∧ v.cell? ⟨w.heap.size + 1, 7, none⟩ = some (.int .i64 b.y1.s)) (by kernel_rfl) ?_
  refine wpAnyS_takeW (i := 0) (v := ?v1) rfl (by kernel_rfl) (fun _ _ _ h => h) (Or.inl ⟨by rfl, ?y1⟩) (fun _ => HC0) ?r1
  case y1 => intro wq _; go_simp; try with_reducible rfl
  try simp only [Act.put, List.setIfInBounds_toArray, List.set_cons_zero, List.set_cons_succ]
  refine wpAnyS_takeW (i := 2) (v := ?v2) rfl (by kernel_rfl) (fun _ _ _ h => h) (Or.inl ⟨by rfl, ?y2⟩) (fun _ => HC0) ?r2
  case y2 => intro wq _; go_simp; try with_reducible rfl
  try simp only [Act.put, List.setIfInBounds_toArray, List.set_cons_zero, List.set_cons_succ]
  refine wpAnyS_takeW (i := 5) (v := ?v3) rfl (by kernel_rfl) (fun _ _ _ h => h) (Or.inl ⟨by rfl, ?y3⟩) (fun _ => HC0) ?r3
  case y3 => intro wq _; go_simp; try with_reducible rfl
  try simp only [Act.put, List.setIfInBounds_toArray, List.set_cons_zero, List.set_cons_succ]
  refine wpAnyS_takeW (i := 7) (v := ?v4) rfl (by kernel_rfl) (fun _ _ _ h => h) (Or.inl ⟨by rfl, ?y4⟩) (fun _ => HC0) ?r4
  case y4 => intro wq _; go_simp; try with_reducible rfl
  try simp only [Act.put, List.setIfInBounds_toArray, List.set_cons_zero, List.set_cons_succ]
  refine wpAnyS_takeW (i := 10) (v := ?v5) rfl (by kernel_rfl) (fun _ _ _ h => h) (Or.inl ⟨by rfl, ?y5⟩) (fun _ => HC0) ?r5
  case y5 => intro wq _; go_simp; try with_reducible rfl
  try simp only [Act.put, List.setIfInBounds_toArray, List.set_cons_zero, List.set_cons_succ]
  refine wpAnyS_takeW (i := 12) (v := ?v6) rfl (by kernel_rfl) (fun _ _ _ h => h) (Or.inl ⟨by rfl, ?y6⟩) (fun _ => HC0) ?r6
  case y6 => intro wq _; go_simp; try with_reducible rfl
  try simp only [Act.put, List.setIfInBounds_toArray, List.set_cons_zero, List.set_cons_succ]
  refine wpAnyS_takeW (i := 15) (v := ?v7) rfl (by kernel_rfl) (fun _ _ _ h => h) (Or.inl ⟨by rfl, ?y7⟩) (fun _ => HC0) ?r7
  case y7 => intro wq _; go_simp; try with_reducible rfl
  try simp only [Act.put, List.setIfInBounds_toArray, List.set_cons_zero, List.set_cons_succ]
  refine wpAnyS_takeW (i := 17) (v := ?v8) rfl (by kernel_rfl) (fun _ _ _ h => h) (Or.inl ⟨by rfl, ?y8⟩) (fun _ => HC0) ?r8
  case y8 => intro wq _; go_simp; try with_reducible rfl
  try simp only [Act.put, List.setIfInBounds_toArray, List.set_cons_zero, List.set_cons_succ]
  refine wpAnyS_take (i := 1) (v := ?v9) rfl (by kernel_rfl) (fun _ _ _ h => h) (Or.inl ⟨by rfl, ?y9⟩) HC0 ?r9
  case y9 => intro wq hq; (try dsimp only at hq); go_simp; try with_reducible rfl
  try simp only [Act.put, List.setIfInBounds_toArray, List.set_cons_zero, List.set_cons_succ]
  refine wpAnyS_take (i := 3) (v := ?v10) rfl (by kernel_rfl) (fun _ _ _ h => h) (Or.inl ⟨by rfl, ?y10⟩) HC0 ?r10
  case y10 => intro wq hq; (try dsimp only at hq); go_simp; try with_reducible rfl
  try simp only [Act.put, List.setIfInBounds_toArray, List.set_cons_zero, List.set_cons_succ]
  refine wpAnyS_take (i := 6) (v := ?v11) rfl (by kernel_rfl) (fun _ _ _ h => h) (Or.inl ⟨by rfl, ?y11⟩) HC0 ?r11
  case y11 => intro wq hq; (try dsimp only at hq); go_simp; try with_reducible rfl
  try simp only [Act.put, List.setIfInBounds_toArray, List.set_cons_zero, List.set_cons_succ]
  refine wpAnyS_take (i := 8) (v := ?v12) rfl (by kernel_rfl) (fun _ _ _ h => h) (Or.inl ⟨by rfl, ?y12⟩) HC0 ?r12
  case y12 => intro wq hq; (try dsimp only at hq); go_simp; try with_reducible rfl
  try simp only [Act.put, List.setIfInBounds_toArray, List.set_cons_zero, List.set_cons_succ]
  refine wpAnyS_take (i := 11) (v := ?v13) rfl (by kernel_rfl) (fun _ _ _ h => h) (Or.inl ⟨by rfl, ?y13⟩) HC0 ?r13
  case y13 => intro wq hq; (try dsimp only at hq); go_simp; try with_reducible rfl
  try simp only [Act.put, List.setIfInBounds_toArray, List.set_cons_zero, List.set_cons_succ]
  refine wpAnyS_take (i := 13) (v := ?v14) rfl (by kernel_rfl) (fun _ _ _ h => h) (Or.inl ⟨by rfl, ?y14⟩) HC0 ?r14
  case y14 => intro wq hq; (try dsimp only at hq); go_simp; try with_reducible rfl
  try simp only [Act.put, List.setIfInBounds_toArray, List.set_cons_zero, List.set_cons_succ]
  refine wpAnyS_take (i := 16) (v := ?v15) rfl (by kernel_rfl) (fun _ _ _ h => h) (Or.inl ⟨by rfl, ?y15⟩) HC0 ?r15
  case y15 => intro wq hq; (try dsimp only at hq); go_simp; try with_reducible rfl
  try simp only [Act.put, List.setIfInBounds_toArray, List.set_cons_zero, List.set_cons_succ]
  refine wpAnyS_take (i := 18) (v := ?v16) rfl (by kernel_rfl) (fun _ _ _ h => h) (Or.inl ⟨by rfl, ?y16⟩) HC0 ?r16
  case y16 => intro wq hq; (try dsimp only at hq); go_simp; try with_reducible rfl
  try simp only [Act.put, List.setIfInBounds_toArray, List.set_cons_zero, List.set_cons_succ]
  refine wpAnyS_one (j := 4) (by kernel_rfl) rfl (fun K hK => ?_)
  go_simp
  go_at_call 41; (with_reducible refine (least_any a.x0 b.x0 _ HN.out.1.x0 HN.out.2.x0).mono ?_)
  rintro e v1 ⟨rfl, k1⟩
  have k1 := undrew k1
  have hA1 := BIn.later hA k1
  have hB1 := BIn.later hB k1
  have hR1 := Whole.here hR k1
  have HB1 := Lib.hid (HB.out.trans (k1.mono HB.out.size))
  have HC1 : v1.cell? ⟨w.heap.size, 0, none⟩ = some (.int .i64 a.x0.m) ∧ v1.cell? ⟨w.heap.size, 1, none⟩ = some (.int .i64 a.x0.s) ∧ v1.cell? ⟨w.heap.size, 2, none⟩ = some (.int .i64 a.y0.m) ∧ v1.cell? ⟨w.heap.size, 3, none⟩ = some (.int .i64 a.y0.s) ∧ v1.cell? ⟨w.heap.size, 4, none⟩ = some (.int .i64 a.x1.m) ∧ v1.cell? ⟨w.heap.size, 5, none⟩ = some (.int .i64 a.x1.s) ∧ v1.cell? ⟨w.heap.size, 6, none⟩ = some (.int .i64 a.y1.m) ∧ v1.cell? ⟨w.heap.size, 7, none⟩ = some (.int .i64 a.y1.s) ∧ v1.cell? ⟨w.heap.size + 1, 0, none⟩ = some (.int .i64 b.x0.m) ∧ v1.cell? ⟨w.heap.size + 1, 1, none⟩ = some (.int .i64 b.x0.s) ∧ v1.cell? ⟨w.heap.size + 1, 2, none⟩ = some (.int .i64 b.y0.m) ∧ v1.cell? ⟨w.heap.size + 1, 3, none⟩ = some (.int .i64 b.y0.s) ∧ v1.cell? ⟨w.heap.size + 1, 4, none⟩ = some (.int .i64 b.x1.m) ∧ v1.cell? ⟨w.heap.size + 1, 5, none⟩ = some (.int .i64 b.x1.s) ∧ v1.cell? ⟨w.heap.size + 1, 6, none⟩ = some (.int .i64 b.y1.m) ∧ v1.cell? ⟨w.heap.size + 1, 7, none⟩ = some (.int .i64 b.y1.s) := ⟨hA1.1, hA1.2.1, hA1.2.2.1, hA1.2.2.2.1, hA1.2.2.2.2.1, hA1.2.2.2.2.2.1, hA1.2.2.2.2.2.2.1, hA1.2.2.2.2.2.2.2, hB1.1, hB1.2.1, hB1.2.2.1, hB1.2.2.2.1, hB1.2.2.2.2.1, hB1.2.2.2.2.2.1, hB1.2.2.2.2.2.2.1, hB1.2.2.2.2.2.2.2⟩
  clear k1
  go_wp2_with fail
  refine hK.out _ _ ⟨fun _ _ => HC1, ?_⟩
  clear hK K
  try simp only [Act.put, List.setIfInBounds_toArray, List.set_cons_zero, List.set_cons_succ]
  refine wpAnyS_one (j := 9) (by kernel_rfl) rfl (fun K hK => ?_)
  go_simp
  go_at_call 41; (with_reducible refine (least_any a.y0 b.y0 _ HN.out.1.y0 HN.out.2.y0).mono ?_)
  rintro e v2 ⟨rfl, k2⟩
  have hA2 := BIn.later hA1 k2
  have hB2 := BIn.later hB1 k2
  have hR2 := Whole.here hR1 k2
  have HB2 := Lib.hid (HB1.out.trans (k2.mono HB1.out.size))
  have HC2 : v2.cell? ⟨w.heap.size, 0, none⟩ = some (.int .i64 a.x0.m) ∧ v2.cell? ⟨w.heap.size, 1, none⟩ = some (.int .i64 a.x0.s) ∧ v2.cell? ⟨w.heap.size, 2, none⟩ = some (.int .i64 a.y0.m) ∧ v2.cell? ⟨w.heap.size, 3, none⟩ = some (.int .i64 a.y0.s) ∧ v2.cell? ⟨w.heap.size, 4, none⟩ = some (.int .i64 a.x1.m) ∧ v2.cell? ⟨w.heap.size, 5, none⟩ = some (.int .i64 a.x1.s) ∧ v2.cell? ⟨w.heap.size, 6, none⟩ = some (.int .i64 a.y1.m) ∧ v2.cell? ⟨w.heap.size, 7, none⟩ = some (.int .i64 a.y1.s) ∧ v2.cell? ⟨w.heap.size + 1, 0, none⟩ = some (.int .i64 b.x0.m) ∧ v2.cell? ⟨w.heap.size + 1, 1, none⟩ = some (.int .i64 b.x0.s) ∧ v2.cell? ⟨w.heap.size + 1, 2, none⟩ = some (.int .i64 b.y0.m) ∧ v2.cell? ⟨w.heap.size + 1, 3, none⟩ = some (.int .i64 b.y0.s) ∧ v2.cell? ⟨w.heap.size + 1, 4, none⟩ = some (.int .i64 b.x1.m) ∧ v2.cell? ⟨w.heap.size + 1, 5, none⟩ = some (.int .i64 b.x1.s) ∧ v2.cell? ⟨w.heap.size + 1, 6, none⟩ = some (.int .i64 b.y1.m) ∧ v2.cell? ⟨w.heap.size + 1, 7, none⟩ = some (.int .i64 b.y1.s) := ⟨hA2.1, hA2.2.1, hA2.2.2.1, hA2.2.2.2.1, hA2.2.2.2.2.1, hA2.2.2.2.2.2.1, hA2.2.2.2.2.2.2.1, hA2.2.2.2.2.2.2.2, hB2.1, hB2.2.1, hB2.2.2.1, hB2.2.2.2.1, hB2.2.2.2.2.1, hB2.2.2.2.2.2.1, hB2.2.2.2.2.2.2.1, hB2.2.2.2.2.2.2.2⟩
  clear k2
  go_wp2_with fail
  refine hK.out _ _ ⟨fun _ _ => HC2, ?_⟩
  clear hK K
  try simp only [Act.put, List.setIfInBounds_toArray, List.set_cons_zero, List.set_cons_succ]
  refine wpAnyS_one (j := 14) (by kernel_rfl) rfl (fun K hK => ?_)
  go_simp
  go_at_call 40; (with_reducible refine (most_any a.x1 b.x1 _ HN.out.1.x1 HN.out.2.x1).mono ?_)
  rintro e v3 ⟨rfl, k3⟩
  have hA3 := BIn.later hA2 k3
  have hB3 := BIn.later hB2 k3
  have hR3 := Whole.here hR2 k3
  have HB3 := Lib.hid (HB2.out.trans (k3.mono HB2.out.size))
  have HC3 : v3.cell? ⟨w.heap.size, 0, none⟩ = some (.int .i64 a.x0.m) ∧ v3.cell? ⟨w.heap.size, 1, none⟩ = some (.int .i64 a.x0.s) ∧ v3.cell? ⟨w.heap.size, 2, none⟩ = some (.int .i64 a.y0.m) ∧ v3.cell? ⟨w.heap.size, 3, none⟩ = some (.int .i64 a.y0.s) ∧ v3.cell? ⟨w.heap.size, 4, none⟩ = some (.int .i64 a.x1.m) ∧ v3.cell? ⟨w.heap.size, 5, none⟩ = some (.int .i64 a.x1.s) ∧ v3.cell? ⟨w.heap.size, 6, none⟩ = some (.int .i64 a.y1.m) ∧ v3.cell? ⟨w.heap.size, 7, none⟩ = some (.int .i64 a.y1.s) ∧ v3.cell? ⟨w.heap.size + 1, 0, none⟩ = some (.int .i64 b.x0.m) ∧ v3.cell? ⟨w.heap.size + 1, 1, none⟩ = some (.int .i64 b.x0.s) ∧ v3.cell? ⟨w.heap.size + 1, 2, none⟩ = some (.int .i64 b.y0.m) ∧ v3.cell? ⟨w.heap.size + 1, 3, none⟩ = some (.int .i64 b.y0.s) ∧ v3.cell? ⟨w.heap.size + 1, 4, none⟩ = some (.int .i64 b.x1.m) ∧ v3.cell? ⟨w.heap.size + 1, 5, none⟩ = some (.int .i64 b.x1.s) ∧ v3.cell? ⟨w.heap.size + 1, 6, none⟩ = some (.int .i64 b.y1.m) ∧ v3.cell? ⟨w.heap.size + 1, 7, none⟩ = some (.int .i64 b.y1.s) := ⟨hA3.1, hA3.2.1, hA3.2.2.1, hA3.2.2.2.1, hA3.2.2.2.2.1, hA3.2.2.2.2.2.1, hA3.2.2.2.2.2.2.1, hA3.2.2.2.2.2.2.2, hB3.1, hB3.2.1, hB3.2.2.1, hB3.2.2.2.1, hB3.2.2.2.2.1, hB3.2.2.2.2.2.1, hB3.2.2.2.2.2.2.1, hB3.2.2.2.2.2.2.2⟩
  clear k3
  go_wp2_with fail
  refine hK.out _ _ ⟨fun _ _ => HC3, ?_⟩
  clear hK K
  try simp only [Act.put, List.setIfInBounds_toArray, List.set_cons_zero, List.set_cons_succ]
  refine wpAnyS_one (j := 19) (by kernel_rfl) rfl (fun K hK => ?_)
  go_simp
  go_at_call 40; (with_reducible refine (most_any a.y1 b.y1 _ HN.out.1.y1 HN.out.2.y1).mono ?_)
  rintro e v4 ⟨rfl, k4⟩
  have hA4 := BIn.later hA3 k4
  have hB4 := BIn.later hB3 k4
  have hR4 := Whole.here hR3 k4
  have HB4 := Lib.hid (HB3.out.trans (k4.mono HB3.out.size))
  have HC4 : v4.cell? ⟨w.heap.size, 0, none⟩ = some (.int .i64 a.x0.m) ∧ v4.cell? ⟨w.heap.size, 1, none⟩ = some (.int .i64 a.x0.s) ∧ v4.cell? ⟨w.heap.size, 2, none⟩ = some (.int .i64 a.y0.m) ∧ v4.cell? ⟨w.heap.size, 3, none⟩ = some (.int .i64 a.y0.s) ∧ v4.cell? ⟨w.heap.size, 4, none⟩ = some (.int .i64 a.x1.m) ∧ v4.cell? ⟨w.heap.size, 5, none⟩ = some (.int .i64 a.x1.s) ∧ v4.cell? ⟨w.heap.size, 6, none⟩ = some (.int .i64 a.y1.m) ∧ v4.cell? ⟨w.heap.size, 7, none⟩ = some (.int .i64 a.y1.s) ∧ v4.cell? ⟨w.heap.size + 1, 0, none⟩ = some (.int .i64 b.x0.m) ∧ v4.cell? ⟨w.heap.size + 1, 1, none⟩ = some (.int .i64 b.x0.s) ∧ v4.cell? ⟨w.heap.size + 1, 2, none⟩ = some (.int .i64 b.y0.m) ∧ v4.cell? ⟨w.heap.size + 1, 3, none⟩ = some (.int .i64 b.y0.s) ∧ v4.cell? ⟨w.heap.size + 1, 4, none⟩ = some (.int .i64 b.x1.m) ∧ v4.cell? ⟨w.heap.size + 1, 5, none⟩ = some (.int .i64 b.x1.s) ∧ v4.cell? ⟨w.heap.size + 1, 6, none⟩ = some (.int .i64 b.y1.m) ∧ v4.cell? ⟨w.heap.size + 1, 7, none⟩ = some (.int .i64 b.y1.s) := ⟨hA4.1, hA4.2.1, hA4.2.2.1, hA4.2.2.2.1, hA4.2.2.2.2.1, hA4.2.2.2.2.2.1, hA4.2.2.2.2.2.2.1, hA4.2.2.2.2.2.2.2, hB4.1, hB4.2.1, hB4.2.2.1, hB4.2.2.2.1, hB4.2.2.2.2.1, hB4.2.2.2.2.2.1, hB4.2.2.2.2.2.2.1, hB4.2.2.2.2.2.2.2⟩
  clear k4
  have rd4 := hR4.reads
  have ft4 := hR4.thawed
  have l4 := hR4.lt
  go_wp2_with fail
  refine hK.out _ _ ⟨fun _ _ => HC4, ?_⟩
  clear hK K
  try simp only [Act.put, List.setIfInBounds_toArray, List.set_cons_zero, List.set_cons_succ]
  refine wpAnyS_takeW (i := 20) (v := ?v17) rfl (by kernel_rfl) (fun _ _ _ h => h) (Or.inl ⟨by rfl, ?y17⟩) (fun _ => HC4) ?r17
  case y17 => intro wq _; go_simp; try with_reducible rfl
  try simp only [Act.put, List.setIfInBounds_toArray, List.set_cons_zero, List.set_cons_succ]
  refine wpAnyS_one (j := 21) (by kernel_rfl) rfl (fun K hK => ?_)
  go_simp
  refine hK.out _ _ ⟨fun h => absurd rfl h, ?_⟩
  clear hK K
  try simp only [Act.put, List.setIfInBounds_toArray, List.set_cons_zero, List.set_cons_succ]
  refine wpAnyS_done (by kernel_rfl) ?_ _
  go_wp2_with fail
  refine bodyPost_ret (v := (joinB a b).val) (by simp [results, Try.results36, go_sem, rd4, joinB]) rfl ⟨rfl, ?_⟩
  (repeat (first | with_reducible refine Below.drew ?_ | with_reducible refine bdrewN ?_ _ | (with_reducible refine Below.setCell ?_ ?_ _; rotate_left; focus (first | exact Nat.le_refl _ | omega | (simp; omega) | (simp; done))) | (with_reducible refine Below.alloc ?_ ?_ _; rotate_left; focus (first | exact Nat.le_refl _ | omega | (simp; omega) | (simp; done))))); with_reducible exact HB4.out
end Go.Proofs.Ytpdjooeogpidhaa
