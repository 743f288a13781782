/- The walks of dec's small functions: bounds, magnitude, powers, Check, checkBoth, Neg. -/
import Derived.Test.YtmleoagdelgddaaRows
import Derived.Test.YtmleoagdelgddaaDecMath
import Derived.WalkKit
import Derived.WalkSpells
import Derived.Outline
import Derived.Lib.Hide
namespace Go.Proofs.Ytmleoagdelgddaa
open Go.RowKit Dec

theorem bcell {W w1 : World} (hb : Below W.heap.size W w1) : (∀ b o, b < W.heap.size → w1.cell? ⟨b, o, none⟩ = W.cell? ⟨b, o, none⟩) ∧ (∀ b o, b < W.heap.size → w1.frozen? ⟨b, o, none⟩ = W.frozen? ⟨b, o, none⟩) :=
  ⟨fun b o h => hb.cell (p := ⟨b, o, none⟩) h, fun b o h => hb.frozen (p := ⟨b, o, none⟩) h⟩
theorem ret_int {k : IntKind} {a b : Int} (h : a = b) : Ending.returned (.int k a) = .returned (.int k b) := by rw [h]

theorem magnitude_pos (m : Int) (w : World) (h0 : 0 ≤ m) (h1 : m ≤ 4611686018427387904) :
    Calls Try.prog 87 #[.int .i64 m] w fun e w' => e = .returned (.int .u64 (m.natAbs : Int)) ∧ w = w' := by
  have hm : ¬ m < 0 := by omega
  go_enter Try.func87, Try.ntmps87
  go_wp2
  go_ret
  exact ⟨ret_int (by omega), rfl⟩
theorem magnitude_neg (m : Int) (w : World) (h0 : m < 0) (h1 : -4611686018427387904 ≤ m) :
    Calls Try.prog 87 #[.int .i64 m] w fun e w' => e = .returned (.int .u64 (m.natAbs : Int)) ∧ w = w' := by
  go_enter Try.func87, Try.ntmps87
  go_wp2
  go_ret
  exact ⟨ret_int (by omega), rfl⟩
theorem magnitude_any (m : Int) (w : World) (h0 : -4611686018427387904 ≤ m) (h1 : m ≤ 4611686018427387904) :
    Calls Try.prog 87 #[.int .i64 m] w fun e w' => e = .returned (.int .u64 (m.natAbs : Int)) ∧ w = w' := by
  by_cases h : m < 0
  · exact magnitude_neg m w h h0
  · exact magnitude_pos m w (by omega) h1

theorem inBounds_yes (m : Int) (w : World) (h0 : -999999999999999999 ≤ m) (h1 : m ≤ 999999999999999999) :
    Calls Try.prog 81 #[.int .i64 m] w fun e w' => e = .returned (.bool true) ∧ w = w' := by
  go_enter Try.func81, Try.ntmps81
  go_wp2
  go_ret
  simp
theorem inBounds_no (m : Int) (w : World) (h : m < -999999999999999999 ∨ 999999999999999999 < m) :
    Calls Try.prog 81 #[.int .i64 m] w fun e w' => e = .returned (.bool false) ∧ w = w' := by
  by_cases h0 : -999999999999999999 ≤ m
  · have h1 : ¬ m ≤ 999999999999999999 := by omega
    clear h
    go_enter Try.func81, Try.ntmps81
    go_wp2
    go_ret
    simp
  · clear h
    go_enter Try.func81, Try.ntmps81
    go_wp2
    go_ret
    simp

theorem check_ok0 (m : Int) (w : World) (h1 : -999999999999999999 ≤ m) (h2 : m ≤ 999999999999999999) :
    Calls Try.prog 68 #[.agg #[.int .i64 m, .int .i64 0]] w fun e w' => e = .returned (.int .i64 0) ∧ Below w.heap.size w w' := by
  go_enter Try.func68, Try.ntmps68
  go_wp2_with (go_at_call 81; refine (inBounds_yes _ _ h1 h2).mono ?_; rintro e w' ⟨rfl, rfl⟩)
  go_ret
  exact ⟨rfl, (Below.refl _ _).alloc (Nat.le_refl _) _⟩
theorem check_ok1 (m s : Int) (w : World) (h1 : -999999999999999999 ≤ m) (h2 : m ≤ 999999999999999999) (h3 : 0 < s) (h4 : s ≤ 9) (h5 : (m.tmod 10 == 0) = false) :
    Calls Try.prog 68 #[.agg #[.int .i64 m, .int .i64 s]] w fun e w' => e = .returned (.int .i64 0) ∧ Below w.heap.size w w' := by
  go_enter Try.func68, Try.ntmps68
  go_wp2_with (go_at_call 81; refine (inBounds_yes _ _ h1 h2).mono ?_; rintro e w' ⟨rfl, rfl⟩)
  go_ret
  exact ⟨rfl, (Below.refl _ _).alloc (Nat.le_refl _) _⟩
theorem check_bad1 (m s : Int) (w : World) (h : m < -999999999999999999 ∨ 999999999999999999 < m) :
    Calls Try.prog 68 #[.agg #[.int .i64 m, .int .i64 s]] w fun e w' => e = .returned (.int .i64 1) ∧ Below w.heap.size w w' := by
  have H := Lib.hid h
  clear h
  go_enter Try.func68, Try.ntmps68
  go_wp2_with (go_at_call 81; refine (inBounds_no _ _ H.out).mono ?_; rintro e w' ⟨rfl, rfl⟩)
  go_ret
  exact ⟨rfl, (Below.refl _ _).alloc (Nat.le_refl _) _⟩
theorem check_bad2 (m s : Int) (w : World) (h1 : -999999999999999999 ≤ m) (h2 : m ≤ 999999999999999999) (h3 : s < 0) :
    Calls Try.prog 68 #[.agg #[.int .i64 m, .int .i64 s]] w fun e w' => e = .returned (.int .i64 1) ∧ Below w.heap.size w w' := by
  go_enter Try.func68, Try.ntmps68
  go_wp2_with (go_at_call 81; refine (inBounds_yes _ _ h1 h2).mono ?_; rintro e w' ⟨rfl, rfl⟩)
  go_ret
  exact ⟨rfl, (Below.refl _ _).alloc (Nat.le_refl _) _⟩
theorem check_bad3 (m s : Int) (w : World) (h1 : -999999999999999999 ≤ m) (h2 : m ≤ 999999999999999999) (h3 : ¬ s < 0) (h4 : 9 < s) :
    Calls Try.prog 68 #[.agg #[.int .i64 m, .int .i64 s]] w fun e w' => e = .returned (.int .i64 1) ∧ Below w.heap.size w w' := by
  go_enter Try.func68, Try.ntmps68
  go_wp2_with (go_at_call 81; refine (inBounds_yes _ _ h1 h2).mono ?_; rintro e w' ⟨rfl, rfl⟩)
  go_ret
  exact ⟨rfl, (Below.refl _ _).alloc (Nat.le_refl _) _⟩
theorem check_bad4 (m s : Int) (w : World) (h1 : -999999999999999999 ≤ m) (h2 : m ≤ 999999999999999999) (h3 : 0 < s) (h4 : s ≤ 9) (h5 : (m.tmod 10 == 0) = true) :
    Calls Try.prog 68 #[.agg #[.int .i64 m, .int .i64 s]] w fun e w' => e = .returned (.int .i64 1) ∧ Below w.heap.size w w' := by
  go_enter Try.func68, Try.ntmps68
  go_wp2_with (go_at_call 81; refine (inBounds_yes _ _ h1 h2).mono ?_; rintro e w' ⟨rfl, rfl⟩)
  go_ret
  exact ⟨rfl, (Below.refl _ _).alloc (Nat.le_refl _) _⟩

theorem tmod10 (m : Int) : m.tmod 10 = 0 ↔ m % 10 = 0 := by
  rw [← Int.dvd_iff_tmod_eq_zero, Int.dvd_iff_emod_eq_zero]

theorem check_ok (m s : Int) (w : World) (hv : Valid m s) :
    Calls Try.prog 68 #[.agg #[.int .i64 m, .int .i64 s]] w fun e w' => e = .returned (.int .i64 0) ∧ Below w.heap.size w w' := by
  obtain ⟨h1, h2, h3, h4, h5⟩ := hv
  by_cases h : s = 0
  · subst h; exact check_ok0 m w h1 h2
  · have := tmod10 m
    exact check_ok1 m s w h1 h2 (by omega) h4 (by rw [beq_eq_false_iff_ne]; intro e; rw [tmod10] at e; omega)
theorem check_bad (m s : Int) (w : World) (hv : ¬ Valid m s) :
    Calls Try.prog 68 #[.agg #[.int .i64 m, .int .i64 s]] w fun e w' => e = .returned (.int .i64 1) ∧ Below w.heap.size w w' := by
  unfold Valid at hv
  by_cases h : m < -999999999999999999 ∨ 999999999999999999 < m
  · exact check_bad1 m s w h
  by_cases h3 : s < 0
  · exact check_bad2 m s w (by omega) (by omega) h3
  by_cases h4 : 9 < s
  · exact check_bad3 m s w (by omega) (by omega) h3 h4
  exact check_bad4 m s w (by omega) (by omega) (by omega) (by omega) (by rw [beq_iff_eq, tmod10]; omega)
end Go.Proofs.Ytmleoagdelgddaa
