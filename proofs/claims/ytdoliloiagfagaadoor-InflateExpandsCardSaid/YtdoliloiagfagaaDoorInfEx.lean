/- inflate: the reference's Is, size, Expand. -/
import Derived.Test.YtdoliloiagfagaaDoorInfV
namespace Go.Proofs.YtdoliloiagfagaaDoor
open Go.RowKit

set_option maxRecDepth 100000 in
set_option maxHeartbeats 2000000 in
theorem ris_any (t : Tk) (w : World) : Calls Tryd.prog 23 #[.agg #[.int .i64 t.byte, .int .i64 t.len, .int .i64 t.back]] w fun e w' => e = .returned (.bool (okTk t)) ∧ Below w.heap.size w w' := by
  by_cases h0 : t.len = 0
  · have d9 : (t.len == 0) = true := by simp [h0]
    by_cases c0 : t.back = 0
    · have d0 : (t.back == 0) = true := by simp [c0]
      by_cases c1 : 0 ≤ t.byte
      · have d1 : decide (t.byte ≥ 0) = true := decide_eq_true c1
        by_cases c2 : t.byte ≤ 255
        · have d2 : decide (t.byte ≤ 255) = true := decide_eq_true c2
          have HV := Lib.hid (show okTk t = true by unfold okTk; rw [if_pos h0]; exact decide_eq_true (⟨c0, c1, c2⟩))
          rw [HV.out]
          clear HV c0 c1 c2
          go_enter Tryd.func23, Tryd.ntmps23
          go_wp2_with fail
          go_ret
          exact ⟨rfl, (Below.refl _ _).alloc (Nat.le_refl _) _⟩
        · have d2 : decide (t.byte ≤ 255) = false := decide_eq_false c2
          have HV := Lib.hid (show okTk t = false by unfold okTk; rw [if_pos h0]; exact decide_eq_false (fun h => c2 (by omega)))
          rw [HV.out]
          clear HV c0 c1 c2
          go_enter Tryd.func23, Tryd.ntmps23
          go_wp2_with fail
          go_ret
          exact ⟨rfl, (Below.refl _ _).alloc (Nat.le_refl _) _⟩
      · have d1 : decide (t.byte ≥ 0) = false := decide_eq_false c1
        have HV := Lib.hid (show okTk t = false by unfold okTk; rw [if_pos h0]; exact decide_eq_false (fun h => c1 (by omega)))
        rw [HV.out]
        clear HV c0 c1
        go_enter Tryd.func23, Tryd.ntmps23
        go_wp2_with fail
        go_ret
        exact ⟨rfl, (Below.refl _ _).alloc (Nat.le_refl _) _⟩
    · have d0 : (t.back == 0) = false := by simp [c0]
      have HV := Lib.hid (show okTk t = false by unfold okTk; rw [if_pos h0]; exact decide_eq_false (fun h => c0 (by omega)))
      rw [HV.out]
      clear HV c0
      go_enter Tryd.func23, Tryd.ntmps23
      go_wp2_with fail
      go_ret
      exact ⟨rfl, (Below.refl _ _).alloc (Nat.le_refl _) _⟩
  · have d9 : (t.len == 0) = false := by simp [h0]
    by_cases c0 : 3 ≤ t.len
    · have d0 : decide (t.len ≥ 3) = true := decide_eq_true c0
      by_cases c1 : t.len ≤ 258
      · have d1 : decide (t.len ≤ 258) = true := decide_eq_true c1
        by_cases c2 : 1 ≤ t.back
        · have d2 : decide (t.back ≥ 1) = true := decide_eq_true c2
          by_cases c3 : t.back ≤ 32768
          · have d3 : decide (t.back ≤ 32768) = true := decide_eq_true c3
            by_cases c4 : t.byte = 0
            · have d4 : (t.byte == 0) = true := by simp [c4]
              have HV := Lib.hid (show okTk t = true by unfold okTk; rw [if_neg h0]; exact decide_eq_true (⟨c4, c0, c1, c2, c3⟩))
              rw [HV.out]
              clear HV c0 c1 c2 c3 c4
              go_enter Tryd.func23, Tryd.ntmps23
              go_wp2_with fail
              go_ret
              exact ⟨rfl, (Below.refl _ _).alloc (Nat.le_refl _) _⟩
            · have d4 : (t.byte == 0) = false := by simp [c4]
              have HV := Lib.hid (show okTk t = false by unfold okTk; rw [if_neg h0]; exact decide_eq_false (fun h => c4 (by omega)))
              rw [HV.out]
              clear HV c0 c1 c2 c3 c4
              go_enter Tryd.func23, Tryd.ntmps23
              go_wp2_with fail
              go_ret
              exact ⟨rfl, (Below.refl _ _).alloc (Nat.le_refl _) _⟩
          · have d3 : decide (t.back ≤ 32768) = false := decide_eq_false c3
            have HV := Lib.hid (show okTk t = false by unfold okTk; rw [if_neg h0]; exact decide_eq_false (fun h => c3 (by omega)))
            rw [HV.out]
            clear HV c0 c1 c2 c3
            go_enter Tryd.func23, Tryd.ntmps23
            go_wp2_with fail
            go_ret
            exact ⟨rfl, (Below.refl _ _).alloc (Nat.le_refl _) _⟩
        · have d2 : decide (t.back ≥ 1) = false := decide_eq_false c2
          have HV := Lib.hid (show okTk t = false by unfold okTk; rw [if_neg h0]; exact decide_eq_false (fun h => c2 (by omega)))
          rw [HV.out]
          clear HV c0 c1 c2
          go_enter Tryd.func23, Tryd.ntmps23
          go_wp2_with fail
          go_ret
          exact ⟨rfl, (Below.refl _ _).alloc (Nat.le_refl _) _⟩
      · have d1 : decide (t.len ≤ 258) = false := decide_eq_false c1
        have HV := Lib.hid (show okTk t = false by unfold okTk; rw [if_neg h0]; exact decide_eq_false (fun h => c1 (by omega)))
        rw [HV.out]
        clear HV c0 c1
        go_enter Tryd.func23, Tryd.ntmps23
        go_wp2_with fail
        go_ret
        exact ⟨rfl, (Below.refl _ _).alloc (Nat.le_refl _) _⟩
    · have d0 : decide (t.len ≥ 3) = false := decide_eq_false c0
      have HV := Lib.hid (show okTk t = false by unfold okTk; rw [if_neg h0]; exact decide_eq_false (fun h => c0 (by omega)))
      rw [HV.out]
      clear HV c0
      go_enter Tryd.func23, Tryd.ntmps23
      go_wp2_with fail
      go_ret
      exact ⟨rfl, (Below.refl _ _).alloc (Nat.le_refl _) _⟩
set_option maxRecDepth 100000 in
theorem rsize_any (t : Tk) (w : World) : Calls Tryd.prog 24 #[.agg #[.int .i64 t.byte, .int .i64 t.len, .int .i64 t.back]] w fun e w' => e = .returned (.int .i64 (tkSize t)) ∧ Below w.heap.size w w' := by
  by_cases h : 1 ≤ t.len
  · have e : tkSize t = t.len := by unfold tkSize; omega
    rw [e]
    go_enter Tryd.func24, Tryd.ntmps24
    go_wp2_with fail
    go_ret
    exact ⟨rfl, (Below.refl _ _).alloc (Nat.le_refl _) _⟩
  · have e : tkSize t = 1 := by unfold tkSize; omega
    rw [e]
    go_enter Tryd.func24, Tryd.ntmps24
    go_wp2_with fail
    go_ret
    exact ⟨rfl, (Below.refl _ _).alloc (Nat.le_refl _) _⟩
end Go.Proofs.YtdoliloiagfagaaDoor
