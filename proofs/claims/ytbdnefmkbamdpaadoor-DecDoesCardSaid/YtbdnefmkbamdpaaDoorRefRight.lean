/- The reference's Right and Neg: the walks. -/
import Derived.Test.YtbdnefmkbamdpaaDoorRefLess
import Derived.Test.YtbdnefmkbamdpaaDoorRefLift
namespace Go.Proofs.YtbdnefmkbamdpaaDoor
open Go.RowKit Dec

theorem ret_bool {a b : Bool} (h : a = b) : Ending.returned (.bool a) = .returned (.bool b) := by rw [h]
theorem tm10 (m : Int) : m.tmod 10 = 0 ↔ m % 10 = 0 := by rw [← Int.dvd_iff_tmod_eq_zero, ← Int.dvd_iff_emod_eq_zero]

set_option maxRecDepth 100000 in
theorem right_any (m s : Int) (w : World) : Calls Tryd.prog 21 #[.agg #[.int .i64 m, .int .i64 s]] w fun e w' => e = .returned (.bool (decide (Valid m s))) ∧ Below w.heap.size w w' := by
  obtain ⟨B, hB⟩ : ∃ B, B = decide (Valid m s) := ⟨_, rfl⟩
  rw [← hB]
  have H := Lib.hid hB
  clear hB
  go_enter Tryd.func21, Tryd.ntmps21
  go_wp2
  all_goals go_ret
  all_goals refine ⟨?_, (Below.refl _ _).alloc (Nat.le_refl _) _⟩
  all_goals rw [H.out]
  all_goals refine ret_bool ?_
  all_goals rw [Bool.eq_iff_iff, decide_eq_true_iff]
  all_goals simp [Valid, tm10]
  all_goals omega

set_option maxRecDepth 100000 in
theorem refneg_ok (m s : Int) (w : World) (hv : Valid m s) : Calls Tryd.prog 19 #[.agg #[.int .i64 m, .int .i64 s]] w (fun e w' => e = .returned (.tuple #[.agg #[.int .i64 (-m), .int .i64 s], .int .i64 0]) ∧ Below w.heap.size w w') := by
  have hd : Hid (decide (Valid m s) = true) := decide_eq_true hv
  have h1 := hv.1
  have h2 := hv.2.1
  clear hv
  go_enter Tryd.func19, Tryd.ntmps19
  go_wp2_with (go_at_call 21; refine (right_any m s _).mono ?_; rintro e w' ⟨rfl, hb⟩; rw [hd.out]; obtain ⟨hc, hf⟩ := bcell hb; have hz := hb.size; simp at hz; have HB := Lib.hid hb; clear hb)
  exact bodyPost_ret (v := .tuple #[.agg #[.int .i64 (-m), .int .i64 s], .int .i64 0]) (by simp [results, Tryd.results19, go_sem, hc]) rfl ⟨rfl, (((((Below.refl _ _).alloc (Nat.le_refl _) _).alloc (by simp) _).trans (HB.out.mono (by simp; omega))).setCell (by simp) _).setCell (by simp) _⟩

set_option maxRecDepth 100000 in
theorem refneg_bad (m s : Int) (w : World) (hv : ¬ Valid m s) : Calls Tryd.prog 19 #[.agg #[.int .i64 m, .int .i64 s]] w (IsArg w) := by
  have hd : Hid (decide (Valid m s) = false) := decide_eq_false hv
  clear hv
  go_enter Tryd.func19, Tryd.ntmps19
  go_wp2_with (go_at_call 21; refine (right_any m s _).mono ?_; rintro e w' ⟨rfl, hb⟩; rw [hd.out]; obtain ⟨hc, hf⟩ := bcell hb; have hz := hb.size; simp at hz; have HB := Lib.hid hb; clear hb)
  exact bodyPost_ret (v := .tuple #[.agg #[.int .i64 0, .int .i64 0], .int .i64 1]) (by simp [results, Tryd.results19, go_sem, hc]) rfl ⟨rfl, (((((Below.refl _ _).alloc (Nat.le_refl _) _).alloc (by simp) _).trans (HB.out.mono (by simp; omega))).setCell (by simp) _).setCell (by simp) _⟩
end Go.Proofs.YtbdnefmkbamdpaaDoor
