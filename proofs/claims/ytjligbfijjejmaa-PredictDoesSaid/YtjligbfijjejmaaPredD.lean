/- What a tag foretells, in the program and in the document: walked. -/
import Derived.Test.YtjligbfijjejmaaPredC
namespace Go.Proofs.Ytjligbfijjejmaa
open Go.RowKit

theorem dist_any (x y : Int) (w : World) (hx : -1000 ≤ x) (hx' : x ≤ 1000) (hy : -1000 ≤ y) (hy' : y ≤ 1000) :
    Calls Try.prog 39 #[.int .i64 x, .int .i64 y] w fun e w' => e = .returned (.int .i64 (farM x y)) ∧ w = w' := by
  go_enter Try.func39, Try.ntmps39
  go_wp2
  all_goals
    go_ret
    exact ⟨congrArg (fun z : Int => Ending.returned (Value.int .i64 z)) (by unfold farM; omega), rfl⟩
theorem far_any (x y : Int) (w : World) (hx : -1000 ≤ x) (hx' : x ≤ 1000) (hy : -1000 ≤ y) (hy' : y ≤ 1000) :
    Calls Try.prog 29 #[.int .i64 x, .int .i64 y] w fun e w' => e = .returned (.int .i64 (farM x y)) ∧ w = w' := by
  go_enter Try.func29, Try.ntmps29
  go_wp2
  all_goals
    go_ret
    exact ⟨congrArg (fun z : Int => Ending.returned (Value.int .i64 z)) (by unfold farM; omega), rfl⟩
theorem zero_any (a b c : Nat) (w : World) :
    Calls Try.prog 34 #[.int .u8 a, .int .u8 b, .int .u8 c] w fun e w' => e = .returned (.int .u8 (foreM 0 a b c : Nat)) ∧ w = w' := by
  go_enter Try.func34, Try.ntmps34
  go_wp2
  go_ret
  exact ⟨rfl, rfl⟩
theorem before_any (a b c : Nat) (w : World) :
    Calls Try.prog 38 #[.int .u8 a, .int .u8 b, .int .u8 c] w fun e w' => e = .returned (.int .u8 (foreM 1 a b c : Nat)) ∧ w = w' := by
  go_enter Try.func38, Try.ntmps38
  go_wp2
  go_ret
  exact ⟨rfl, rfl⟩
theorem above_any (a b c : Nat) (w : World) :
    Calls Try.prog 35 #[.int .u8 a, .int .u8 b, .int .u8 c] w fun e w' => e = .returned (.int .u8 (foreM 2 a b c : Nat)) ∧ w = w' := by
  go_enter Try.func35, Try.ntmps35
  go_wp2
  go_ret
  exact ⟨rfl, rfl⟩
theorem average_any (a b c : Nat) (w : World) (ha : a < 256) (hb : b < 256) :
    Calls Try.prog 36 #[.int .u8 a, .int .u8 b, .int .u8 c] w fun e w' => e = .returned (.int .u8 (foreM 3 a b c : Nat)) ∧ w = w' := by
  have hF : ((foreM 3 a b c : Nat) : Int) = ((a : Int) + b) / 2 := by show (((a + b) / 2 : Nat) : Int) = _; omega
  have HF := Lib.hid hF
  clear hF
  go_enter Try.func36, Try.ntmps36
  go_wp2
  go_ret
  exact ⟨by rw [HF.out]; rfl, rfl⟩
theorem near_ways (a b c : Nat) :
    (decide (farM ((a : Int) + b - c) b < farM ((a : Int) + b - c) a) = false ∧ decide (farM ((a : Int) + b - c) c < farM ((a : Int) + b - c) a) = false ∧ nearM a b c = a) ∨
    (decide (farM ((a : Int) + b - c) b < farM ((a : Int) + b - c) a) = false ∧ decide (farM ((a : Int) + b - c) c < farM ((a : Int) + b - c) a) = true ∧ nearM a b c = c) ∨
    (decide (farM ((a : Int) + b - c) b < farM ((a : Int) + b - c) a) = true ∧ decide (farM ((a : Int) + b - c) c < farM ((a : Int) + b - c) b) = false ∧ nearM a b c = b) ∨
    (decide (farM ((a : Int) + b - c) b < farM ((a : Int) + b - c) a) = true ∧ decide (farM ((a : Int) + b - c) c < farM ((a : Int) + b - c) b) = true ∧ nearM a b c = c) := by
  unfold nearM
  generalize farM ((a : Int) + b - c) a = A
  generalize farM ((a : Int) + b - c) b = B
  generalize farM ((a : Int) + b - c) c = C
  by_cases h1 : B < A
  · rw [if_neg (by omega)]
    by_cases h2 : C < B
    · exact .inr (.inr (.inr ⟨decide_eq_true h1, decide_eq_true h2, if_neg (by omega)⟩))
    · exact .inr (.inr (.inl ⟨decide_eq_true h1, decide_eq_false h2, if_pos (by omega)⟩))
  · by_cases h2 : C < A
    · exact .inr (.inl ⟨decide_eq_false h1, decide_eq_true h2, by rw [if_neg (by omega), if_neg (by omega)]⟩)
    · exact .inl ⟨decide_eq_false h1, decide_eq_false h2, if_pos (by omega)⟩
theorem nearest_any (a b c : Nat) (w : World) (ha : a < 256) (hb : b < 256) (hc : c < 256) :
    Calls Try.prog 37 #[.int .u8 a, .int .u8 b, .int .u8 c] w fun e w' => e = .returned (.int .u8 (foreM 4 a b c : Nat)) ∧ w = w' := by
  have i0 : ∀ w : World, (Instr.index 56 (.agg #[.int .u8 b, .int .u8 c]) (.int .i64 0)).run Try.prog w = .ok (.int .u8 b) w := fun _ => by kernel_rfl
  have i1 : ∀ w : World, (Instr.index 56 (.agg #[.int .u8 b, .int .u8 c]) (.int .i64 1)).run Try.prog w = .ok (.int .u8 c) w := fun _ => by kernel_rfl
  have k := near_ways a b c
  rcases k with ⟨h1, h2, h3⟩ | ⟨h1, h2, h3⟩ | ⟨h1, h2, h3⟩ | ⟨h1, h2, h3⟩
  all_goals
    have H3 := Lib.hid (show foreM 4 a b c = _ from h3)
    clear h3
    go_enter Try.func37, Try.ntmps37
    go_wp2_with fail
    refine wp_loop_rounds 3 ?_
    rw [rounds_succ]
    go_wp2_with (go_at_call 39; refine (dist_any _ _ _ (by omega) (by omega) (by omega) (by omega)).mono ?_; rintro e w' ⟨rfl, rfl⟩)
    rw [rounds_succ]
    go_wp2_with (go_at_call 39; refine (dist_any _ _ _ (by omega) (by omega) (by omega) (by omega)).mono ?_; rintro e w' ⟨rfl, rfl⟩)
    rw [rounds_succ]
    go_wp2
    go_ret
    exact ⟨by rw [H3.out]; rfl, rfl⟩
end Go.Proofs.Ytjligbfijjejmaa
