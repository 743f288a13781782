/- The walks of dec's power (a loop) and checkBoth. -/
import Derived.Test.YtmleoagdelgddaaDecWalkA
import Derived.LoopTactic
namespace Go.Proofs.Ytmleoagdelgddaa
open Go.RowKit Dec

theorem power_any (n : Nat) (w : World) (hn : n ≤ 18) :
    Calls Try.prog 84 #[.int .i64 n] w fun e w' => e = .returned (.int .i64 (p10 n)) ∧ w = w' := by
  go_enter Try.func84, Try.ntmps84
  go_wp2
  go_loop [3, 5] (fun p i => ∃ k : Nat, k ≤ n ∧ i = .int .i64 k ∧ p = .int .i64 (p10 k)) (fun _ i => n - (intOf i).toNat)
  case atStart => exact ⟨0, Nat.zero_le _, rfl, rfl⟩
  case round =>
    obtain ⟨k, hk, rfl, rfl⟩ := hrel
    by_cases hlt : k < n
    · have h1 := p10_pos k
      have h2 := p10_17 k (by omega)
      have HS := Lib.hid (p10_succ k)
      go_wp2
      go_round
      case rel => exact ⟨k + 1, by omega, by go_num, by rw [HS.out]⟩
      case measure => simp [intOf]; omega
    · obtain rfl : k = n := by omega
      go_wp2
      go_ret
      exact ⟨rfl, rfl⟩

theorem checkBoth_ok (m s m' s' : Int) (w : World) (hv : Valid m s) (hv' : Valid m' s') :
    Calls Try.prog 82 #[.agg #[.int .i64 m, .int .i64 s], .agg #[.int .i64 m', .int .i64 s']] w fun e w' => e = .returned (.int .i64 0) ∧ Below w.heap.size w w' := by
  have H := Lib.hid hv
  have H' := Lib.hid hv'
  clear hv hv'
  go_enter Try.func82, Try.ntmps82
  go_wp2_with fail
  refine (check_ok _ _ _ H.out).mono ?_; rintro e w1 ⟨rfl, hb⟩; obtain ⟨hc, hf⟩ := bcell hb; have hz := hb.size; simp at hz
  go_wp2_with fail
  refine (check_ok _ _ _ H'.out).mono ?_; rintro e w2 ⟨rfl, hb2⟩
  go_wp2
  go_ret
  exact ⟨rfl, ((((Below.refl _ _).alloc (Nat.le_refl _) _).alloc (by simp) _).trans (hb.mono (by simp; omega))).trans (hb2.mono (by omega))⟩
theorem checkBoth_bad2 (m s m' s' : Int) (w : World) (hv : Valid m s) (hv' : ¬ Valid m' s') :
    Calls Try.prog 82 #[.agg #[.int .i64 m, .int .i64 s], .agg #[.int .i64 m', .int .i64 s']] w fun e w' => e = .returned (.int .i64 1) ∧ Below w.heap.size w w' := by
  have H := Lib.hid hv
  have H' := Lib.hid hv'
  clear hv hv'
  go_enter Try.func82, Try.ntmps82
  go_wp2_with fail
  refine (check_ok _ _ _ H.out).mono ?_; rintro e w1 ⟨rfl, hb⟩; obtain ⟨hc, hf⟩ := bcell hb; have hz := hb.size; simp at hz
  go_wp2_with fail
  refine (check_bad _ _ _ H'.out).mono ?_; rintro e w2 ⟨rfl, hb2⟩
  go_wp2
  go_ret
  exact ⟨rfl, ((((Below.refl _ _).alloc (Nat.le_refl _) _).alloc (by simp) _).trans (hb.mono (by simp; omega))).trans (hb2.mono (by omega))⟩
theorem checkBoth_bad1 (m s m' s' : Int) (w : World) (hv : ¬ Valid m s) :
    Calls Try.prog 82 #[.agg #[.int .i64 m, .int .i64 s], .agg #[.int .i64 m', .int .i64 s']] w fun e w' => e = .returned (.int .i64 1) ∧ Below w.heap.size w w' := by
  have H := Lib.hid hv
  clear hv
  go_enter Try.func82, Try.ntmps82
  go_wp2_with fail
  refine (check_bad _ _ _ H.out).mono ?_; rintro e w1 ⟨rfl, hb⟩; obtain ⟨hc, hf⟩ := bcell hb; have hz := hb.size; simp at hz
  go_wp2
  go_ret
  exact ⟨rfl, ((((Below.refl _ _).alloc (Nat.le_refl _) _).alloc (by simp) _).trans (hb.mono (by simp; omega)))⟩
theorem checkBoth_bad (m s m' s' : Int) (w : World) (hv : ¬ (Valid m s ∧ Valid m' s')) :
    Calls Try.prog 82 #[.agg #[.int .i64 m, .int .i64 s], .agg #[.int .i64 m', .int .i64 s']] w fun e w' => e = .returned (.int .i64 1) ∧ Below w.heap.size w w' := by
  by_cases h : Valid m s
  · exact checkBoth_bad2 _ _ _ _ _ h (fun h' => hv ⟨h, h'⟩)
  · exact checkBoth_bad1 _ _ _ _ _ h
end Go.Proofs.Ytmleoagdelgddaa
