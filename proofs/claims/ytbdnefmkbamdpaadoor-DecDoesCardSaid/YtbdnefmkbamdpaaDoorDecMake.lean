/- The walk of dec's Make. -/
import Derived.Test.YtbdnefmkbamdpaaDoorDecMul
namespace Go.Proofs.YtbdnefmkbamdpaaDoor
open Go.RowKit Dec

theorem make_bad (m s : Int) (w : World) (h : ¬ (0 ≤ s ∧ s ≤ 18 ∧ -999999999999999999 ≤ m ∧ m ≤ 999999999999999999)) :
    Calls Tryd.prog 7 #[.int .i64 m, .int .i64 s] w (IsArg w) := by
  by_cases h1 : s < 0
  · clear h
    go_enter Tryd.func7, Tryd.ntmps7
    go_wp2
    exact bodyPost_ret (v := .tuple #[.agg #[.int .i64 0, .int .i64 0], .int .i64 1]) (by simp [results, Tryd.results7, go_sem]) rfl ⟨rfl, (Below.refl _ _).alloc (Nat.le_refl _) _⟩
  · by_cases h2 : 18 < s
    · clear h
      go_enter Tryd.func7, Tryd.ntmps7
      go_wp2
      exact bodyPost_ret (v := .tuple #[.agg #[.int .i64 0, .int .i64 0], .int .i64 1]) (by simp [results, Tryd.results7, go_sem]) rfl ⟨rfl, (Below.refl _ _).alloc (Nat.le_refl _) _⟩
    · have H : Hid (m < -999999999999999999 ∨ 999999999999999999 < m) := by show _ ∨ _; omega
      clear h
      go_enter Tryd.func7, Tryd.ntmps7
      go_wp2_with (go_at_call 27; refine (inBounds_no _ _ H.out).mono ?_; rintro e w' ⟨rfl, rfl⟩)
      exact bodyPost_ret (v := .tuple #[.agg #[.int .i64 0, .int .i64 0], .int .i64 1]) (by simp [results, Tryd.results7, go_sem]) rfl ⟨rfl, (Below.refl _ _).alloc (Nat.le_refl _) _⟩

theorem make_ok (m : Int) (s : Nat) (w : World) (h1 : s ≤ 18) (h2 : -999999999999999999 ≤ m) (h3 : m ≤ 999999999999999999) :
    Calls Tryd.prog 7 #[.int .i64 m, .int .i64 s] w (IsTold m s w) := by
  have h4 : ¬ (18 < (s : Int)) := by omega
  go_enter Tryd.func7, Tryd.ntmps7
  go_wp2_with (first | (go_at_call 27; refine (inBounds_yes _ _ h2 h3).mono ?_; rintro e w' ⟨rfl, rfl⟩) | (go_at_call 29; refine (magnitude_any _ _ (by omega) (by omega)).mono ?_; rintro e w' ⟨rfl, rfl⟩))
  refine (settle_any _ 0 m.natAbs s m _ (by omega) (by omega) (by omega) (by omega) (fun h => by have := of_decide_eq_true h; omega) (fun h => by have := of_decide_eq_false h; omega)).mono ?_
  rintro e w4 ⟨M, S, E, rfl, hd, hb⟩
  have HD := Lib.hid hd
  clear hd
  obtain ⟨hc, hf⟩ := bcell hb
  have hz := hb.size
  simp at hz
  go_wp2
  exact bodyPost_ret (v := .tuple #[.agg #[.int .i64 M, .int .i64 S], .int .i64 E]) (by simp [results, Tryd.results7, go_sem, hc]) rfl ⟨M, S, E, rfl, HD.out, ((((Below.refl _ _).alloc (Nat.le_refl _) _).trans (hb.mono (by simp))).setCell (by simp) _).setCell (by simp) _⟩
end Go.Proofs.YtbdnefmkbamdpaaDoor
