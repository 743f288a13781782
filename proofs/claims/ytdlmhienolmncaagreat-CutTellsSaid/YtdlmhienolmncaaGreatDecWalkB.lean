/- The walks of dec's small functions: bounds, magnitude, powers, Check, checkBoth, Neg. -/
import Derived.Test.YtdlmhienolmncaaGreatRows
import Derived.Test.YtdlmhienolmncaaGreatDecMath
import Derived.WalkKit
import Derived.WalkSpells
import Derived.Outline
import Derived.Lib.Hide
import Derived.LoopTactic
namespace Go.Proofs.YtdlmhienolmncaaGreat
open Go.RowKit Dec

theorem bcell {W w1 : World} (hb : Below W.heap.size W w1) : (∀ b o, b < W.heap.size → w1.cell? ⟨b, o, none⟩ = W.cell? ⟨b, o, none⟩) ∧ (∀ b o, b < W.heap.size → w1.frozen? ⟨b, o, none⟩ = W.frozen? ⟨b, o, none⟩) :=
  ⟨fun b o h => hb.cell (p := ⟨b, o, none⟩) h, fun b o h => hb.frozen (p := ⟨b, o, none⟩) h⟩
theorem ret_int {k : IntKind} {a b : Int} (h : a = b) : Ending.returned (.int k a) = .returned (.int k b) := by rw [h]

theorem inBounds_yes (m : Int) (w : World) (h0 : -999999999999999999 ≤ m) (h1 : m ≤ 999999999999999999) :
    Calls Tryz.prog 139 #[.int .i64 m] w fun e w' => e = .returned (.bool true) ∧ w = w' := by
  go_enter Tryz.func139, Tryz.ntmps139
  go_wp2
  go_ret
  simp
theorem inBounds_no (m : Int) (w : World) (h : m < -999999999999999999 ∨ 999999999999999999 < m) :
    Calls Tryz.prog 139 #[.int .i64 m] w fun e w' => e = .returned (.bool false) ∧ w = w' := by
  by_cases h0 : -999999999999999999 ≤ m
  · have h1 : ¬ m ≤ 999999999999999999 := by omega
    clear h
    go_enter Tryz.func139, Tryz.ntmps139
    go_wp2
    go_ret
    simp
  · clear h
    go_enter Tryz.func139, Tryz.ntmps139
    go_wp2
    go_ret
    simp

theorem check_ok0 (m : Int) (w : World) (h1 : -999999999999999999 ≤ m) (h2 : m ≤ 999999999999999999) :
    Calls Tryz.prog 134 #[.agg #[.int .i64 m, .int .i64 0]] w fun e w' => e = .returned (.int .i64 0) ∧ Below w.heap.size w w' := by
  go_enter Tryz.func134, Tryz.ntmps134
  go_wp2_with (go_at_call 139; refine (inBounds_yes _ _ h1 h2).mono ?_; rintro e w' ⟨rfl, rfl⟩)
  go_ret
  exact ⟨rfl, (Below.refl _ _).alloc (Nat.le_refl _) _⟩
theorem check_ok1 (m s : Int) (w : World) (h1 : -999999999999999999 ≤ m) (h2 : m ≤ 999999999999999999) (h3 : 0 < s) (h4 : s ≤ 9) (h5 : (m.tmod 10 == 0) = false) :
    Calls Tryz.prog 134 #[.agg #[.int .i64 m, .int .i64 s]] w fun e w' => e = .returned (.int .i64 0) ∧ Below w.heap.size w w' := by
  go_enter Tryz.func134, Tryz.ntmps134
  go_wp2_with (go_at_call 139; refine (inBounds_yes _ _ h1 h2).mono ?_; rintro e w' ⟨rfl, rfl⟩)
  go_ret
  exact ⟨rfl, (Below.refl _ _).alloc (Nat.le_refl _) _⟩
theorem check_bad1 (m s : Int) (w : World) (h : m < -999999999999999999 ∨ 999999999999999999 < m) :
    Calls Tryz.prog 134 #[.agg #[.int .i64 m, .int .i64 s]] w fun e w' => e = .returned (.int .i64 1) ∧ Below w.heap.size w w' := by
  have H := Lib.hid h
  clear h
  go_enter Tryz.func134, Tryz.ntmps134
  go_wp2_with (go_at_call 139; refine (inBounds_no _ _ H.out).mono ?_; rintro e w' ⟨rfl, rfl⟩)
  go_ret
  exact ⟨rfl, (Below.refl _ _).alloc (Nat.le_refl _) _⟩
theorem check_bad2 (m s : Int) (w : World) (h1 : -999999999999999999 ≤ m) (h2 : m ≤ 999999999999999999) (h3 : s < 0) :
    Calls Tryz.prog 134 #[.agg #[.int .i64 m, .int .i64 s]] w fun e w' => e = .returned (.int .i64 1) ∧ Below w.heap.size w w' := by
  go_enter Tryz.func134, Tryz.ntmps134
  go_wp2_with (go_at_call 139; refine (inBounds_yes _ _ h1 h2).mono ?_; rintro e w' ⟨rfl, rfl⟩)
  go_ret
  exact ⟨rfl, (Below.refl _ _).alloc (Nat.le_refl _) _⟩
theorem check_bad3 (m s : Int) (w : World) (h1 : -999999999999999999 ≤ m) (h2 : m ≤ 999999999999999999) (h3 : ¬ s < 0) (h4 : 9 < s) :
    Calls Tryz.prog 134 #[.agg #[.int .i64 m, .int .i64 s]] w fun e w' => e = .returned (.int .i64 1) ∧ Below w.heap.size w w' := by
  go_enter Tryz.func134, Tryz.ntmps134
  go_wp2_with (go_at_call 139; refine (inBounds_yes _ _ h1 h2).mono ?_; rintro e w' ⟨rfl, rfl⟩)
  go_ret
  exact ⟨rfl, (Below.refl _ _).alloc (Nat.le_refl _) _⟩
theorem check_bad4 (m s : Int) (w : World) (h1 : -999999999999999999 ≤ m) (h2 : m ≤ 999999999999999999) (h3 : 0 < s) (h4 : s ≤ 9) (h5 : (m.tmod 10 == 0) = true) :
    Calls Tryz.prog 134 #[.agg #[.int .i64 m, .int .i64 s]] w fun e w' => e = .returned (.int .i64 1) ∧ Below w.heap.size w w' := by
  go_enter Tryz.func134, Tryz.ntmps134
  go_wp2_with (go_at_call 139; refine (inBounds_yes _ _ h1 h2).mono ?_; rintro e w' ⟨rfl, rfl⟩)
  go_ret
  exact ⟨rfl, (Below.refl _ _).alloc (Nat.le_refl _) _⟩

theorem tmod10 (m : Int) : m.tmod 10 = 0 ↔ m % 10 = 0 := by
  rw [← Int.dvd_iff_tmod_eq_zero, Int.dvd_iff_emod_eq_zero]

theorem check_ok (m s : Int) (w : World) (hv : Valid m s) :
    Calls Tryz.prog 134 #[.agg #[.int .i64 m, .int .i64 s]] w fun e w' => e = .returned (.int .i64 0) ∧ Below w.heap.size w w' := by
  obtain ⟨h1, h2, h3, h4, h5⟩ := hv
  by_cases h : s = 0
  · subst h; exact check_ok0 m w h1 h2
  · have := tmod10 m
    exact check_ok1 m s w h1 h2 (by omega) h4 (by rw [beq_eq_false_iff_ne]; intro e; rw [tmod10] at e; omega)
theorem check_bad (m s : Int) (w : World) (hv : ¬ Valid m s) :
    Calls Tryz.prog 134 #[.agg #[.int .i64 m, .int .i64 s]] w fun e w' => e = .returned (.int .i64 1) ∧ Below w.heap.size w w' := by
  unfold Valid at hv
  by_cases h : m < -999999999999999999 ∨ 999999999999999999 < m
  · exact check_bad1 m s w h
  by_cases h3 : s < 0
  · exact check_bad2 m s w (by omega) (by omega) h3
  by_cases h4 : 9 < s
  · exact check_bad3 m s w (by omega) (by omega) h3 h4
  exact check_bad4 m s w (by omega) (by omega) (by omega) (by omega) (by rw [beq_iff_eq, tmod10]; omega)
end Go.Proofs.YtdlmhienolmncaaGreat

/- The walks of dec's power (a loop) and checkBoth. -/
namespace Go.Proofs.YtdlmhienolmncaaGreat
open Go.RowKit Dec

theorem power_any (n : Nat) (w : World) (hn : n ≤ 18) :
    Calls Tryz.prog 116 #[.int .i64 n] w fun e w' => e = .returned (.int .i64 (p10 n)) ∧ w = w' := by
  go_enter Tryz.func116, Tryz.ntmps116
  go_wp2
  go_loop [3, 5] (fun p i => ∃ k : Nat, k ≤ n ∧ i = .int .i64 k ∧ p = .int .i64 (p10 k)) (fun _ i => n - (intOf i).toNat)
  case atStart => exact ⟨0, Nat.zero_le _, rfl, rfl⟩
  case round =>
    obtain ⟨k, hk, rfl, rfl⟩ := hrel
    by_cases hlt : k < n
    · have h1 := p10_pos k
      have h2 := p10_17 k (by omega)
      have HS := Lib.hid (p10_succ k)
      go_wp2
      go_round
      case rel => exact ⟨k + 1, by omega, by go_num, by rw [HS.out]⟩
      case measure => simp [intOf]; omega
    · obtain rfl : k = n := by omega
      go_wp2
      go_ret
      exact ⟨rfl, rfl⟩

theorem checkBoth_ok (m s m' s' : Int) (w : World) (hv : Valid m s) (hv' : Valid m' s') :
    Calls Tryz.prog 114 #[.agg #[.int .i64 m, .int .i64 s], .agg #[.int .i64 m', .int .i64 s']] w fun e w' => e = .returned (.int .i64 0) ∧ Below w.heap.size w w' := by
  have H := Lib.hid hv
  have H' := Lib.hid hv'
  clear hv hv'
  go_enter Tryz.func114, Tryz.ntmps114
  go_wp2_with fail
  refine (check_ok _ _ _ H.out).mono ?_; rintro e w1 ⟨rfl, hb⟩; obtain ⟨hc, hf⟩ := bcell hb; have hz := hb.size; simp at hz
  go_wp2_with fail
  refine (check_ok _ _ _ H'.out).mono ?_; rintro e w2 ⟨rfl, hb2⟩
  go_wp2
  go_ret
  exact ⟨rfl, ((((Below.refl _ _).alloc (Nat.le_refl _) _).alloc (by simp) _).trans (hb.mono (by simp; omega))).trans (hb2.mono (by omega))⟩
theorem checkBoth_bad2 (m s m' s' : Int) (w : World) (hv : Valid m s) (hv' : ¬ Valid m' s') :
    Calls Tryz.prog 114 #[.agg #[.int .i64 m, .int .i64 s], .agg #[.int .i64 m', .int .i64 s']] w fun e w' => e = .returned (.int .i64 1) ∧ Below w.heap.size w w' := by
  have H := Lib.hid hv
  have H' := Lib.hid hv'
  clear hv hv'
  go_enter Tryz.func114, Tryz.ntmps114
  go_wp2_with fail
  refine (check_ok _ _ _ H.out).mono ?_; rintro e w1 ⟨rfl, hb⟩; obtain ⟨hc, hf⟩ := bcell hb; have hz := hb.size; simp at hz
  go_wp2_with fail
  refine (check_bad _ _ _ H'.out).mono ?_; rintro e w2 ⟨rfl, hb2⟩
  go_wp2
  go_ret
  exact ⟨rfl, ((((Below.refl _ _).alloc (Nat.le_refl _) _).alloc (by simp) _).trans (hb.mono (by simp; omega))).trans (hb2.mono (by omega))⟩
theorem checkBoth_bad1 (m s m' s' : Int) (w : World) (hv : ¬ Valid m s) :
    Calls Tryz.prog 114 #[.agg #[.int .i64 m, .int .i64 s], .agg #[.int .i64 m', .int .i64 s']] w fun e w' => e = .returned (.int .i64 1) ∧ Below w.heap.size w w' := by
  have H := Lib.hid hv
  clear hv
  go_enter Tryz.func114, Tryz.ntmps114
  go_wp2_with fail
  refine (check_bad _ _ _ H.out).mono ?_; rintro e w1 ⟨rfl, hb⟩; obtain ⟨hc, hf⟩ := bcell hb; have hz := hb.size; simp at hz
  go_wp2
  go_ret
  exact ⟨rfl, ((((Below.refl _ _).alloc (Nat.le_refl _) _).alloc (by simp) _).trans (hb.mono (by simp; omega)))⟩
theorem checkBoth_bad (m s m' s' : Int) (w : World) (hv : ¬ (Valid m s ∧ Valid m' s')) :
    Calls Tryz.prog 114 #[.agg #[.int .i64 m, .int .i64 s], .agg #[.int .i64 m', .int .i64 s']] w fun e w' => e = .returned (.int .i64 1) ∧ Below w.heap.size w w' := by
  by_cases h : Valid m s
  · exact checkBoth_bad2 _ _ _ _ _ h (fun h' => hv ⟨h, h'⟩)
  · exact checkBoth_bad1 _ _ _ _ _ h
end Go.Proofs.YtdlmhienolmncaaGreat
