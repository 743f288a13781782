/- predict's Check, Row and what they lean on: walked. -/
import Derived.Test.YtjligbfijjejmaaPredMath
import Derived.Test.YtjligbfijjejmaaByteStr
import Derived.IntWalk
import Derived.BigQuiet
namespace Go.Proofs.Ytjligbfijjejmaa
open Go.RowKit

/-- Parms. -/
structure PaV where
  pr : Int
  co : Int
  bi : Int
  cl : Int
abbrev PaV.val (p : PaV) : Value := .agg #[.int .i64 p.pr, .int .i64 p.co, .int .i64 p.bi, .int .i64 p.cl]
def PaV.Known (p : PaV) : Prop := p.pr = 1 ∨ p.pr = 2 ∨ (10 ≤ p.pr ∧ p.pr ≤ 15)
def PaV.BitsOk (p : PaV) : Prop := p.bi = 1 ∨ p.bi = 2 ∨ p.bi = 4 ∨ p.bi = 8 ∨ p.bi = 16
def PaV.Ok (p : PaV) : Prop := p.Known ∧ p.BitsOk ∧ 1 ≤ p.co ∧ p.co ≤ 32 ∧ 1 ≤ p.cl ∧ p.cl ≤ 65536
instance (p : PaV) : Decidable p.Known := by unfold PaV.Known; exact inferInstance
instance (p : PaV) : Decidable p.BitsOk := by unfold PaV.BitsOk; exact inferInstance
instance (p : PaV) : Decidable p.Ok := by unfold PaV.Ok; exact inferInstance

theorem vp_true (n : Int) (w : World) (h : n = 1 ∨ n = 2 ∨ (10 ≤ n ∧ n ≤ 15)) :
    Calls Try.prog 30 #[.int .i64 n] w fun e w' => e = .returned (.bool true) ∧ w = w' := by
  have hn : n = 1 ∨ n = 2 ∨ n = 10 ∨ n = 11 ∨ n = 12 ∨ n = 13 ∨ n = 14 ∨ n = 15 := by omega
  clear h
  rcases hn with rfl | rfl | rfl | rfl | rfl | rfl | rfl | rfl
  all_goals
    go_enter Try.func30, Try.ntmps30
    go_wp2
    go_ret
    exact ⟨rfl, rfl⟩
theorem vp_false (n : Int) (w : World) (h : ¬ (n = 1 ∨ n = 2 ∨ (10 ≤ n ∧ n ≤ 15))) :
    Calls Try.prog 30 #[.int .i64 n] w fun e w' => e = .returned (.bool false) ∧ w = w' := by
  have h1 : (n == 1) = false := by simp; omega
  have h2 : (n == 2) = false := by simp; omega
  have h3 : decide (10 ≤ n) = false ∨ (decide (10 ≤ n) = true ∧ decide (n ≤ 15) = false) := by simp only [decide_eq_false_iff_not, decide_eq_true_eq]; omega
  clear h
  rcases h3 with h3 | ⟨h3, h4⟩
  all_goals
    go_enter Try.func30, Try.ntmps30
    go_wp2
    go_ret
    exact ⟨rfl, rfl⟩
theorem vb_true (n : Int) (w : World) (h : n = 1 ∨ n = 2 ∨ n = 4 ∨ n = 8 ∨ n = 16) :
    Calls Try.prog 31 #[.int .i64 n] w fun e w' => e = .returned (.bool true) ∧ w = w' := by
  rcases h with rfl | rfl | rfl | rfl | rfl
  all_goals
    go_enter Try.func31, Try.ntmps31
    go_wp2
    go_ret
    exact ⟨rfl, rfl⟩
theorem vb_false (n : Int) (w : World) (h : ¬ (n = 1 ∨ n = 2 ∨ n = 4 ∨ n = 8 ∨ n = 16)) :
    Calls Try.prog 31 #[.int .i64 n] w fun e w' => e = .returned (.bool false) ∧ w = w' := by
  have h1 : (n == 1) = false := by simp; omega
  have h2 : (n == 2) = false := by simp; omega
  have h3 : (n == 4) = false := by simp; omega
  have h4 : (n == 8) = false := by simp; omega
  have h5 : (n == 16) = false := by simp; omega
  clear h
  go_enter Try.func31, Try.ntmps31
  go_wp2
  go_ret
  exact ⟨rfl, rfl⟩
theorem valid_false (p : PaV) (w : World) (h : ¬ p.Ok) :
    Calls Try.prog 24 #[p.val] w fun e w' => e = .returned (.bool false) ∧ Below w.heap.size w w' := by
  by_cases hk : p.Known
  · have K := Lib.hid hk
    clear hk
    by_cases hb : p.BitsOk
    · have B := Lib.hid hb
      clear hb
      have h3 : decide (1 ≤ p.co) = false ∨ (decide (1 ≤ p.co) = true ∧ decide (p.co ≤ 32) = false) ∨ (decide (1 ≤ p.co) = true ∧ decide (p.co ≤ 32) = true ∧ decide (1 ≤ p.cl) = false) ∨ (decide (1 ≤ p.co) = true ∧ decide (p.co ≤ 32) = true ∧ decide (1 ≤ p.cl) = true ∧ decide (p.cl ≤ 65536) = false) := by
        simp only [decide_eq_false_iff_not, decide_eq_true_eq]
        have h' : ¬ (1 ≤ p.co ∧ p.co ≤ 32 ∧ 1 ≤ p.cl ∧ p.cl ≤ 65536) := fun h' => h ⟨K.out, B.out, h'⟩
        omega
      clear h
      rcases h3 with h3 | ⟨h3, h4⟩ | ⟨h3, h4, h5⟩ | ⟨h3, h4, h5, h6⟩
      all_goals
        go_enter Try.func24, Try.ntmps24
        go_wp2_with fail
        refine (vp_true _ _ K.out).mono ?_
        rintro e w1 ⟨rfl, rfl⟩
        go_wp2_with fail
        refine (vb_true _ _ B.out).mono ?_
        rintro e w1 ⟨rfl, rfl⟩
        go_wp2
        go_ret
        exact ⟨rfl, by (repeat (first | with_reducible exact Below.refl _ _ | with_reducible refine Below.drew ?_ | with_reducible refine bdrewN ?_ _ | (with_reducible refine Below.setCell ?_ ?_ _; rotate_left; focus (first | exact Nat.le_refl _ | omega | (simp; omega) | (simp; done))) | (with_reducible refine Below.alloc ?_ ?_ _; rotate_left; focus (first | exact Nat.le_refl _ | omega | (simp; omega) | (simp; done))) | (with_reducible refine Below.trans ?_ (Below.mono (by assumption) ?_); rotate_left; focus (first | exact Nat.le_refl _ | omega | (simp; omega) | (simp; done)))))⟩
    · have B := Lib.hid hb
      clear hb h
      go_enter Try.func24, Try.ntmps24
      go_wp2_with fail
      refine (vp_true _ _ K.out).mono ?_
      rintro e w1 ⟨rfl, rfl⟩
      go_wp2_with fail
      refine (vb_false _ _ B.out).mono ?_
      rintro e w1 ⟨rfl, rfl⟩
      go_wp2
      go_ret
      exact ⟨rfl, by (repeat (first | with_reducible exact Below.refl _ _ | with_reducible refine Below.drew ?_ | with_reducible refine bdrewN ?_ _ | (with_reducible refine Below.setCell ?_ ?_ _; rotate_left; focus (first | exact Nat.le_refl _ | omega | (simp; omega) | (simp; done))) | (with_reducible refine Below.alloc ?_ ?_ _; rotate_left; focus (first | exact Nat.le_refl _ | omega | (simp; omega) | (simp; done))) | (with_reducible refine Below.trans ?_ (Below.mono (by assumption) ?_); rotate_left; focus (first | exact Nat.le_refl _ | omega | (simp; omega) | (simp; done)))))⟩
  · have K := Lib.hid hk
    clear hk h
    go_enter Try.func24, Try.ntmps24
    go_wp2_with fail
    refine (vp_false _ _ K.out).mono ?_
    rintro e w1 ⟨rfl, rfl⟩
    go_wp2
    go_ret
    exact ⟨rfl, by (repeat (first | with_reducible exact Below.refl _ _ | with_reducible refine Below.drew ?_ | with_reducible refine bdrewN ?_ _ | (with_reducible refine Below.setCell ?_ ?_ _; rotate_left; focus (first | exact Nat.le_refl _ | omega | (simp; omega) | (simp; done))) | (with_reducible refine Below.alloc ?_ ?_ _; rotate_left; focus (first | exact Nat.le_refl _ | omega | (simp; omega) | (simp; done))) | (with_reducible refine Below.trans ?_ (Below.mono (by assumption) ?_); rotate_left; focus (first | exact Nat.le_refl _ | omega | (simp; omega) | (simp; done)))))⟩
theorem valid_true (p : PaV) (w : World) (h : p.Ok) :
    Calls Try.prog 24 #[p.val] w fun e w' => e = .returned (.bool true) ∧ Below w.heap.size w w' := by
  obtain ⟨hk, hb, h1, h2, h3, h4⟩ := h
  have K := Lib.hid hk
  have B := Lib.hid hb
  clear hk hb
  go_enter Try.func24, Try.ntmps24
  go_wp2_with fail
  refine (vp_true _ _ K.out).mono ?_
  rintro e w1 ⟨rfl, rfl⟩
  go_wp2_with fail
  refine (vb_true _ _ B.out).mono ?_
  rintro e w1 ⟨rfl, rfl⟩
  go_wp2
  go_ret
  exact ⟨rfl, by (repeat (first | with_reducible exact Below.refl _ _ | with_reducible refine Below.drew ?_ | with_reducible refine bdrewN ?_ _ | (with_reducible refine Below.setCell ?_ ?_ _; rotate_left; focus (first | exact Nat.le_refl _ | omega | (simp; omega) | (simp; done))) | (with_reducible refine Below.alloc ?_ ?_ _; rotate_left; focus (first | exact Nat.le_refl _ | omega | (simp; omega) | (simp; done))) | (with_reducible refine Below.trans ?_ (Below.mono (by assumption) ?_); rotate_left; focus (first | exact Nat.le_refl _ | omega | (simp; omega) | (simp; done)))))⟩
end Go.Proofs.Ytjligbfijjejmaa
