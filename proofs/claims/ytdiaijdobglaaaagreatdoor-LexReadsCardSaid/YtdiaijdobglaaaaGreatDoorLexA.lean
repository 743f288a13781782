/- lex: the small questions of bytes. Written by gen_lexa.py. -/
import Derived.Test.YtdiaijdobglaaaaGreatDoorLexMath
import Derived.Test.YtdiaijdobglaaaaGreatDoorMem
import Derived.Test.YtdiaijdobglaaaaGreatDoorRows
import Derived.WalkKit
import Derived.WalkSpells
import Derived.Outline
import Derived.IntWalk
import Derived.Lib.Hide
namespace Go.Proofs.YtdiaijdobglaaaaGreatDoor
open Go.RowKit

set_option maxRecDepth 100000 in
theorem isSpace_any (c : Nat) (w : World) :
    Calls Tryz.prog 53 #[.int .u8 c] w fun e w' => e = .returned (.bool (spB c)) ∧ w = w' := by
  obtain ⟨b, hb⟩ : ∃ b, spB c = b := ⟨_, rfl⟩
  rw [hb]
  have k : (((c : Int) == 0) = true ∧ b = true) ∨ (((c : Int) == 0) = false ∧ ((c : Int) == 9) = true ∧ b = true) ∨ (((c : Int) == 0) = false ∧ ((c : Int) == 9) = false ∧ ((c : Int) == 10) = true ∧ b = true) ∨ (((c : Int) == 0) = false ∧ ((c : Int) == 9) = false ∧ ((c : Int) == 10) = false ∧ ((c : Int) == 12) = true ∧ b = true) ∨ (((c : Int) == 0) = false ∧ ((c : Int) == 9) = false ∧ ((c : Int) == 10) = false ∧ ((c : Int) == 12) = false ∧ ((c : Int) == 13) = true ∧ b = true) ∨ (((c : Int) == 0) = false ∧ ((c : Int) == 9) = false ∧ ((c : Int) == 10) = false ∧ ((c : Int) == 12) = false ∧ ((c : Int) == 13) = false ∧ ((c : Int) == 32) = true ∧ b = true) ∨ (((c : Int) == 0) = false ∧ ((c : Int) == 9) = false ∧ ((c : Int) == 10) = false ∧ ((c : Int) == 12) = false ∧ ((c : Int) == 13) = false ∧ ((c : Int) == 32) = false ∧ b = false) := by
    subst hb
    by_cases e1 : c = 0
    · exact .inl ⟨by simp; omega, by subst e1; rfl⟩
    have n1 : ((c : Int) == 0) = false := by simp; omega
    by_cases e2 : c = 9
    · exact .inr (.inl ⟨n1, by simp; omega, by subst e2; rfl⟩)
    have n2 : ((c : Int) == 9) = false := by simp; omega
    by_cases e3 : c = 10
    · exact .inr (.inr (.inl ⟨n1, n2, by simp; omega, by subst e3; rfl⟩))
    have n3 : ((c : Int) == 10) = false := by simp; omega
    by_cases e4 : c = 12
    · exact .inr (.inr (.inr (.inl ⟨n1, n2, n3, by simp; omega, by subst e4; rfl⟩)))
    have n4 : ((c : Int) == 12) = false := by simp; omega
    by_cases e5 : c = 13
    · exact .inr (.inr (.inr (.inr (.inl ⟨n1, n2, n3, n4, by simp; omega, by subst e5; rfl⟩))))
    have n5 : ((c : Int) == 13) = false := by simp; omega
    by_cases e6 : c = 32
    · exact .inr (.inr (.inr (.inr (.inr (.inl ⟨n1, n2, n3, n4, n5, by simp; omega, by subst e6; rfl⟩)))))
    have n6 : ((c : Int) == 32) = false := by simp; omega
    exact .inr (.inr (.inr (.inr (.inr (.inr (⟨n1, n2, n3, n4, n5, n6, by simp [spB, e1, e2, e3, e4, e5, e6]⟩))))))
  clear hb
  rcases k with ⟨h1, rfl⟩ | ⟨h1, h2, rfl⟩ | ⟨h1, h2, h3, rfl⟩ | ⟨h1, h2, h3, h4, rfl⟩ | ⟨h1, h2, h3, h4, h5, rfl⟩ | ⟨h1, h2, h3, h4, h5, h6, rfl⟩ | ⟨h1, h2, h3, h4, h5, h6, rfl⟩
  all_goals
    go_enter Tryz.func53, Tryz.ntmps53
    go_wp2
    go_ret
    exact ⟨rfl, rfl⟩
set_option maxRecDepth 100000 in
set_option maxHeartbeats 4000000 in
theorem isDelimiter_any (c : Nat) (w : World) :
    Calls Tryz.prog 55 #[.int .u8 c] w fun e w' => e = .returned (.bool (dlB c)) ∧ w = w' := by
  obtain ⟨b, hb⟩ : ∃ b, dlB c = b := ⟨_, rfl⟩
  rw [hb]
  have k : (((c : Int) == 40) = true ∧ b = true) ∨ (((c : Int) == 40) = false ∧ ((c : Int) == 41) = true ∧ b = true) ∨ (((c : Int) == 40) = false ∧ ((c : Int) == 41) = false ∧ ((c : Int) == 60) = true ∧ b = true) ∨ (((c : Int) == 40) = false ∧ ((c : Int) == 41) = false ∧ ((c : Int) == 60) = false ∧ ((c : Int) == 62) = true ∧ b = true) ∨ (((c : Int) == 40) = false ∧ ((c : Int) == 41) = false ∧ ((c : Int) == 60) = false ∧ ((c : Int) == 62) = false ∧ ((c : Int) == 91) = true ∧ b = true) ∨ (((c : Int) == 40) = false ∧ ((c : Int) == 41) = false ∧ ((c : Int) == 60) = false ∧ ((c : Int) == 62) = false ∧ ((c : Int) == 91) = false ∧ ((c : Int) == 93) = true ∧ b = true) ∨ (((c : Int) == 40) = false ∧ ((c : Int) == 41) = false ∧ ((c : Int) == 60) = false ∧ ((c : Int) == 62) = false ∧ ((c : Int) == 91) = false ∧ ((c : Int) == 93) = false ∧ ((c : Int) == 123) = true ∧ b = true) ∨ (((c : Int) == 40) = false ∧ ((c : Int) == 41) = false ∧ ((c : Int) == 60) = false ∧ ((c : Int) == 62) = false ∧ ((c : Int) == 91) = false ∧ ((c : Int) == 93) = false ∧ ((c : Int) == 123) = false ∧ ((c : Int) == 125) = true ∧ b = true) ∨ (((c : Int) == 40) = false ∧ ((c : Int) == 41) = false ∧ ((c : Int) == 60) = false ∧ ((c : Int) == 62) = false ∧ ((c : Int) == 91) = false ∧ ((c : Int) == 93) = false ∧ ((c : Int) == 123) = false ∧ ((c : Int) == 125) = false ∧ ((c : Int) == 47) = true ∧ b = true) ∨ (((c : Int) == 40) = false ∧ ((c : Int) == 41) = false ∧ ((c : Int) == 60) = false ∧ ((c : Int) == 62) = false ∧ ((c : Int) == 91) = false ∧ ((c : Int) == 93) = false ∧ ((c : Int) == 123) = false ∧ ((c : Int) == 125) = false ∧ ((c : Int) == 47) = false ∧ ((c : Int) == 37) = true ∧ b = true) ∨ (((c : Int) == 40) = false ∧ ((c : Int) == 41) = false ∧ ((c : Int) == 60) = false ∧ ((c : Int) == 62) = false ∧ ((c : Int) == 91) = false ∧ ((c : Int) == 93) = false ∧ ((c : Int) == 123) = false ∧ ((c : Int) == 125) = false ∧ ((c : Int) == 47) = false ∧ ((c : Int) == 37) = false ∧ b = false) := by
    subst hb
    by_cases e1 : c = 40
    · exact .inl ⟨by simp; omega, by subst e1; rfl⟩
    have n1 : ((c : Int) == 40) = false := by simp; omega
    by_cases e2 : c = 41
    · exact .inr (.inl ⟨n1, by simp; omega, by subst e2; rfl⟩)
    have n2 : ((c : Int) == 41) = false := by simp; omega
    by_cases e3 : c = 60
    · exact .inr (.inr (.inl ⟨n1, n2, by simp; omega, by subst e3; rfl⟩))
    have n3 : ((c : Int) == 60) = false := by simp; omega
    by_cases e4 : c = 62
    · exact .inr (.inr (.inr (.inl ⟨n1, n2, n3, by simp; omega, by subst e4; rfl⟩)))
    have n4 : ((c : Int) == 62) = false := by simp; omega
    by_cases e5 : c = 91
    · exact .inr (.inr (.inr (.inr (.inl ⟨n1, n2, n3, n4, by simp; omega, by subst e5; rfl⟩))))
    have n5 : ((c : Int) == 91) = false := by simp; omega
    by_cases e6 : c = 93
    · exact .inr (.inr (.inr (.inr (.inr (.inl ⟨n1, n2, n3, n4, n5, by simp; omega, by subst e6; rfl⟩)))))
    have n6 : ((c : Int) == 93) = false := by simp; omega
    by_cases e7 : c = 123
    · exact .inr (.inr (.inr (.inr (.inr (.inr (.inl ⟨n1, n2, n3, n4, n5, n6, by simp; omega, by subst e7; rfl⟩))))))
    have n7 : ((c : Int) == 123) = false := by simp; omega
    by_cases e8 : c = 125
    · exact .inr (.inr (.inr (.inr (.inr (.inr (.inr (.inl ⟨n1, n2, n3, n4, n5, n6, n7, by simp; omega, by subst e8; rfl⟩)))))))
    have n8 : ((c : Int) == 125) = false := by simp; omega
    by_cases e9 : c = 47
    · exact .inr (.inr (.inr (.inr (.inr (.inr (.inr (.inr (.inl ⟨n1, n2, n3, n4, n5, n6, n7, n8, by simp; omega, by subst e9; rfl⟩))))))))
    have n9 : ((c : Int) == 47) = false := by simp; omega
    by_cases e10 : c = 37
    · exact .inr (.inr (.inr (.inr (.inr (.inr (.inr (.inr (.inr (.inl ⟨n1, n2, n3, n4, n5, n6, n7, n8, n9, by simp; omega, by subst e10; rfl⟩)))))))))
    have n10 : ((c : Int) == 37) = false := by simp; omega
    exact .inr (.inr (.inr (.inr (.inr (.inr (.inr (.inr (.inr (.inr (⟨n1, n2, n3, n4, n5, n6, n7, n8, n9, n10, by simp [dlB, e1, e2, e3, e4, e5, e6, e7, e8, e9, e10]⟩))))))))))
  clear hb
  rcases k with ⟨h1, rfl⟩ | ⟨h1, h2, rfl⟩ | ⟨h1, h2, h3, rfl⟩ | ⟨h1, h2, h3, h4, rfl⟩ | ⟨h1, h2, h3, h4, h5, rfl⟩ | ⟨h1, h2, h3, h4, h5, h6, rfl⟩ | ⟨h1, h2, h3, h4, h5, h6, h7, rfl⟩ | ⟨h1, h2, h3, h4, h5, h6, h7, h8, rfl⟩ | ⟨h1, h2, h3, h4, h5, h6, h7, h8, h9, rfl⟩ | ⟨h1, h2, h3, h4, h5, h6, h7, h8, h9, h10, rfl⟩ | ⟨h1, h2, h3, h4, h5, h6, h7, h8, h9, h10, rfl⟩
  all_goals
    go_enter Tryz.func55, Tryz.ntmps55
    go_wp2
    go_ret
    exact ⟨rfl, rfl⟩
theorem isRegular_any (c : Nat) (w : World) :
    Calls Tryz.prog 30 #[.int .u8 c] w fun e w' => e = .returned (.bool (rgB c)) ∧ w = w' := by
  cases h1 : spB c
  · cases h2 : dlB c
    all_goals
      have HR := Lib.hid (show rgB c = _ by unfold rgB; rw [h1, h2])
      have H1 := Lib.hid h1
      have H2 := Lib.hid h2
      clear h1 h2
      go_enter Tryz.func30, Tryz.ntmps30
      go_wp2_with fail
      refine (isSpace_any _ _).mono ?_
      rw [H1.out]
      rintro e w1 ⟨rfl, rfl⟩
      go_wp2_with fail
      refine (isDelimiter_any _ _).mono ?_
      rw [H2.out]
      rintro e w1 ⟨rfl, rfl⟩
      go_wp2_with fail
      go_ret
      exact ⟨by rw [HR.out]; rfl, rfl⟩
  · have HR := Lib.hid (show rgB c = false by unfold rgB; rw [h1]; rfl)
    have H1 := Lib.hid h1
    clear h1
    go_enter Tryz.func30, Tryz.ntmps30
    go_wp2_with fail
    refine (isSpace_any _ _).mono ?_
    rw [H1.out]
    rintro e w1 ⟨rfl, rfl⟩
    go_wp2_with fail
    go_ret
    exact ⟨by rw [HR.out]; rfl, rfl⟩
theorem isOctal_any (c : Nat) (w : World) :
    Calls Tryz.prog 75 #[.int .u8 c] w fun e w' => e = .returned (.bool (octB c)) ∧ w = w' := by
  unfold octB
  cases h1 : decide (48 ≤ c)
  · have d1 : decide ((48 : Int) ≤ (c : Int)) = false := by simp at h1 ⊢; omega
    go_enter Tryz.func75, Tryz.ntmps75
    go_wp2
    go_ret
    exact ⟨rfl, rfl⟩
  · have d1 : decide ((48 : Int) ≤ (c : Int)) = true := by simp at h1 ⊢; omega
    cases h2 : decide (c ≤ 55)
    · have d2 : decide ((c : Int) ≤ 55) = false := by simp at h2 ⊢; omega
      go_enter Tryz.func75, Tryz.ntmps75
      go_wp2
      go_ret
      exact ⟨rfl, rfl⟩
    · have d2 : decide ((c : Int) ≤ 55) = true := by simp at h2 ⊢; omega
      go_enter Tryz.func75, Tryz.ntmps75
      go_wp2
      go_ret
      exact ⟨rfl, rfl⟩
/-- What hexValue answers. -/
def hexV (c : Nat) : Value := match hexD c with
  | some v => .tuple #[.int .u8 v, .bool true]
  | none => .tuple #[.int .u8 0, .bool false]
theorem hexValue_any (c : Nat) (w : World) (hc : c < 256) :
    Calls Tryz.prog 61 #[.int .u8 c] w fun e w' => e = .returned (hexV c) ∧ w = w' := by
  unfold hexV hexD
  by_cases h1 : 48 ≤ c ∧ c ≤ 57
  · rw [if_pos h1]
    have d1 : decide ((48 : Int) ≤ (c : Int)) = true := by simp; omega
    have d2 : decide ((c : Int) ≤ 57) = true := by simp; omega
    have e1 : ((c - 48 : Nat) : Int) = (c : Int) - 48 := by omega
    have e2 : IntKind.u8.wrap ((c : Int) - 48) = (c : Int) - 48 := by show _ % 256 = _; omega
    simp only [e1]
    have E1 := Lib.hid e1
    clear e1
    go_enter Tryz.func61, Tryz.ntmps61
    go_wp2
    go_ret2
    exact ⟨rfl, rfl⟩
  rw [if_neg h1]
  have k1 : decide ((48 : Int) ≤ (c : Int)) = false ∨ (decide ((48 : Int) ≤ (c : Int)) = true ∧ decide ((c : Int) ≤ 57) = false) := by simp only [decide_eq_true_eq, decide_eq_false_iff_not]; omega
  by_cases h2 : 65 ≤ c ∧ c ≤ 70
  · rw [if_pos h2]
    have d1 : decide ((65 : Int) ≤ (c : Int)) = true := by simp; omega
    have d2 : decide ((c : Int) ≤ 70) = true := by simp; omega
    have e1 : ((c - 55 : Nat) : Int) = (c : Int) - 65 + 10 := by omega
    have e2 : IntKind.u8.wrap ((c : Int) - 65) = (c : Int) - 65 := by show _ % 256 = _; omega
    have e3 : IntKind.u8.wrap ((c : Int) - 65 + 10) = (c : Int) - 65 + 10 := by show _ % 256 = _; omega
    simp only [e1]
    have E1 := Lib.hid e1
    clear e1
    rcases k1 with k1 | ⟨k1, k2⟩
    all_goals
      go_enter Tryz.func61, Tryz.ntmps61
      go_wp2
      go_ret2
      exact ⟨rfl, rfl⟩
  rw [if_neg h2]
  have k2 : decide ((65 : Int) ≤ (c : Int)) = false ∨ (decide ((65 : Int) ≤ (c : Int)) = true ∧ decide ((c : Int) ≤ 70) = false) := by simp only [decide_eq_true_eq, decide_eq_false_iff_not]; omega
  by_cases h3 : 97 ≤ c ∧ c ≤ 102
  · rw [if_pos h3]
    have d1 : decide ((97 : Int) ≤ (c : Int)) = true := by simp; omega
    have d2 : decide ((c : Int) ≤ 102) = true := by simp; omega
    have e1 : ((c - 87 : Nat) : Int) = (c : Int) - 97 + 10 := by omega
    have e2 : IntKind.u8.wrap ((c : Int) - 97) = (c : Int) - 97 := by show _ % 256 = _; omega
    have e3 : IntKind.u8.wrap ((c : Int) - 97 + 10) = (c : Int) - 97 + 10 := by show _ % 256 = _; omega
    simp only [e1]
    have E1 := Lib.hid e1
    clear e1
    rcases k1 with k1 | ⟨k1, k1'⟩
    all_goals
      rcases k2 with k2 | ⟨k2, k2'⟩
      all_goals
        go_enter Tryz.func61, Tryz.ntmps61
        go_wp2
        go_ret2
        exact ⟨rfl, rfl⟩
  rw [if_neg h3]
  have k3 : decide ((97 : Int) ≤ (c : Int)) = false ∨ (decide ((97 : Int) ≤ (c : Int)) = true ∧ decide ((c : Int) ≤ 102) = false) := by simp only [decide_eq_true_eq, decide_eq_false_iff_not]; omega
  rcases k1 with k1 | ⟨k1, k1'⟩
  all_goals
    rcases k2 with k2 | ⟨k2, k2'⟩
    all_goals
      rcases k3 with k3 | ⟨k3, k3'⟩
      all_goals
        go_enter Tryz.func61, Tryz.ntmps61
        go_wp2
        go_ret2
        exact ⟨rfl, rfl⟩
end Go.Proofs.YtdiaijdobglaaaaGreatDoor
