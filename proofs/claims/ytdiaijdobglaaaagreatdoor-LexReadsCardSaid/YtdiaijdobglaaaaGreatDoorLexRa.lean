/- lex's reference: the small questions of bytes; two digits of a byte. Written by gen_lexra.py. -/
import Derived.Test.YtdiaijdobglaaaaGreatDoorLexA
import Derived.Test.YtdiaijdobglaaaaGreatDoorLexBackM
import Derived.Test.YtdiaijdobglaaaaGreatDoorByteStr
namespace Go.Proofs.YtdiaijdobglaaaaGreatDoor
open Go.RowKit

theorem mark_ref (c : Nat) (w : World) :
    Calls Tryz.prog 18 #[.int .u8 c] w fun e w' => e = .returned (.bool (dlB c)) ∧ w = w' := by
  obtain ⟨b, hb⟩ : ∃ b, dlB c = b := ⟨_, rfl⟩
  rw [hb]
  have k : (((c : Int) == 40) = true ∧ b = true) ∨ (((c : Int) == 40) = false ∧ ((c : Int) == 41) = true ∧ b = true) ∨ (((c : Int) == 40) = false ∧ ((c : Int) == 41) = false ∧ ((c : Int) == 60) = true ∧ b = true) ∨ (((c : Int) == 40) = false ∧ ((c : Int) == 41) = false ∧ ((c : Int) == 60) = false ∧ ((c : Int) == 62) = true ∧ b = true) ∨ (((c : Int) == 40) = false ∧ ((c : Int) == 41) = false ∧ ((c : Int) == 60) = false ∧ ((c : Int) == 62) = false ∧ ((c : Int) == 91) = true ∧ b = true) ∨ (((c : Int) == 40) = false ∧ ((c : Int) == 41) = false ∧ ((c : Int) == 60) = false ∧ ((c : Int) == 62) = false ∧ ((c : Int) == 91) = false ∧ ((c : Int) == 93) = true ∧ b = true) ∨ (((c : Int) == 40) = false ∧ ((c : Int) == 41) = false ∧ ((c : Int) == 60) = false ∧ ((c : Int) == 62) = false ∧ ((c : Int) == 91) = false ∧ ((c : Int) == 93) = false ∧ ((c : Int) == 123) = true ∧ b = true) ∨ (((c : Int) == 40) = false ∧ ((c : Int) == 41) = false ∧ ((c : Int) == 60) = false ∧ ((c : Int) == 62) = false ∧ ((c : Int) == 91) = false ∧ ((c : Int) == 93) = false ∧ ((c : Int) == 123) = false ∧ ((c : Int) == 125) = true ∧ b = true) ∨ (((c : Int) == 40) = false ∧ ((c : Int) == 41) = false ∧ ((c : Int) == 60) = false ∧ ((c : Int) == 62) = false ∧ ((c : Int) == 91) = false ∧ ((c : Int) == 93) = false ∧ ((c : Int) == 123) = false ∧ ((c : Int) == 125) = false ∧ ((c : Int) == 47) = true ∧ b = true) ∨ (((c : Int) == 40) = false ∧ ((c : Int) == 41) = false ∧ ((c : Int) == 60) = false ∧ ((c : Int) == 62) = false ∧ ((c : Int) == 91) = false ∧ ((c : Int) == 93) = false ∧ ((c : Int) == 123) = false ∧ ((c : Int) == 125) = false ∧ ((c : Int) == 47) = false ∧ ((c : Int) == 37) = true ∧ b = true) ∨ (((c : Int) == 40) = false ∧ ((c : Int) == 41) = false ∧ ((c : Int) == 60) = false ∧ ((c : Int) == 62) = false ∧ ((c : Int) == 91) = false ∧ ((c : Int) == 93) = false ∧ ((c : Int) == 123) = false ∧ ((c : Int) == 125) = false ∧ ((c : Int) == 47) = false ∧ ((c : Int) == 37) = false ∧ b = false) := by
    subst hb
    by_cases e1 : c = 40
    · exact .inl ⟨by simp; omega, by subst e1; rfl⟩
    have n1 : ((c : Int) == 40) = false := by simp; omega
    by_cases e2 : c = 41
    · exact .inr (.inl ⟨n1, by simp; omega, by subst e2; rfl⟩)
    have n2 : ((c : Int) == 41) = false := by simp; omega
    by_cases e3 : c = 60
    · exact .inr (.inr (.inl ⟨n1, n2, by simp; omega, by subst e3; rfl⟩))
    have n3 : ((c : Int) == 60) = false := by simp; omega
    by_cases e4 : c = 62
    · exact .inr (.inr (.inr (.inl ⟨n1, n2, n3, by simp; omega, by subst e4; rfl⟩)))
    have n4 : ((c : Int) == 62) = false := by simp; omega
    by_cases e5 : c = 91
    · exact .inr (.inr (.inr (.inr (.inl ⟨n1, n2, n3, n4, by simp; omega, by subst e5; rfl⟩))))
    have n5 : ((c : Int) == 91) = false := by simp; omega
    by_cases e6 : c = 93
    · exact .inr (.inr (.inr (.inr (.inr (.inl ⟨n1, n2, n3, n4, n5, by simp; omega, by subst e6; rfl⟩)))))
    have n6 : ((c : Int) == 93) = false := by simp; omega
    by_cases e7 : c = 123
    · exact .inr (.inr (.inr (.inr (.inr (.inr (.inl ⟨n1, n2, n3, n4, n5, n6, by simp; omega, by subst e7; rfl⟩))))))
    have n7 : ((c : Int) == 123) = false := by simp; omega
    by_cases e8 : c = 125
    · exact .inr (.inr (.inr (.inr (.inr (.inr (.inr (.inl ⟨n1, n2, n3, n4, n5, n6, n7, by simp; omega, by subst e8; rfl⟩)))))))
    have n8 : ((c : Int) == 125) = false := by simp; omega
    by_cases e9 : c = 47
    · exact .inr (.inr (.inr (.inr (.inr (.inr (.inr (.inr (.inl ⟨n1, n2, n3, n4, n5, n6, n7, n8, by simp; omega, by subst e9; rfl⟩))))))))
    have n9 : ((c : Int) == 47) = false := by simp; omega
    by_cases e10 : c = 37
    · exact .inr (.inr (.inr (.inr (.inr (.inr (.inr (.inr (.inr (.inl ⟨n1, n2, n3, n4, n5, n6, n7, n8, n9, by simp; omega, by subst e10; rfl⟩)))))))))
    have n10 : ((c : Int) == 37) = false := by simp; omega
    exact .inr (.inr (.inr (.inr (.inr (.inr (.inr (.inr (.inr (.inr (⟨n1, n2, n3, n4, n5, n6, n7, n8, n9, n10, by simp [dlB, e1, e2, e3, e4, e5, e6, e7, e8, e9, e10]⟩))))))))))
  clear hb
  rcases k with ⟨h1, rfl⟩ | ⟨h1, h2, rfl⟩ | ⟨h1, h2, h3, rfl⟩ | ⟨h1, h2, h3, h4, rfl⟩ | ⟨h1, h2, h3, h4, h5, rfl⟩ | ⟨h1, h2, h3, h4, h5, h6, rfl⟩ | ⟨h1, h2, h3, h4, h5, h6, h7, rfl⟩ | ⟨h1, h2, h3, h4, h5, h6, h7, h8, rfl⟩ | ⟨h1, h2, h3, h4, h5, h6, h7, h8, h9, rfl⟩ | ⟨h1, h2, h3, h4, h5, h6, h7, h8, h9, h10, rfl⟩ | ⟨h1, h2, h3, h4, h5, h6, h7, h8, h9, h10, rfl⟩
  all_goals
    go_enter Tryz.func18, Tryz.ntmps18
    go_wp2
    go_ret
    exact ⟨rfl, rfl⟩
theorem white_ref (c : Nat) (w : World) :
    Calls Tryz.prog 38 #[.int .u8 c] w fun e w' => e = .returned (.bool (spB c)) ∧ w = w' := by
  obtain ⟨b, hb⟩ : ∃ b, spB c = b := ⟨_, rfl⟩
  rw [hb]
  have k : (((c : Int) == 0) = true ∧ b = true) ∨ (((c : Int) == 0) = false ∧ ((c : Int) == 9) = true ∧ b = true) ∨ (((c : Int) == 0) = false ∧ ((c : Int) == 9) = false ∧ ((c : Int) == 10) = true ∧ b = true) ∨ (((c : Int) == 0) = false ∧ ((c : Int) == 9) = false ∧ ((c : Int) == 10) = false ∧ ((c : Int) == 12) = true ∧ b = true) ∨ (((c : Int) == 0) = false ∧ ((c : Int) == 9) = false ∧ ((c : Int) == 10) = false ∧ ((c : Int) == 12) = false ∧ ((c : Int) == 13) = true ∧ b = true) ∨ (((c : Int) == 0) = false ∧ ((c : Int) == 9) = false ∧ ((c : Int) == 10) = false ∧ ((c : Int) == 12) = false ∧ ((c : Int) == 13) = false ∧ ((c : Int) == 32) = true ∧ b = true) ∨ (((c : Int) == 0) = false ∧ ((c : Int) == 9) = false ∧ ((c : Int) == 10) = false ∧ ((c : Int) == 12) = false ∧ ((c : Int) == 13) = false ∧ ((c : Int) == 32) = false ∧ b = false) := by
    subst hb
    by_cases e1 : c = 0
    · exact .inl ⟨by simp; omega, by subst e1; rfl⟩
    have n1 : ((c : Int) == 0) = false := by simp; omega
    by_cases e2 : c = 9
    · exact .inr (.inl ⟨n1, by simp; omega, by subst e2; rfl⟩)
    have n2 : ((c : Int) == 9) = false := by simp; omega
    by_cases e3 : c = 10
    · exact .inr (.inr (.inl ⟨n1, n2, by simp; omega, by subst e3; rfl⟩))
    have n3 : ((c : Int) == 10) = false := by simp; omega
    by_cases e4 : c = 12
    · exact .inr (.inr (.inr (.inl ⟨n1, n2, n3, by simp; omega, by subst e4; rfl⟩)))
    have n4 : ((c : Int) == 12) = false := by simp; omega
    by_cases e5 : c = 13
    · exact .inr (.inr (.inr (.inr (.inl ⟨n1, n2, n3, n4, by simp; omega, by subst e5; rfl⟩))))
    have n5 : ((c : Int) == 13) = false := by simp; omega
    by_cases e6 : c = 32
    · exact .inr (.inr (.inr (.inr (.inr (.inl ⟨n1, n2, n3, n4, n5, by simp; omega, by subst e6; rfl⟩)))))
    have n6 : ((c : Int) == 32) = false := by simp; omega
    exact .inr (.inr (.inr (.inr (.inr (.inr (⟨n1, n2, n3, n4, n5, n6, by simp [spB, e1, e2, e3, e4, e5, e6]⟩))))))
  clear hb
  rcases k with ⟨h1, rfl⟩ | ⟨h1, h2, rfl⟩ | ⟨h1, h2, h3, rfl⟩ | ⟨h1, h2, h3, h4, rfl⟩ | ⟨h1, h2, h3, h4, h5, rfl⟩ | ⟨h1, h2, h3, h4, h5, h6, rfl⟩ | ⟨h1, h2, h3, h4, h5, h6, rfl⟩
  all_goals
    go_enter Tryz.func38, Tryz.ntmps38
    go_wp2
    go_ret
    exact ⟨rfl, rfl⟩
theorem other_ref (c : Nat) (w : World) :
    Calls Tryz.prog 26 #[.int .u8 c] w fun e w' => e = .returned (.bool (rgB c)) ∧ w = w' := by
  cases h2 : dlB c
  · cases h1 : spB c
    all_goals
      have HR := Lib.hid (show rgB c = _ by unfold rgB; rw [h1, h2])
      have H1 := Lib.hid h1
      have H2 := Lib.hid h2
      clear h1 h2
      go_enter Tryz.func26, Tryz.ntmps26
      go_wp2_with fail
      refine (mark_ref _ _).mono ?_
      rw [H2.out]
      rintro e w1 ⟨rfl, rfl⟩
      go_wp2_with fail
      refine (white_ref _ _).mono ?_
      rw [H1.out]
      rintro e w1 ⟨rfl, rfl⟩
      go_wp2_with fail
      go_ret
      exact ⟨by rw [HR.out]; rfl, rfl⟩
  · have HR := Lib.hid (show rgB c = false by unfold rgB; rw [h2]; cases spB c <;> rfl)
    have H2 := Lib.hid h2
    clear h2
    go_enter Tryz.func26, Tryz.ntmps26
    go_wp2_with fail
    refine (mark_ref _ _).mono ?_
    rw [H2.out]
    rintro e w1 ⟨rfl, rfl⟩
    go_wp2_with fail
    go_ret
    exact ⟨by rw [HR.out]; rfl, rfl⟩
def hexI (c : Nat) : Int := match hexD c with
  | some d => (d : Int)
  | none => -1
theorem digit_ref (c : Nat) (w : World) (hc : c < 256) :
    Calls Tryz.prog 39 #[.int .u8 c] w fun e w' => e = .returned (.int .i64 (hexI c)) ∧ w = w' := by
  obtain ⟨v, hv⟩ : ∃ v, hexI c = v := ⟨_, rfl⟩
  rw [hv]
  have k : (decide ((48 : Int) ≤ c) = true ∧ decide ((c : Int) ≤ 57) = true ∧ v = (c : Int) - 48 ∧ IntKind.u8.wrap ((c : Int) - 48) = (c : Int) - 48) ∨
      (∃ b, (decide ((48 : Int) ≤ c) = b ∧ (b = false ∨ decide ((c : Int) ≤ 57) = false)) ∧
        ((decide ((65 : Int) ≤ c) = true ∧ decide ((c : Int) ≤ 70) = true ∧ v = (c : Int) - 65 + 10 ∧ IntKind.u8.wrap ((c : Int) - 65) = (c : Int) - 65) ∨
        (∃ b2, (decide ((65 : Int) ≤ c) = b2 ∧ (b2 = false ∨ decide ((c : Int) ≤ 70) = false)) ∧
          ((decide ((97 : Int) ≤ c) = true ∧ decide ((c : Int) ≤ 102) = true ∧ v = (c : Int) - 97 + 10 ∧ IntKind.u8.wrap ((c : Int) - 97) = (c : Int) - 97) ∨
          (∃ b3, (decide ((97 : Int) ≤ c) = b3 ∧ (b3 = false ∨ decide ((c : Int) ≤ 102) = false)) ∧ v = -1))))) := by
    have hw : ∀ x : Int, 0 ≤ x → x < 256 → IntKind.u8.wrap x = x := fun x h0 h1 => by show x % 256 = x; omega
    subst hv
    unfold hexI hexD
    by_cases h1 : 48 ≤ c ∧ c ≤ 57
    · left
      rw [if_pos h1]
      exact ⟨by simp; omega, by simp; omega, by show ((c - 48 : Nat) : Int) = _; omega, hw _ (by omega) (by omega)⟩
    · right
      refine ⟨_, ⟨rfl, by simp; omega⟩, ?_⟩
      rw [if_neg h1]
      by_cases h2 : 65 ≤ c ∧ c ≤ 70
      · left
        rw [if_pos h2]
        exact ⟨by simp; omega, by simp; omega, by show ((c - 55 : Nat) : Int) = _; omega, hw _ (by omega) (by omega)⟩
      · right
        refine ⟨_, ⟨rfl, by simp; omega⟩, ?_⟩
        rw [if_neg h2]
        by_cases h3 : 97 ≤ c ∧ c ≤ 102
        · left
          rw [if_pos h3]
          exact ⟨by simp; omega, by simp; omega, by show ((c - 87 : Nat) : Int) = _; omega, hw _ (by omega) (by omega)⟩
        · right
          refine ⟨_, ⟨rfl, by simp; omega⟩, ?_⟩
          rw [if_neg h3]
  clear hv
  rcases k with ⟨h1, h2, rfl, h3⟩ | ⟨b, ⟨h1, rfl | h2⟩, ⟨h3, h4, rfl, h5⟩ | ⟨b2, ⟨h3, rfl | h4⟩, ⟨h5, h6, rfl, h7⟩ | ⟨b3, ⟨h5, rfl | h6⟩, rfl⟩⟩⟩
  all_goals try cases b
  all_goals try cases b2
  all_goals try cases b3
  all_goals
    go_enter Tryz.func39, Tryz.ntmps39
    go_wp2
    go_ret
    exact ⟨rfl, rfl⟩
end Go.Proofs.YtdiaijdobglaaaaGreatDoor
