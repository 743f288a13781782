/- The walks of dec's read (a labelled loop over a row of digits) and cutSign. -/
import Derived.Test.YtdiaijdobglaaaaGreatDoorDecWalkA
import Derived.LoopTactic
import Derived.Test.YtdiaijdobglaaaaGreatDoorShelf
namespace Go.Proofs.YtdiaijdobglaaaaGreatDoor
open Go.RowKit Dec

/-- What read reckons: the number so far and the error so far, over the bytes that are left. -/
def rd : Int → Int → List UInt8 → Int × Int
  | m, e, [] => (m, e)
  | m, e, c :: l => if (c.toNat : Int) < 48 ∨ 57 < (c.toNat : Int) then (0, 4) else if e = 5 then rd m 5 l else if (999999999999999999 - ((c.toNat : Int) - 48)) / 10 < m then rd 0 5 l else rd (m * 10 + ((c.toNat : Int) - 48)) e l

theorem drop_cons (s : ByteArray) (k : Nat) (h : k < s.size) : s.data.toList.drop k = s[k] :: s.data.toList.drop (k + 1) := by
  rw [List.drop_eq_getElem_cons (by simpa using h)]; rfl

theorem rd_bad {m e : Int} {c : UInt8} {l : List UInt8} (h : (c.toNat : Int) < 48 ∨ 57 < (c.toNat : Int)) : rd m e (c :: l) = (0, 4) := by rw [rd, if_pos h]
theorem rd_over {m : Int} {c : UInt8} {l : List UInt8} (h : ¬ ((c.toNat : Int) < 48 ∨ 57 < (c.toNat : Int))) : rd m 5 (c :: l) = rd m 5 l := by rw [rd, if_neg h, if_pos rfl]
theorem rd_big {m : Int} {c : UInt8} {l : List UInt8} (h : ¬ ((c.toNat : Int) < 48 ∨ 57 < (c.toNat : Int))) (h2 : (999999999999999999 - ((c.toNat : Int) - 48)) / 10 < m) : rd m 0 (c :: l) = rd 0 5 l := by rw [rd, if_neg h, if_neg (by decide), if_pos h2]
theorem rd_go {m : Int} {c : UInt8} {l : List UInt8} (h : ¬ ((c.toNat : Int) < 48 ∨ 57 < (c.toNat : Int))) (h2 : ¬ (999999999999999999 - ((c.toNat : Int) - 48)) / 10 < m) : rd m 0 (c :: l) = rd (m * 10 + ((c.toNat : Int) - 48)) 0 l := by rw [rd, if_neg h, if_neg (by decide), if_neg h2]

set_option maxHeartbeats 1000000 in
theorem read_any (s : ByteArray) (w : World) (hs : (s.size : Int) ≤ 1000) :
    Calls Tryz.prog 74 #[.string s] w fun e w' => e = .returned (.tuple #[.int .i64 (rd 0 0 s.data.toList).1, .int .i64 (rd 0 0 s.data.toList).2]) ∧ w = w' := by
  obtain ⟨R, hR⟩ : ∃ R, R = rd 0 0 s.data.toList := ⟨_, rfl⟩
  rw [← hR]
  have HR := Lib.hid hR
  clear hR
  go_enter Tryz.func74, Tryz.ntmps74
  go_wp2
  go_step3
  go_wp2
  go_step3
  go_wp2
  go_loop [4, 5, 10] (fun m e i => ∃ (k : Nat) (M E : Int), k ≤ s.size ∧ i = .int .i64 k ∧ m = .int .i64 M ∧ e = .int .i64 E ∧ 0 ≤ M ∧ M ≤ 999999999999999999 ∧ Hid (E = 0 ∨ E = 5) ∧ Hid (R = rd M E (s.data.toList.drop k))) (fun _ _ i => s.size - (intOf i).toNat)
  case atStart => exact ⟨0, 0, 0, Nat.zero_le _, rfl, rfl, rfl, by decide, by decide, .inl rfl, HR⟩
  case round =>
    obtain ⟨k, M, E, hk, rfl, rfl, rfl, hM, hM', hE, hr⟩ := hrel
    clear HR
    by_cases hlt : k < s.size
    · have hr' := hr.out
      rw [drop_cons s k hlt] at hr'
      clear hr
      by_cases hd : (s[k].toNat : Int) < 48 ∨ 57 < (s[k].toNat : Int)
      · rw [rd_bad hd] at hr'
        have HR := Lib.hid hr'
        clear hr'
        rcases hd with hd | hd
        · go_wp2
          go_ret2
          rw [HR.out]
          exact ⟨rfl, rfl⟩
        · have hu : (s[k].toNat : Int) ≤ 255 := by have := s[k].toNat_lt; omega
          have hd' : ¬ (s[k].toNat : Int) < 48 := by omega
          go_wp2
          go_ret2
          rw [HR.out]
          exact ⟨rfl, rfl⟩
      · have hd1 : ¬ (s[k].toNat : Int) < 48 := by omega
        have hd2 : (s[k].toNat : Int) ≤ 57 := by omega
        rcases hE.out with rfl | rfl
        · by_cases hb : (999999999999999999 - ((s[k].toNat : Int) - 48)) / 10 < M
          · rw [rd_big hd hb] at hr'
            have HR := Lib.hid hr'
            clear hr' hd hE
            go_wp2
            go_round
            case rel => exact ⟨k + 1, 0, 5, by omega, by go_num, rfl, rfl, by omega, by omega, .inr rfl, HR⟩
            case measure => simp [intOf]; omega
          · rw [rd_go hd hb] at hr'
            have HR := Lib.hid hr'
            clear hr' hd hE
            go_wp2
            go_round
            case rel => exact ⟨k + 1, M * 10 + ((s[k].toNat : Int) - 48), 0, by omega, by go_num, rfl, rfl, by omega, by omega, .inl rfl, HR⟩
            case measure => simp [intOf]; omega
        · rw [rd_over hd] at hr'
          have HR := Lib.hid hr'
          clear hr' hd hE
          go_wp2
          go_round
          case rel => exact ⟨k + 1, M, 5, by omega, by go_num, rfl, rfl, by omega, by omega, .inr rfl, HR⟩
          case measure => simp [intOf]; omega
    · obtain rfl : k = s.size := by omega
      have hr' := hr.out
      rw [List.drop_of_length_le (by simp)] at hr'
      have HR := Lib.hid hr'
      clear hr hr'
      go_wp2
      go_ret2
      rw [HR.out]
      exact ⟨rfl, rfl⟩

theorem cutSign_minus (s : ByteArray) (l : List UInt8) (w : World) (h : s.data.toList = 45 :: l) :
    Calls Tryz.prog 71 #[.string s] w fun e w' => e = .returned (.tuple #[.int .i64 (-1), .string ⟨l.toArray⟩]) ∧ w = w' := by
  have h1 : Lib.hasPrefix s.data.toList [45] = true := by rw [h]; simp [Lib.hasPrefix]
  have h2 : Lib.trimPrefix s.data.toList [45] = l := by unfold Lib.trimPrefix; rw [if_pos h1, h]; rfl
  have hc : Hid (Calls Tryz.prog 88 #[.string s, .string { data := #[45] }] w fun e w' => e = .returned (.tuple #[.string ⟨l.toArray⟩, .bool true]) ∧ w = w') :=
    (Tryz.strings_CutPrefix s { data := #[45] } w).mono fun e w' ⟨a, b⟩ => ⟨by rw [a, show ({ data := #[45] } : ByteArray).data.toList = [45] from rfl, h1, h2], b.symm⟩
  clear h h1 h2
  go_enter Tryz.func71, Tryz.ntmps71
  go_wp2_with (go_at_call 88; refine hc.out.mono ?_; rintro e w' ⟨rfl, rfl⟩)
  go_ret2
  exact ⟨rfl, rfl⟩
theorem cutSign_other (s : ByteArray) (l : List UInt8) (w : World) (h1 : Lib.hasPrefix s.data.toList [45] = false) (h2 : Lib.trimPrefix s.data.toList [43] = l) :
    Calls Tryz.prog 71 #[.string s] w fun e w' => e = .returned (.tuple #[.int .i64 1, .string ⟨l.toArray⟩]) ∧ w = w' := by
  have hc : Hid (Calls Tryz.prog 88 #[.string s, .string { data := #[45] }] w fun e w' => ∃ r, e = .returned (.tuple #[.string r, .bool false]) ∧ w = w') :=
    (Tryz.strings_CutPrefix s { data := #[45] } w).mono fun e w' ⟨a, b⟩ => ⟨⟨(Lib.trimPrefix s.data.toList [45]).toArray⟩, by rw [a, show ({ data := #[45] } : ByteArray).data.toList = [45] from rfl, h1], b.symm⟩
  have ht : Hid (Calls Tryz.prog 89 #[.string s, .string { data := #[43] }] w fun e w' => e = .returned (.string ⟨l.toArray⟩) ∧ w = w') :=
    (Tryz.strings_TrimPrefix s { data := #[43] } w).mono fun e w' ⟨a, b⟩ => ⟨by rw [a, show ({ data := #[43] } : ByteArray).data.toList = [43] from rfl, h2], b.symm⟩
  clear h1 h2
  go_enter Tryz.func71, Tryz.ntmps71
  go_wp2_with (first | (go_at_call 88; refine hc.out.mono ?_; rintro e w' ⟨r, rfl, rfl⟩) | (go_at_call 89; refine ht.out.mono ?_; rintro e w' ⟨rfl, rfl⟩))
  go_ret2
  exact ⟨rfl, rfl⟩

/-- A numeral's sign and what stands behind it. -/
def signOf (t : List UInt8) : Int × List UInt8 := if Lib.hasPrefix t [45] then (-1, t.drop 1) else (1, Lib.trimPrefix t [43])
theorem cutSign_any (s : ByteArray) (w : World) :
    Calls Tryz.prog 71 #[.string s] w fun e w' => e = .returned (.tuple #[.int .i64 (signOf s.data.toList).1, .string ⟨(signOf s.data.toList).2.toArray⟩]) ∧ w = w' := by
  by_cases h : Lib.hasPrefix s.data.toList [45] = true
  · unfold signOf
    rw [if_pos h]
    cases hl : s.data.toList with
    | nil => rw [hl] at h; simp [Lib.hasPrefix] at h
    | cons c l =>
      have hc : 45 = c := by
        rw [hl] at h
        unfold Lib.hasPrefix at h
        rw [List.isPrefixOf_cons_cons, Bool.and_eq_true, beq_iff_eq] at h
        exact h.1
      subst hc
      exact cutSign_minus s l w hl
  · unfold signOf
    rw [if_neg h]
    exact cutSign_other s _ w (by simpa using h) rfl
end Go.Proofs.YtdiaijdobglaaaaGreatDoor
