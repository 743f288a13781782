/- cmap's reference: Text, of every text. -/
import Derived.Test.YtldhkhaciflmoaaFontDj
import Derived.Test.YtldhkhaciflmoaaFontH
namespace Go.Proofs.Ytldhkhaciflmoaa
open Go.RowKit

theorem strB_append (a b : List Nat) : strB a ++ strB b = strB (a ++ b) := by
  apply ByteArray.ext
  rw [ByteArray.data_append]
  simp [strB]
theorem text_some {s : ByteArray} {o : List Nat} (h : textU s.data.toList = some o) : textS s = strB o ∧ textE s = 0 := by
  unfold textS textE
  rw [h]
  exact ⟨rfl, rfl⟩
theorem text_none {s : ByteArray} (h : textU s.data.toList = none) : textS s = ⟨#[]⟩ ∧ textE s = 4 := by
  unfold textS textE
  rw [h]
  exact ⟨rfl, rfl⟩
def TextSaid (s : ByteArray) (w : World) (e : Ending) (w' : World) : Prop := e = .returned (.tuple #[.string (textS s), .int .i64 (textE s)]) ∧ Below w.heap.size w w'
theorem said_none {s : ByteArray} {w w' : World} (h : textU s.data.toList = none) (hb : Below w.heap.size w w') : TextSaid s w (.returned (.tuple #[.string ⟨#[]⟩, .int .i64 4])) w' :=
  ⟨by rw [(text_none h).1, (text_none h).2], hb⟩
theorem said_some {s : ByteArray} {w w' : World} {o : List Nat} (h : textU s.data.toList = some o) (hb : Below w.heap.size w w') : TextSaid s w (.returned (.tuple #[.string (strB o), .int .i64 0])) w' :=
  ⟨by rw [(text_some h).1, (text_some h).2], hb⟩
set_option maxRecDepth 100000 in
set_option maxHeartbeats 4000000 in
theorem rtext_any (s : ByteArray) (w : World) (hs : s.size ≤ 1000000000) : Calls Try.prog 27 #[.string s] w (TextSaid s w) := by
  have hl := list_size s
  by_cases ho : s.size % 2 = 1
  · have hm : ((s.size : Int) % 2 == 0) = false := by simp; omega
    have hm2 : ((s.size : Int) % 2 != 0) = true := by simp; omega
    have HN := Lib.hid (said_none (s := s) (w := w) (w' := w) (textU_odd _ _ (Nat.le_refl _) (by rw [hl]; exact ho)) (Below.refl _ _))
    clear hl ho
    go_enter Try.func27, Try.ntmps27
    go_wp2_with fail
    go_ret2
    exact HN.out
  have hm : ((s.size : Int) % 2 == 0) = true := by simp; omega
  have hm2 : ((s.size : Int) % 2 != 0) = false := by simp; omega
  have HE : Hid (s.size % 2 = 0) := Lib.hid (by omega)
  have HL := Lib.hid hl
  clear hl ho
  go_enter Try.func27, Try.ntmps27
  go_wp2_with fail
  go_loopw [4, 5] (fun s4 s5 wx => ∃ (k : Nat) (acc : List Nat), s4 = .string (strB acc) ∧ s5 = .int .i64 k ∧ k ≤ s.size ∧ Hid (k % 2 = 0) ∧ Hid (textU s.data.toList = restU acc (s.data.toList.drop k)) ∧ Hid (acc.length ≤ 2 * k) ∧ Hid (Below w.heap.size w wx)) (fun _ s5 _ => s.size - (intOf s5).toNat)
  case atStart => exact ⟨0, [], rfl, rfl, by omega, Lib.hid rfl, Lib.hid (restU_start _).symm, Lib.hid (by simp), Lib.hid (Below.refl _ _)⟩
  case round =>
    obtain ⟨k, acc, rfl, rfl, hk, HK, HA, HAL, HW⟩ := hrel
    by_cases hlt : k < s.size
    · have d1 : decide ((k : Int) < (s.size : Int)) = true := by simp; omega
      have d2 : decide (k < s.size) = true := by simp; omega
      have hlt2 : k + 1 < s.size := by have := HE.out; have := HK.out; omega
      have q := hiU_lt (s.data.toList.drop k)
      have HP := Lib.hid (restU_plain (l := s.data.toList.drop k) (acc := acc) (by rw [List.length_drop, HL.out]; omega))
      have HN := Lib.hid (restU_none (l := s.data.toList.drop k) (acc := acc) (by rw [List.length_drop, HL.out]; omega))
      have HQ := Lib.hid (fun (h4 : k + 4 ≤ s.size) => restU_pair (l := s.data.toList.drop k) (acc := acc) (by rw [List.length_drop, HL.out]; omega))
      have HH := rhalf_any s k
      have HH2 := fun (w : World) (h : k + 3 < s.size) => rhalf_any s (k + 2) w h (by omega)
      rw [Int.natCast_add, ← List.drop_drop] at HH2
      have HD2 : Hid ((s.data.toList.drop k).drop 2 = s.data.toList.drop (k + 2)) := Lib.hid (by rw [List.drop_drop])
      have HD4 : Hid ((s.data.toList.drop k).drop 4 = s.data.toList.drop (k + 4)) := Lib.hid (by rw [List.drop_drop])
      have HDL : Hid ((s.data.toList.drop k).length = s.size - k) := Lib.hid (by rw [List.length_drop, HL.out])
      generalize s.data.toList.drop k = L at *
      obtain ⟨n, hn⟩ : ∃ n, hiU L = n := ⟨_, rfl⟩
      rw [hn] at q HH
      have HM := Lib.hid hn
      have HH := Lib.hid HH
      clear hn
      have hsA := strB_size acc
      have HSA : Hid ((strB acc).size ≤ 2000000000) := Lib.hid (by have := HAL.out; omega)
      clear hsA
      by_cases hp : n < 55296 ∨ 57343 < n
      · have HX := Lib.hid (HP.out (by rw [HM.out]; exact hp))
        have HSP : Hid ((strB (putU n)).size ≤ 4) := Lib.hid (by rw [strB_size]; exact (putU_length n).2)
        have hb1 := HSA.out
        have hb2 := HSP.out
        have HPP := Lib.hid (fun w => rput_any n w (by omega))
        rcases hp with hp | hp
        · have e1 : decide ((n : Int) ≥ 55296) = false := by simp; omega
          have e2 : decide ((55296 : Int) ≤ (n : Int)) = false := by simp; omega
          go_wp2_with fail
          refine (HH.out _ (by omega) (by omega)).mono ?_
          rintro e w1 ⟨rfl, j, rfl⟩
          go_wp2_with fail
          refine (HPP.out _).mono ?_
          rintro e w2 ⟨rfl, hb⟩
          have HW2 := Lib.hid ((below_drewN HW.out j).trans (hb.mono (below_drewN HW.out j).size))
          clear hb
          go_wp2_with fail
          go_roundw
          case rel => exact ⟨k + 2, acc ++ putU n, by rw [strB_append], by go_num, by omega, Lib.hid (by have := HK.out; omega), Lib.hid (by rw [HA.out, HX.out, HM.out, HD2.out]), Lib.hid (by have := HAL.out; have := putU_length n; rw [List.length_append]; omega), HW2⟩
          case measure => simp [intOf]; omega
        · have e1 : decide ((n : Int) ≥ 55296) = true := by simp; omega
          have e2 : decide ((55296 : Int) ≤ (n : Int)) = true := by simp; omega
          have e3 : decide ((n : Int) ≤ 57343) = false := by simp; omega
          go_wp2_with fail
          refine (HH.out _ (by omega) (by omega)).mono ?_
          rintro e w1 ⟨rfl, j, rfl⟩
          go_wp2_with fail
          refine (HPP.out _).mono ?_
          rintro e w2 ⟨rfl, hb⟩
          have HW2 := Lib.hid ((below_drewN HW.out j).trans (hb.mono (below_drewN HW.out j).size))
          clear hb
          go_wp2_with fail
          go_roundw
          case rel => exact ⟨k + 2, acc ++ putU n, by rw [strB_append], by go_num, by omega, Lib.hid (by have := HK.out; omega), Lib.hid (by rw [HA.out, HX.out, HM.out, HD2.out]), Lib.hid (by have := HAL.out; have := putU_length n; rw [List.length_append]; omega), HW2⟩
          case measure => simp [intOf]; omega
      · have e1 : decide ((n : Int) ≥ 55296) = true := by simp; omega
        have e2 : decide ((55296 : Int) ≤ (n : Int)) = true := by simp; omega
        have e3 : decide ((n : Int) ≤ 57343) = true := by simp; omega
        have n1 : 55296 ≤ n := by omega
        have n2 : n ≤ 57343 := by omega
        clear hp HP
        by_cases c1 : 56319 < n
        · have e4 : decide ((n : Int) > 56319) = true := by simp; omega
          have e5 : decide ((56319 : Int) < (n : Int)) = true := by simp; omega
          have HX := Lib.hid (HN.out (.inr ⟨by rw [HM.out]; omega, by rw [HM.out]; omega, .inl (by rw [HM.out]; omega)⟩))
          go_wp2_with fail
          refine (HH.out _ (by omega) (by omega)).mono ?_
          rintro e w1 ⟨rfl, j, rfl⟩
          go_wp2_with fail
          go_ret2
          exact said_none (by rw [HA.out, HX.out]) (below_drewN HW.out _)
        have e4 : decide ((n : Int) > 56319) = false := by simp; omega
        have e5 : decide ((56319 : Int) < (n : Int)) = false := by simp; omega
        by_cases c2 : k + 2 < s.size
        · have e6 : decide ((k : Int) + 2 ≥ (s.size : Int)) = false := by simp; omega
          have e7 : decide ((s.size : Int) ≤ (k : Int) + 2) = false := by simp; omega
          have c3 : k + 4 ≤ s.size := by have := HE.out; have := HK.out; omega
          have q2 := hiU_lt (L.drop 2)
          obtain ⟨m, hm⟩ : ∃ m, hiU (L.drop 2) = m := ⟨_, rfl⟩
          rw [hm] at q2 HH2
          have HM2 := Lib.hid hm
          have HH2 := Lib.hid HH2
          clear hm
          by_cases c4 : m < 56320
          · have f1 : decide ((m : Int) < 56320) = true := by simp; omega
            have HX := Lib.hid (HN.out (.inr ⟨by rw [HM.out]; omega, by rw [HM.out]; omega, .inr (.inr (.inl (by rw [HM2.out]; omega)))⟩))
            go_wp2_with fail
            refine (HH.out _ (by omega) (by omega)).mono ?_
            rintro e w1 ⟨rfl, j, rfl⟩
            go_wp2_with fail
            refine (HH2.out _ (by omega)).mono ?_
            rintro e w1 ⟨rfl, j2, rfl⟩
            go_wp2_with fail
            go_ret2
            exact said_none (by rw [HA.out, HX.out]) (below_drewN HW.out _)
          have f1 : decide ((m : Int) < 56320) = false := by simp; omega
          by_cases c5 : 57343 < m
          · have f2 : decide ((m : Int) > 57343) = true := by simp; omega
            have f3 : decide ((57343 : Int) < (m : Int)) = true := by simp; omega
            have HX := Lib.hid (HN.out (.inr ⟨by rw [HM.out]; omega, by rw [HM.out]; omega, .inr (.inr (.inr (by rw [HM2.out]; omega)))⟩))
            go_wp2_with fail
            refine (HH.out _ (by omega) (by omega)).mono ?_
            rintro e w1 ⟨rfl, j, rfl⟩
            go_wp2_with fail
            refine (HH2.out _ (by omega)).mono ?_
            rintro e w1 ⟨rfl, j2, rfl⟩
            go_wp2_with fail
            refine (HH2.out _ (by omega)).mono ?_
            rintro e w1 ⟨rfl, j3, rfl⟩
            go_wp2_with fail
            go_ret2
            exact said_none (by rw [HA.out, HX.out]) (below_drewN HW.out _)
          have f2 : decide ((m : Int) > 57343) = false := by simp; omega
          have f3 : decide ((57343 : Int) < (m : Int)) = false := by simp; omega
          have HX := Lib.hid (HQ.out c3 (by rw [HM.out]; omega) (by rw [HM.out]; omega) (by rw [HM2.out]; omega) (by rw [HM2.out]; omega))
          obtain ⟨p, hp⟩ : ∃ p, 65536 + 1024 * (n - 55296) + m - 56320 = p := ⟨_, rfl⟩
          have hpI : IntKind.i64.wrap (65536 + 1024 * ((n : Int) - 55296) + (m : Int) - 56320) = (p : Int) := by rw [IntWalk.i64_in _ (by omega)]; omega
          have hpJ : 65536 + 1024 * ((n : Int) - 55296) + (m : Int) - 56320 = (p : Int) := by omega
          have hp3 : p < 1114112 := by omega
          have HSP : Hid ((strB (putU p)).size ≤ 4) := Lib.hid (by rw [strB_size]; exact (putU_length p).2)
          have hb1 := HSA.out
          have hb2 := HSP.out
          have HPP := Lib.hid (fun w => rput_any p w (by omega))
          have HPE := Lib.hid hp
          clear hp
          go_wp2_with fail
          refine (HH.out _ (by omega) (by omega)).mono ?_
          rintro e w1 ⟨rfl, j, rfl⟩
          go_wp2_with fail
          refine (HH2.out _ (by omega)).mono ?_
          rintro e w1 ⟨rfl, j2, rfl⟩
          go_wp2_with fail
          refine (HH2.out _ (by omega)).mono ?_
          rintro e w1 ⟨rfl, j3, rfl⟩
          go_wp2_with fail
          refine (HH2.out _ (by omega)).mono ?_
          rintro e w1 ⟨rfl, j4, rfl⟩
          go_wp2_with fail
          refine (HPP.out _).mono ?_
          rintro e w2 ⟨rfl, hb⟩
          have HW1 := below_drewN HW.out (j + j2 + j3 + j4)
          have HW2 := Lib.hid (HW1.trans (hb.mono HW1.size))
          clear hb HW1
          go_wp2_with fail
          go_roundw
          case rel => exact ⟨k + 4, acc ++ putU p, by rw [strB_append], by go_num, by omega, Lib.hid (by have := HK.out; omega), Lib.hid (by rw [HA.out, HX.out, HM.out, HM2.out, HPE.out, HD4.out]), Lib.hid (by have := HAL.out; have := putU_length p; rw [List.length_append]; omega), HW2⟩
          case measure => simp [intOf]; omega
        · have e6 : decide ((k : Int) + 2 ≥ (s.size : Int)) = true := by simp; omega
          have e7 : decide ((s.size : Int) ≤ (k : Int) + 2) = true := by simp; omega
          have HX := Lib.hid (HN.out (.inr ⟨by rw [HM.out]; omega, by rw [HM.out]; omega, .inr (.inl (by rw [HDL.out]; omega))⟩))
          go_wp2_with fail
          refine (HH.out _ (by omega) (by omega)).mono ?_
          rintro e w1 ⟨rfl, j, rfl⟩
          go_wp2_with fail
          go_ret2
          exact said_none (by rw [HA.out, HX.out]) (below_drewN HW.out _)
    · obtain rfl : k = s.size := by omega
      have d1 : decide ((s.size : Int) < (s.size : Int)) = false := by simp
      have d2 : decide (s.size < s.size) = false := by simp
      have HX := Lib.hid (restU_end (l := s.data.toList.drop s.size) (acc := acc) (by rw [List.length_drop, HL.out]; omega))
      go_wp2_with fail
      go_ret2
      exact said_some (by rw [HA.out, HX.out]) HW.out
end Go.Proofs.Ytldhkhaciflmoaa
