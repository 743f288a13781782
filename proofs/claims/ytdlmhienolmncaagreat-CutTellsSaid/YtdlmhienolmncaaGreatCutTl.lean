/- cmap's reference: the bytes of one sign, a pair of bytes. -/
import Derived.Test.YtdlmhienolmncaaGreatFontDi
import Derived.Test.YtdlmhienolmncaaGreatFontH
import Derived.Test.YtdlmhienolmncaaGreatRefBoxM
import Derived.Test.YtdlmhienolmncaaGreatCutRe
import Derived.Test.YtdlmhienolmncaaGreatCutX
import Derived.Test.YtdlmhienolmncaaGreatCutU
import Derived.OwnWalk
import Derived.Deep.CutRange
import Derived.Test.YtdlmhienolmncaaGreatCutF
namespace Go.Proofs.YtdlmhienolmncaaGreat
open Go.RowKit

theorem bytes_cells (w : World) (bs : List Nat) (hb : ∀ b ∈ bs, b < 256) (hl : bs.length ≤ 100000000) : Bytes (w.alloc (.cells (bvs bs).toArray 5)) (some ⟨w.heap.size, 0, none⟩) bs.length bs.length bs :=
  ⟨rfl, Nat.le_refl _, by omega, hb, fun _ => ⟨w.heap.size, 0, rfl, by simp, fun i b hi => by
    rw [(Whole.made w 5 (bvs bs).toArray).reads]
    simp [bvs, hi]⟩⟩
theorem rhalf_any (u : ByteArray) (k : Nat) (w : World) (h : k + 1 < u.size) (hs : u.size ≤ 140737488355327) :
    Calls Tryz.prog 105 #[.string u, .int .i64 k] w fun e w' => e = .returned (.int .i64 (hiU (u.data.toList.drop k) : Nat)) ∧ ∃ n, w' = w.drewN n := by
  have h0 : k < u.size := by omega
  have h0' : (k : Int) < (u.size : Int) := by omega
  have h1' : (k : Int) + 1 < (u.size : Int) := by omega
  have HU : Hid (hiU (u.data.toList.drop k) = 256 * u[k].toNat + u[k + 1].toNat) := Lib.hid (hiU_at (a := u[k]) (b := u[k + 1]) (by
    rw [List.getElem?_eq_getElem (by simpa using h0)]
    rfl) (by
    rw [List.getElem?_eq_getElem (by simpa using h)]
    rfl))
  have b0 := u[k].toNat_lt
  have b1 := u[k + 1].toNat_lt
  have j1 : IntKind.i64.wrap ((k : Int) + 1) = (k : Int) + 1 := by rw [IntWalk.i64_in _ (by omega)]
  have j2 : (0 : Int) ≤ (k : Int) + 1 := by omega
  have j3 : ((k : Int) + 1).toNat = k + 1 := by omega
  go_enter Tryz.func105, Tryz.ntmps105
  go_wp2_with fail
  go_quiet (fail)
  go_wp2_with fail
  go_ret
  exact ⟨by rw [HU.out, Int.natCast_add, Int.natCast_mul]; rfl, _, rfl⟩
set_option maxRecDepth 100000 in
set_option maxHeartbeats 4000000 in
theorem rput_any (n : Nat) (w : World) (h : n < 1114112) :
    Calls Tryz.prog 106 #[.int .i64 n] w fun e w' => e = .returned (.string (strB (putU n))) ∧ Below w.heap.size w w' := by
  have HC := (bytes_cells w (putU n) (putU_lt h) (by have := putU_length n; omega)).str
  by_cases h1 : n < 128
  · have e : putU n = [n] := by unfold putU; rw [if_pos h1]
    rw [e] at HC ⊢
    simp only [bvs, List.map_cons, List.map_nil, List.length_cons, List.length_nil, Nat.zero_add] at HC
    have d : decide ((n : Int) < 128) = true := by simp; omega
    go_enter Tryz.func106, Tryz.ntmps106
    go_wp2_with fail
    go_ret
    exact ⟨rfl, (Below.refl _ _).alloc (Nat.le_refl _) _⟩
  by_cases h2 : n < 2048
  · have e : putU n = [192 + n / 64, 128 + n % 64] := by unfold putU; rw [if_neg h1, if_pos h2]
    rw [e] at HC ⊢
    simp only [bvs, List.map_cons, List.map_nil, List.length_cons, List.length_nil, Nat.zero_add, Nat.reduceAdd, Int.natCast_add, Int.natCast_ediv, Int.natCast_emod, Int.cast_ofNat_Int] at HC
    have d : decide ((n : Int) < 128) = false := by simp; omega
    have d2 : decide ((n : Int) < 2048) = true := by simp; omega
    go_enter Tryz.func106, Tryz.ntmps106
    go_wp2_with fail
    go_ret
    exact ⟨rfl, (Below.refl _ _).alloc (Nat.le_refl _) _⟩
  by_cases h3 : n < 65536
  · have e : putU n = [224 + n / 4096, 128 + n / 64 % 64, 128 + n % 64] := by unfold putU; rw [if_neg h1, if_neg h2, if_pos h3]
    rw [e] at HC ⊢
    simp only [bvs, List.map_cons, List.map_nil, List.length_cons, List.length_nil, Nat.zero_add, Nat.reduceAdd, Int.natCast_add, Int.natCast_ediv, Int.natCast_emod, Int.cast_ofNat_Int] at HC
    have d : decide ((n : Int) < 128) = false := by simp; omega
    have d2 : decide ((n : Int) < 2048) = false := by simp; omega
    have d3 : decide ((n : Int) < 65536) = true := by simp; omega
    go_enter Tryz.func106, Tryz.ntmps106
    go_wp2_with fail
    go_ret
    exact ⟨rfl, (Below.refl _ _).alloc (Nat.le_refl _) _⟩
  · have e : putU n = [240 + n / 262144, 128 + n / 4096 % 64, 128 + n / 64 % 64, 128 + n % 64] := by unfold putU; rw [if_neg h1, if_neg h2, if_neg h3]
    rw [e] at HC ⊢
    simp only [bvs, List.map_cons, List.map_nil, List.length_cons, List.length_nil, Nat.zero_add, Nat.reduceAdd, Int.natCast_add, Int.natCast_ediv, Int.natCast_emod, Int.cast_ofNat_Int] at HC
    have d : decide ((n : Int) < 128) = false := by simp; omega
    have d2 : decide ((n : Int) < 2048) = false := by simp; omega
    have d3 : decide ((n : Int) < 65536) = false := by simp; omega
    go_enter Tryz.func106, Tryz.ntmps106
    go_wp2_with fail
    go_ret
    exact ⟨rfl, (Below.refl _ _).alloc (Nat.le_refl _) _⟩
end Go.Proofs.YtdlmhienolmncaaGreat
/- cmap's reference: Text, of every text. -/
namespace Go.Proofs.YtdlmhienolmncaaGreat
open Go.RowKit

theorem strB_append (a b : List Nat) : strB a ++ strB b = strB (a ++ b) := by
  apply ByteArray.ext
  rw [ByteArray.data_append]
  simp [strB]
theorem text_some {s : ByteArray} {o : List Nat} (h : textU s.data.toList = some o) : textS s = strB o ∧ textE s = 0 := by
  unfold textS textE
  rw [h]
  exact ⟨rfl, rfl⟩
theorem text_none {s : ByteArray} (h : textU s.data.toList = none) : textS s = ⟨#[]⟩ ∧ textE s = 4 := by
  unfold textS textE
  rw [h]
  exact ⟨rfl, rfl⟩
def TextSaid (s : ByteArray) (w : World) (e : Ending) (w' : World) : Prop := e = .returned (.tuple #[.string (textS s), .int .i64 (textE s)]) ∧ Below w.heap.size w w'
theorem said_none {s : ByteArray} {w w' : World} (h : textU s.data.toList = none) (hb : Below w.heap.size w w') : TextSaid s w (.returned (.tuple #[.string ⟨#[]⟩, .int .i64 4])) w' :=
  ⟨by rw [(text_none h).1, (text_none h).2], hb⟩
theorem said_some {s : ByteArray} {w w' : World} {o : List Nat} (h : textU s.data.toList = some o) (hb : Below w.heap.size w w') : TextSaid s w (.returned (.tuple #[.string (strB o), .int .i64 0])) w' :=
  ⟨by rw [(text_some h).1, (text_some h).2], hb⟩
set_option maxRecDepth 100000 in
set_option maxHeartbeats 4000000 in
theorem rtext_any (s : ByteArray) (w : World) (hs : s.size ≤ 1000000000) : Calls Tryz.prog 75 #[.string s] w (TextSaid s w) := by
  have hl := list_size s
  by_cases ho : s.size % 2 = 1
  · have hm : ((s.size : Int) % 2 == 0) = false := by simp; omega
    have hm2 : ((s.size : Int) % 2 != 0) = true := by simp; omega
    have HN := Lib.hid (said_none (s := s) (w := w) (w' := w) (textU_odd _ _ (Nat.le_refl _) (by rw [hl]; exact ho)) (Below.refl _ _))
    clear hl ho
    go_enter Tryz.func75, Tryz.ntmps75
    go_wp2_with fail
    go_ret2
    exact HN.out
  have hm : ((s.size : Int) % 2 == 0) = true := by simp; omega
  have hm2 : ((s.size : Int) % 2 != 0) = false := by simp; omega
  have HE : Hid (s.size % 2 = 0) := Lib.hid (by omega)
  have HL := Lib.hid hl
  clear hl ho
  go_enter Tryz.func75, Tryz.ntmps75
  go_wp2_with fail
  go_loopw [4, 5] (fun s4 s5 wx => ∃ (k : Nat) (acc : List Nat), s4 = .string (strB acc) ∧ s5 = .int .i64 k ∧ k ≤ s.size ∧ Hid (k % 2 = 0) ∧ Hid (textU s.data.toList = restU acc (s.data.toList.drop k)) ∧ Hid (acc.length ≤ 2 * k) ∧ Hid (Below w.heap.size w wx)) (fun _ s5 _ => s.size - (intOf s5).toNat)
  case atStart => exact ⟨0, [], rfl, rfl, by omega, Lib.hid rfl, Lib.hid (restU_start _).symm, Lib.hid (by simp), Lib.hid (Below.refl _ _)⟩
  case round =>
    obtain ⟨k, acc, rfl, rfl, hk, HK, HA, HAL, HW⟩ := hrel
    by_cases hlt : k < s.size
    · have d1 : decide ((k : Int) < (s.size : Int)) = true := by simp; omega
      have d2 : decide (k < s.size) = true := by simp; omega
      have hlt2 : k + 1 < s.size := by have := HE.out; have := HK.out; omega
      have q := hiU_lt (s.data.toList.drop k)
      have HP := Lib.hid (restU_plain (l := s.data.toList.drop k) (acc := acc) (by rw [List.length_drop, HL.out]; omega))
      have HN := Lib.hid (restU_none (l := s.data.toList.drop k) (acc := acc) (by rw [List.length_drop, HL.out]; omega))
      have HQ := Lib.hid (fun (h4 : k + 4 ≤ s.size) => restU_pair (l := s.data.toList.drop k) (acc := acc) (by rw [List.length_drop, HL.out]; omega))
      have HH := rhalf_any s k
      have HH2 := fun (w : World) (h : k + 3 < s.size) => rhalf_any s (k + 2) w h (by omega)
      rw [Int.natCast_add, ← List.drop_drop] at HH2
      have HD2 : Hid ((s.data.toList.drop k).drop 2 = s.data.toList.drop (k + 2)) := Lib.hid (by rw [List.drop_drop])
      have HD4 : Hid ((s.data.toList.drop k).drop 4 = s.data.toList.drop (k + 4)) := Lib.hid (by rw [List.drop_drop])
      have HDL : Hid ((s.data.toList.drop k).length = s.size - k) := Lib.hid (by rw [List.length_drop, HL.out])
      generalize s.data.toList.drop k = L at *
      obtain ⟨n, hn⟩ : ∃ n, hiU L = n := ⟨_, rfl⟩
      rw [hn] at q HH
      have HM := Lib.hid hn
      have HH := Lib.hid HH
      clear hn
      have hsA := strB_size acc
      have HSA : Hid ((strB acc).size ≤ 2000000000) := Lib.hid (by have := HAL.out; omega)
      clear hsA
      by_cases hp : n < 55296 ∨ 57343 < n
      · have HX := Lib.hid (HP.out (by rw [HM.out]; exact hp))
        have HSP : Hid ((strB (putU n)).size ≤ 4) := Lib.hid (by rw [strB_size]; exact (putU_length n).2)
        have hb1 := HSA.out
        have hb2 := HSP.out
        have HPP := Lib.hid (fun w => rput_any n w (by omega))
        rcases hp with hp | hp
        · have e1 : decide ((n : Int) ≥ 55296) = false := by simp; omega
          have e2 : decide ((55296 : Int) ≤ (n : Int)) = false := by simp; omega
          go_wp2_with fail
          refine (HH.out _ (by omega) (by omega)).mono ?_
          rintro e w1 ⟨rfl, j, rfl⟩
          go_wp2_with fail
          refine (HPP.out _).mono ?_
          rintro e w2 ⟨rfl, hb⟩
          have HW2 := Lib.hid ((below_drewN HW.out j).trans (hb.mono (below_drewN HW.out j).size))
          clear hb
          go_wp2_with fail
          go_roundw
          case rel => exact ⟨k + 2, acc ++ putU n, by rw [strB_append], by go_num, by omega, Lib.hid (by have := HK.out; omega), Lib.hid (by rw [HA.out, HX.out, HM.out, HD2.out]), Lib.hid (by have := HAL.out; have := putU_length n; rw [List.length_append]; omega), HW2⟩
          case measure => simp [intOf]; omega
        · have e1 : decide ((n : Int) ≥ 55296) = true := by simp; omega
          have e2 : decide ((55296 : Int) ≤ (n : Int)) = true := by simp; omega
          have e3 : decide ((n : Int) ≤ 57343) = false := by simp; omega
          go_wp2_with fail
          refine (HH.out _ (by omega) (by omega)).mono ?_
          rintro e w1 ⟨rfl, j, rfl⟩
          go_wp2_with fail
          refine (HPP.out _).mono ?_
          rintro e w2 ⟨rfl, hb⟩
          have HW2 := Lib.hid ((below_drewN HW.out j).trans (hb.mono (below_drewN HW.out j).size))
          clear hb
          go_wp2_with fail
          go_roundw
          case rel => exact ⟨k + 2, acc ++ putU n, by rw [strB_append], by go_num, by omega, Lib.hid (by have := HK.out; omega), Lib.hid (by rw [HA.out, HX.out, HM.out, HD2.out]), Lib.hid (by have := HAL.out; have := putU_length n; rw [List.length_append]; omega), HW2⟩
          case measure => simp [intOf]; omega
      · have e1 : decide ((n : Int) ≥ 55296) = true := by simp; omega
        have e2 : decide ((55296 : Int) ≤ (n : Int)) = true := by simp; omega
        have e3 : decide ((n : Int) ≤ 57343) = true := by simp; omega
        have n1 : 55296 ≤ n := by omega
        have n2 : n ≤ 57343 := by omega
        clear hp HP
        by_cases c1 : 56319 < n
        · have e4 : decide ((n : Int) > 56319) = true := by simp; omega
          have e5 : decide ((56319 : Int) < (n : Int)) = true := by simp; omega
          have HX := Lib.hid (HN.out (.inr ⟨by rw [HM.out]; omega, by rw [HM.out]; omega, .inl (by rw [HM.out]; omega)⟩))
          go_wp2_with fail
          refine (HH.out _ (by omega) (by omega)).mono ?_
          rintro e w1 ⟨rfl, j, rfl⟩
          go_wp2_with fail
          go_ret2
          exact said_none (by rw [HA.out, HX.out]) (below_drewN HW.out _)
        have e4 : decide ((n : Int) > 56319) = false := by simp; omega
        have e5 : decide ((56319 : Int) < (n : Int)) = false := by simp; omega
        by_cases c2 : k + 2 < s.size
        · have e6 : decide ((k : Int) + 2 ≥ (s.size : Int)) = false := by simp; omega
          have e7 : decide ((s.size : Int) ≤ (k : Int) + 2) = false := by simp; omega
          have c3 : k + 4 ≤ s.size := by have := HE.out; have := HK.out; omega
          have q2 := hiU_lt (L.drop 2)
          obtain ⟨m, hm⟩ : ∃ m, hiU (L.drop 2) = m := ⟨_, rfl⟩
          rw [hm] at q2 HH2
          have HM2 := Lib.hid hm
          have HH2 := Lib.hid HH2
          clear hm
          by_cases c4 : m < 56320
          · have f1 : decide ((m : Int) < 56320) = true := by simp; omega
            have HX := Lib.hid (HN.out (.inr ⟨by rw [HM.out]; omega, by rw [HM.out]; omega, .inr (.inr (.inl (by rw [HM2.out]; omega)))⟩))
            go_wp2_with fail
            refine (HH.out _ (by omega) (by omega)).mono ?_
            rintro e w1 ⟨rfl, j, rfl⟩
            go_wp2_with fail
            refine (HH2.out _ (by omega)).mono ?_
            rintro e w1 ⟨rfl, j2, rfl⟩
            go_wp2_with fail
            go_ret2
            exact said_none (by rw [HA.out, HX.out]) (below_drewN HW.out _)
          have f1 : decide ((m : Int) < 56320) = false := by simp; omega
          by_cases c5 : 57343 < m
          · have f2 : decide ((m : Int) > 57343) = true := by simp; omega
            have f3 : decide ((57343 : Int) < (m : Int)) = true := by simp; omega
            have HX := Lib.hid (HN.out (.inr ⟨by rw [HM.out]; omega, by rw [HM.out]; omega, .inr (.inr (.inr (by rw [HM2.out]; omega)))⟩))
            go_wp2_with fail
            refine (HH.out _ (by omega) (by omega)).mono ?_
            rintro e w1 ⟨rfl, j, rfl⟩
            go_wp2_with fail
            refine (HH2.out _ (by omega)).mono ?_
            rintro e w1 ⟨rfl, j2, rfl⟩
            go_wp2_with fail
            refine (HH2.out _ (by omega)).mono ?_
            rintro e w1 ⟨rfl, j3, rfl⟩
            go_wp2_with fail
            go_ret2
            exact said_none (by rw [HA.out, HX.out]) (below_drewN HW.out _)
          have f2 : decide ((m : Int) > 57343) = false := by simp; omega
          have f3 : decide ((57343 : Int) < (m : Int)) = false := by simp; omega
          have HX := Lib.hid (HQ.out c3 (by rw [HM.out]; omega) (by rw [HM.out]; omega) (by rw [HM2.out]; omega) (by rw [HM2.out]; omega))
          obtain ⟨p, hp⟩ : ∃ p, 65536 + 1024 * (n - 55296) + m - 56320 = p := ⟨_, rfl⟩
          have hpI : IntKind.i64.wrap (65536 + 1024 * ((n : Int) - 55296) + (m : Int) - 56320) = (p : Int) := by rw [IntWalk.i64_in _ (by omega)]; omega
          have hpJ : 65536 + 1024 * ((n : Int) - 55296) + (m : Int) - 56320 = (p : Int) := by omega
          have hp3 : p < 1114112 := by omega
          have HSP : Hid ((strB (putU p)).size ≤ 4) := Lib.hid (by rw [strB_size]; exact (putU_length p).2)
          have hb1 := HSA.out
          have hb2 := HSP.out
          have HPP := Lib.hid (fun w => rput_any p w (by omega))
          have HPE := Lib.hid hp
          clear hp
          go_wp2_with fail
          refine (HH.out _ (by omega) (by omega)).mono ?_
          rintro e w1 ⟨rfl, j, rfl⟩
          go_wp2_with fail
          refine (HH2.out _ (by omega)).mono ?_
          rintro e w1 ⟨rfl, j2, rfl⟩
          go_wp2_with fail
          refine (HH2.out _ (by omega)).mono ?_
          rintro e w1 ⟨rfl, j3, rfl⟩
          go_wp2_with fail
          refine (HH2.out _ (by omega)).mono ?_
          rintro e w1 ⟨rfl, j4, rfl⟩
          go_wp2_with fail
          refine (HPP.out _).mono ?_
          rintro e w2 ⟨rfl, hb⟩
          have HW1 := below_drewN HW.out (j + j2 + j3 + j4)
          have HW2 := Lib.hid (HW1.trans (hb.mono HW1.size))
          clear hb HW1
          go_wp2_with fail
          go_roundw
          case rel => exact ⟨k + 4, acc ++ putU p, by rw [strB_append], by go_num, by omega, Lib.hid (by have := HK.out; omega), Lib.hid (by rw [HA.out, HX.out, HM.out, HM2.out, HPE.out, HD4.out]), Lib.hid (by have := HAL.out; have := putU_length p; rw [List.length_append]; omega), HW2⟩
          case measure => simp [intOf]; omega
        · have e6 : decide ((k : Int) + 2 ≥ (s.size : Int)) = true := by simp; omega
          have e7 : decide ((s.size : Int) ≤ (k : Int) + 2) = true := by simp; omega
          have HX := Lib.hid (HN.out (.inr ⟨by rw [HM.out]; omega, by rw [HM.out]; omega, .inr (.inl (by rw [HDL.out]; omega))⟩))
          go_wp2_with fail
          refine (HH.out _ (by omega) (by omega)).mono ?_
          rintro e w1 ⟨rfl, j, rfl⟩
          go_wp2_with fail
          go_ret2
          exact said_none (by rw [HA.out, HX.out]) (below_drewN HW.out _)
    · obtain rfl : k = s.size := by omega
      have d1 : decide ((s.size : Int) < (s.size : Int)) = false := by simp
      have d2 : decide (s.size < s.size) = false := by simp
      have HX := Lib.hid (restU_end (l := s.data.toList.drop s.size) (acc := acc) (by rw [List.length_drop, HL.out]; omega))
      go_wp2_with fail
      go_ret2
      exact said_some (by rw [HA.out, HX.out]) HW.out
end Go.Proofs.YtdlmhienolmncaaGreat
/- The reference's Both: the walk. -/
namespace Go.Proofs.YtdlmhienolmncaaGreat
open Go.RowKit Dec

/-- Two boxes, and the variable of the result. -/
structure TwoR (w W : World) (a b : BV) : Prop where
  two : TwoB w W a b
  r : Whole W (w.heap.size + 1 + 1) 49 #[.int .i64 0, .int .i64 0, .int .i64 0, .int .i64 0, .int .i64 0, .int .i64 0, .int .i64 0, .int .i64 0]
theorem TwoR.here {w W W' : World} {a b : BV} (h : TwoR w W a b) (hb : Below W.heap.size W W') : TwoR w W' a b := ⟨h.two.here hb, h.r.here hb⟩
theorem TwoR.start (w : World) (a b : BV) : TwoR w (((w.alloc (.cells #[.int .i64 a.x0.m, .int .i64 a.x0.s, .int .i64 a.y0.m, .int .i64 a.y0.s, .int .i64 a.x1.m, .int .i64 a.x1.s, .int .i64 a.y1.m, .int .i64 a.y1.s] 49)).alloc (.cells #[.int .i64 b.x0.m, .int .i64 b.x0.s, .int .i64 b.y0.m, .int .i64 b.y0.s, .int .i64 b.x1.m, .int .i64 b.x1.s, .int .i64 b.y1.m, .int .i64 b.y1.s] 49)).alloc (.cells #[.int .i64 0, .int .i64 0, .int .i64 0, .int .i64 0, .int .i64 0, .int .i64 0, .int .i64 0, .int .i64 0] 49)) a b :=
  ⟨(TwoB.start w a b).here ((Below.refl _ _).alloc (Nat.le_refl _) _), by have := Whole.made ((w.alloc (.cells #[.int .i64 a.x0.m, .int .i64 a.x0.s, .int .i64 a.y0.m, .int .i64 a.y0.s, .int .i64 a.x1.m, .int .i64 a.x1.s, .int .i64 a.y1.m, .int .i64 a.y1.s] 49)).alloc (.cells #[.int .i64 b.x0.m, .int .i64 b.x0.s, .int .i64 b.y0.m, .int .i64 b.y0.s, .int .i64 b.x1.m, .int .i64 b.x1.s, .int .i64 b.y1.m, .int .i64 b.y1.s] 49)) 49 #[.int .i64 0, .int .i64 0, .int .i64 0, .int .i64 0, .int .i64 0, .int .i64 0, .int .i64 0, .int .i64 0]; simpa using this⟩
set_option maxRecDepth 100000 in
set_option maxHeartbeats 8000000 in
theorem refboth_bad (a b : BV) (w : World) (h : ¬ (a.Ok ∧ b.Ok)) :
    Calls Tryz.prog 46 #[a.val, b.val] w (IsB .zero 1 w) := by
  have H0 := Lib.hid (TwoR.start w a b)
  by_cases ha : a.Ok
  · have HA := Lib.hid (And.intro ha (show ¬ b.Ok from fun k => h ⟨ha, k⟩))
    clear h ha
    go_enter Tryz.func46, Tryz.ntmps46
    go_wp2_with fail
    refine (bright_any a _ true (decide_eq_true HA.out.1)).mono ?_
    rintro e w1 ⟨rfl, kk⟩
    have H1 := Lib.hid (H0.out.here kk)
    clear kk
    have q := H1.out.two.all
    obtain ⟨q0, q1, q2, q3, q4, q5, q6, q7, s0, s1, s2, s3, s4, s5, s6, s7⟩ := q
    have lt := H1.out.two.lt
    go_wp2_with fail
    refine (bright_any b _ false (decide_eq_false HA.out.2)).mono ?_
    rintro e w2 ⟨rfl, kk⟩
    have H2 := Lib.hid (H1.out.here kk)
    clear kk
    clear q0 q1 q2 q3 q4 q5 q6 q7 s0 s1 s2 s3 s4 s5 s6 s7 lt
    have rd := H2.out.r.reads
    have ft := H2.out.r.thawed
    have lR := H2.out.r.lt
    go_wp2_with fail
    refine bodyPost_ret (v := .tuple #[BV.zero.val, .int .i64 1]) (by simp [results, Tryz.results46, go_sem, rd, BV.zero, DV.zero]) rfl ⟨rfl, ?_⟩
    (repeat (first | with_reducible refine Below.drew ?_ | with_reducible refine bdrewN ?_ _ | (with_reducible refine Below.setCell ?_ ?_ _; rotate_left; focus (first | exact Nat.le_refl _ | omega | (simp; omega) | (simp; done))) | (with_reducible refine Below.alloc ?_ ?_ _; rotate_left; focus (first | exact Nat.le_refl _ | omega | (simp; omega) | (simp; done))))); with_reducible exact H2.out.two.below
  · have HA := Lib.hid ha
    clear h ha
    go_enter Tryz.func46, Tryz.ntmps46
    go_wp2_with fail
    refine (bright_any a _ false (decide_eq_false HA.out)).mono ?_
    rintro e w1 ⟨rfl, kk⟩
    have H1 := Lib.hid (H0.out.here kk)
    clear kk
    have rd := H1.out.r.reads
    have ft := H1.out.r.thawed
    have lR := H1.out.r.lt
    go_wp2_with fail
    refine bodyPost_ret (v := .tuple #[BV.zero.val, .int .i64 1]) (by simp [results, Tryz.results46, go_sem, rd, BV.zero, DV.zero]) rfl ⟨rfl, ?_⟩
    (repeat (first | with_reducible refine Below.drew ?_ | with_reducible refine bdrewN ?_ _ | (with_reducible refine Below.setCell ?_ ?_ _; rotate_left; focus (first | exact Nat.le_refl _ | omega | (simp; omega) | (simp; done))) | (with_reducible refine Below.alloc ?_ ?_ _; rotate_left; focus (first | exact Nat.le_refl _ | omega | (simp; omega) | (simp; done))))); with_reducible exact H1.out.two.below
set_option maxRecDepth 100000 in
set_option maxHeartbeats 8000000 in
theorem refboth_ok (a b : BV) (w : World) (ha : a.Ok) (hb : b.Ok) :
    Calls Tryz.prog 46 #[a.val, b.val] w (IsB (joinB a b) 0 w) := by
  have H0 := Lib.hid (TwoR.start w a b)
  have HA := Lib.hid (And.intro ha hb)
  clear ha hb
  go_enter Tryz.func46, Tryz.ntmps46
  go_wp2_with fail
  refine (bright_any a _ true (decide_eq_true HA.out.1)).mono ?_
  rintro e w1 ⟨rfl, kk⟩
  have H1 := Lib.hid (H0.out.here kk)
  clear kk
  have q := H1.out.two.all
  obtain ⟨q0, q1, q2, q3, q4, q5, q6, q7, s0, s1, s2, s3, s4, s5, s6, s7⟩ := q
  have lt := H1.out.two.lt
  go_wp2_with fail
  refine (bright_any b _ true (decide_eq_true HA.out.2)).mono ?_
  rintro e w2 ⟨rfl, kk⟩
  have H2 := Lib.hid (H1.out.here kk)
  clear kk H0 H1
  clear q0 q1 q2 q3 q4 q5 q6 q7 s0 s1 s2 s3 s4 s5 s6 s7 lt
  have q := H2.out.two.all
  obtain ⟨q0, q1, q2, q3, q4, q5, q6, q7, s0, s1, s2, s3, s4, s5, s6, s7⟩ := q
  have lt := H2.out.two.lt
  go_wp2_with fail
  refine (raround_any a b _ HA.out.1.toNums HA.out.2.toNums).mono ?_
  rintro e w3 ⟨rfl, kk⟩
  have H3 := Lib.hid (H2.out.here kk)
  clear kk H2
  clear q0 q1 q2 q3 q4 q5 q6 q7 s0 s1 s2 s3 s4 s5 s6 s7 lt
  have rd := H3.out.r.reads
  have ft := H3.out.r.thawed
  have lR := H3.out.r.lt
  go_wp2_with fail
  refine bodyPost_ret (v := .tuple #[(joinB a b).val, .int .i64 0]) (by simp [results, Tryz.results46, go_sem, rd]) rfl ⟨rfl, ?_⟩
  (repeat (first | with_reducible refine Below.drew ?_ | with_reducible refine bdrewN ?_ _ | (with_reducible refine Below.setCell ?_ ?_ _; rotate_left; focus (first | exact Nat.le_refl _ | omega | (simp; omega) | (simp; done))) | (with_reducible refine Below.alloc ?_ ?_ _; rotate_left; focus (first | exact Nat.le_refl _ | omega | (simp; omega) | (simp; done))))); with_reducible exact H3.out.two.below
theorem refboth_any (a b r : BV) (E : Int) (w : World) (h : BothIs a b r E) :
    Calls Tryz.prog 46 #[a.val, b.val] w (IsB r E w) := by
  rcases h with ⟨ha, hb, rfl, rfl⟩ | ⟨h, rfl, rfl⟩
  · exact refboth_ok a b w ha hb
  · exact refboth_bad a b w h
end Go.Proofs.YtdlmhienolmncaaGreat
/- the reference: what marks mean, and the mark of each byte. -/
namespace Go.Proofs.YtdlmhienolmncaaGreat
open Go.RowKit Dec

/-- The number of the mark of each byte. -/
def ofFrom (fs : List Nm) : Nat → List Mk → List Int
  | _, [] => []
  | i, x :: l => (if glyphB x = true then List.replicate (textS (rawOf fs x)).size (i : Int) else []) ++ ofFrom fs (i + 1) l
def ofL (fs : List Nm) (l : List Mk) : List Int := ofFrom fs 0 l
theorem ofFrom_snoc (fs : List Nm) : ∀ (i : Nat) (l : List Mk) (x : Mk), ofFrom fs i (l ++ [x]) = ofFrom fs i l ++ (if glyphB x = true then List.replicate (textS (rawOf fs x)).size ((i + l.length : Nat) : Int) else [])
  | i, [], x => by simp [ofFrom]
  | i, y :: l, x => by
    rw [List.cons_append, ofFrom, ofFrom, ofFrom_snoc fs (i + 1) l x, List.append_assoc, List.length_cons, show i + 1 + l.length = i + (l.length + 1) by omega]
theorem ofL_step (fs : List Nm) {l : List Mk} {k : Nat} {x : Mk} (h : l[k]? = some x) : ofL fs (l.take (k + 1)) = ofL fs (l.take k) ++ (if glyphB x = true then List.replicate (textS (rawOf fs x)).size (k : Int) else []) := by
  have hk := (List.getElem?_eq_some_iff.1 h).1
  have e : l.take (k + 1) = l.take k ++ [x] := by rw [List.take_add_one, h]; rfl
  unfold ofL
  rw [e, ofFrom_snoc, List.length_take, Nat.zero_add, Nat.min_eq_left (by omega)]
theorem ofFrom_small {fs : List Nm} (h : nmsB fs = true) : ∀ (i : Nat) (l : List Mk), (ofFrom fs i l).length ≤ 32 * l.length
  | _, [] => Nat.zero_le _
  | i, x :: l => by
    have ih := ofFrom_small h (i + 1) l
    have h1 := raw_small h x
    have h2 := textS_small (rawOf fs x)
    rw [ofFrom, List.length_append, List.length_cons]
    split
    · rw [List.length_replicate]; omega
    · simp; omega
theorem text_step (fs : List Nm) {l : List Mk} {k : Nat} {x : Mk} (h : l[k]? = some x) : allT (pcs fs (l.take (k + 1))) = allT (pcs fs (l.take k)) ++ (if glyphB x = true then (textS (rawOf fs x)).data.toList else []) := by
  rw [pcs_step fs h]
  split
  · rw [allT_snoc]
  · rw [List.append_nil]
def ofR (fs : List Nm) (l : List Mk) : List Int := if readE fs l = 0 then ofL fs l else []
def TextSaid23 (fs : List Nm) (l : List Mk) (w : World) (e : Ending) (w' : World) : Prop :=
  ∃ A' c', e = .returned (.tuple #[.string ⟨(textR fs l).toArray⟩, .slice A' (ofR fs l).length c', .int .i64 (readE fs l)]) ∧ IntsAt w' A' (ofR fs l).length c' (ofR fs l) ∧ Below w.heap.size w w'
theorem text_said_bad {fs : List Nm} {l : List Mk} {w w' : World} {E : Int} (h : readE fs l = E) (hE : E ≠ 0) (hb : Below w.heap.size w w') : TextSaid23 fs l w (.returned (.tuple #[.string ⟨#[]⟩, .slice none 0 0, .int .i64 E])) w' := by
  have h1 : textR fs l = [] := by unfold textR; rw [if_neg (by rw [h]; exact hE)]
  have h2 : ofR fs l = [] := by unfold ofR; rw [if_neg (by rw [h]; exact hE)]
  refine ⟨none, 0, by rw [h1, h2, h]; rfl, by rw [h2]; exact ints_nil _, hb⟩
theorem szFont2 (a b c : Value) : (Tryz.prog.info? 64).map (·.size) = some (#[a, b, c] : Array Value).size := by kernel_rfl
theorem fontAll2 (a : Bool) (A : Option Addr) (n c : Nat) (b : Int) : (#[.bool a, .slice A n c, .int .i64 b] : Array Value).all (·.oneCell') = true := by simp [Value.oneCell']
set_option maxRecDepth 100000 in
set_option maxHeartbeats 16000000 in
theorem rtext23_any (A : Option Addr) (n c : Nat) (l : List Mk) (A2 : Option Addr) (n2 c2 : Nat) (fs : List Nm) (w : World) (h : MarksAt w A n c l) (hn : n ≤ 1000000) (h2 : NmsAt w A2 n2 c2 fs) (h60 : ∀ f ∈ fs, f.s.n ≤ 1000000) :
    Calls Tryz.prog 42 #[.slice A n c, .slice A2 n2 c2] w (TextSaid23 fs l w) := by
  have hcap := h.row.cap
  have htop := h.row.top
  have HK := Lib.hid (rknown_any A2 n2 c2 fs A n c l w h2 h60 h)
  have H0 := Lib.hid (And.intro h h2)
  have H60 := Lib.hid h60
  have HL := Lib.hid h.len
  clear h h2 h60
  go_enter Tryz.func42, Tryz.ntmps42
  go_wp2_with fail
  refine HK.out.mono ?_
  rintro e w1 ⟨rfl, hb⟩
  have HB1 := Lib.hid hb
  clear hb HK
  cases hk : knownB fs l
  · go_wp2_with fail
    go_ret3
    exact text_said_bad (read_bad hk).1 (by decide) HB1.out
  have HKB := Lib.hid hk
  have HNB := Lib.hid (show nmsB fs = true by unfold knownB at hk; rw [Bool.and_eq_true] at hk; exact hk.1)
  clear hk
  obtain ⟨i0, hi0, hz0, hz1, hz2⟩ := info_int
  have HI0 := Lib.hid (And.intro hi0 (And.intro hz0 (And.intro hz1 hz2)))
  clear hi0 hz0 hz1 hz2
  go_wp2_with fail
  go_loopw [7, 8, 9] (fun s7 v s9 wr => ∃ (i : Nat) (S : ByteArray), i ≤ n ∧ s9 = .int .i64 (i : Int) ∧ s7 = .string S ∧ S.size ≤ 32000000 ∧ Hid (S.data.toList = allT (pcs fs (l.take i)) ∧ (l.take i).all (txB fs) = true ∧ wr.ownsRow w1.heap.size 3 1 v (ofL fs (l.take i)).length (ivs (ofL fs (l.take i))) ∧ Below w1.heap.size w1 wr)) (fun _ _ s9 _ => n - (intOf s9).toNat)
  case atStart => exact ⟨0, ⟨#[]⟩, by omega, rfl, rfl, by decide, Lib.hid ⟨rfl, by simp, World.ownsRow_nil _ _ _ _, Below.refl _ _⟩⟩
  case round =>
    obtain ⟨i, S, hi, rfl, rfl, hS, HR⟩ := hrel
    obtain ⟨a0, cc, rfl⟩ := own_slM HR.out.2.2.1
    by_cases hlt : i < n
    · have d1 : decide ((i : Int) < (n : Int)) = true := decide_eq_true (by omega)
      obtain ⟨x, hx⟩ : ∃ x, l[i]? = some x := ⟨_, List.getElem?_eq_getElem (by rw [HL.out]; exact hlt)⟩
      rename World => wo
      have HBW := Lib.hid (HB1.out.trans (HR.out.2.2.2.mono HB1.out.size))
      obtain ⟨R, o, rfl, hR, hc, -⟩ := (H0.out.1.below HBW.out).get hx
      obtain ⟨k0, -, -, -, -, -, -, -, -, -, -, -, -, s13, s14, -, -, -, -, -, -, -, -, -, -⟩ := hc.cells
      have HTS := Lib.hid (text_step fs hx)
      have HOS := Lib.hid (ofL_step fs hx)
      have HAS := Lib.hid (all_step (txB fs) hx HR.out.2.1)
      have HNO := Lib.hid (fun h => all_no (txB fs) hx h)
      have HMX := Lib.hid (List.mem_of_getElem? hx)
      have HG := Lib.hid (show glyphB x = decide (x.kind = 1) from rfl)
      clear hc
      obtain ⟨kd, hkd⟩ : ∃ kd, x.kind = kd := ⟨_, rfl⟩
      rw [hkd] at k0 HG
      clear hkd
      by_cases hg : kd = 1
      · have d3 : (kd == 1) = true := by simp [hg]
        have hgl : glyphB x = true := by rw [HG.out, decide_eq_true hg]
        obtain ⟨f, hf⟩ := known_font HKB.out HMX.out hgl
        have HFM := Lib.hid (fontOf_mem hf)
        have HRW := Lib.hid (show rawOf fs x = (findG f.ot f.gs x.code).text by unfold rawOf; rw [hf])
        have HF := Lib.hid (rfont_any A2 n2 c2 fs x.name wo (H0.out.2.below HBW.out))
        rw [hf] at HF
        simp only [fontV, Option.isSome_some] at HF
        have HTX := Lib.hid (show txB fs x = (textU (rawOf fs x).data.toList).isSome by unfold txB; rw [hgl]; rfl)
        have HGL := Lib.hid hgl
        have HGF := Lib.hid ((H0.out.2.ok f HFM.out.1).later HBW.out)
        have hrs : (rawOf fs x).size ≤ 16 := raw_small HNB.out x
        have hts := textS_small (rawOf fs x)
        clear hf hgl hx
        subst hg
        go_wp2_with fail
        refine HF.out.mono ?_
        rintro e w2 ⟨rfl, hb⟩
        have HB2 := Lib.hid hb
        have s14' := (hb.cell (p := ⟨R, o + i * 25 + 14, none⟩) hR).trans s14
        have hR2 : R < w2.heap.size := Nat.lt_of_lt_of_le hR hb.size
        clear hb k0 s13 s14
        obtain ⟨w3, hw3⟩ : ∃ w3, w2.alloc (.cells #[.bool f.wd, .slice f.s.A f.s.n f.s.c, .int .i64 f.ot] 64) = w3 := ⟨_, rfl⟩
        have hb3 : Below w2.heap.size w2 w3 := by rw [← hw3]; exact (Below.refl _ _).alloc (Nat.le_refl _) _
        have HW3 := Lib.hid (show Whole w3 w2.heap.size 64 #[.bool f.wd, .slice f.s.A f.s.n f.s.c, .int .i64 f.ot] by rw [← hw3]; exact Whole.made _ _ _)
        have HB3 := Lib.hid (HB2.out.trans (hb3.mono HB2.out.size))
        have HQ3 := Lib.hid (And.intro ((hb3.cell (p := ⟨R, o + i * 25 + 14, none⟩) hR2).trans s14') (Nat.lt_of_lt_of_le hR2 hb3.size))
        have HE3 := Lib.hid hw3
        clear hb3 s14' hw3
        go_upto_region 10 with (refine wpList_store_let rfl _ _ _ rfl rfl _ _ #[.bool f.wd, .slice f.s.A f.s.n f.s.c, .int .i64 f.ot] HE3.out rfl rfl (szFont2 _ _ _) rfl (fontAll2 _ _ _ _ _) ?_)
        have HFI := Lib.hid (fun v (hb : Below w3.heap.size w3 v) => rfind_any f.wd f.s.A f.s.n f.s.c f.ot f.gs x.code v (((HGF.out.later HB3.out).later hb).2) (H60.out f HFM.out.1))
        have HTE := Lib.hid (fun v => rtext_any (rawOf fs x) v (by omega))
        unfold TextSaid at HTE
        rw [HRW.out] at HTE
        obtain ⟨G, hG⟩ : ∃ G, findG f.ot f.gs x.code = G := ⟨_, rfl⟩
        rw [hG] at HFI HTE HRW
        clear hG
        have HCC : Hid (∀ v, Below w3.heap.size w3 v → (fun v => v.cell? ⟨w2.heap.size, 0, none⟩ = some (.bool f.wd) ∧ v.cell? ⟨w2.heap.size, 1, none⟩ = some (.slice f.s.A f.s.n f.s.c) ∧ v.cell? ⟨w2.heap.size, 2, none⟩ = some (.int .i64 f.ot) ∧ v.cell? ⟨R, o + i * 25 + 14, none⟩ = some (.int .i64 x.code) ∧ Below w3.heap.size w3 v) v) := Lib.hid (fun v hb => ⟨(HW3.out.here hb).reads 0, (HW3.out.here hb).reads 1, (HW3.out.here hb).reads 2, (hb.cell HQ3.out.2).trans HQ3.out.1, hb⟩)
        have hbd : Below w3.heap.size w3 w3.drew := (Below.refl w3.heap.size w3).drew
        have hS := HCC.out w3.drew hbd
        have g1 : (0 : Int) ≤ (i : Int) := by omega
        have g2 : (i : Int) < (n : Int) := by omega
        refine wp_region_C (fun v => v.cell? ⟨w2.heap.size, 0, none⟩ = some (.bool f.wd) ∧ v.cell? ⟨w2.heap.size, 1, none⟩ = some (.slice f.s.A f.s.n f.s.c) ∧ v.cell? ⟨w2.heap.size, 2, none⟩ = some (.int .i64 f.ot) ∧ v.cell? ⟨R, o + i * 25 + 14, none⟩ = some (.int .i64 x.code) ∧ Below w3.heap.size w3 v) (by kernel_rfl) ?_
        refine wpAnyC_take (i := 0) (v := .agg #[.bool f.wd, .slice f.s.A f.s.n f.s.c, .int .i64 f.ot]) rfl (by kernel_rfl) (fun _ _ _ h => h) (Or.inl ⟨by rfl, ?y1⟩) hS ?r1
        case y1 => rintro wq ⟨c0, c1, c2, -, -⟩; go_simp; try with_reducible rfl
        try simp only [Act.put, List.setIfInBounds_toArray, List.set_cons_zero, List.set_cons_succ]
        refine wpAnyC_take (i := 1) (v := ?v2) rfl (by kernel_rfl) (fun _ _ _ h => h) (Or.inl ⟨by rfl, ?y2⟩) hS ?r2
        case y2 => intro wq _; go_simp; all_goals (first | with_reducible rfl | go_num | (simp; done) | (simp; omega) | skip)
        try simp only [Act.put, List.setIfInBounds_toArray, List.set_cons_zero, List.set_cons_succ]
        refine wpAnyC_take (i := 2) (v := ?v3) rfl (by kernel_rfl) (fun _ _ _ h => h) (Or.inl ⟨by rfl, ?y3⟩) hS ?r3
        case y3 => intro wq _; go_simp; all_goals (first | with_reducible rfl | go_num | (simp; done) | (simp; omega) | skip)
        try simp only [Act.put, List.setIfInBounds_toArray, List.set_cons_zero, List.set_cons_succ]
        refine wpAnyC_take (i := 3) (v := .pointer (some ⟨R, o + i * 25, none⟩)) rfl (by kernel_rfl) (fun _ _ _ h => h) (Or.inl ⟨by rfl, ?y4⟩) hS ?r4
        case y4 => intro wq _; go_simp; all_goals (first | with_reducible rfl | go_num | (simp; done) | (simp; omega) | skip)
        try simp only [Act.put, List.setIfInBounds_toArray, List.set_cons_zero, List.set_cons_succ]
        refine wpAnyC_take (i := 4) (v := .pointer (some ⟨R, o + i * 25 + 14, none⟩)) rfl (by kernel_rfl) (fun _ _ _ h => h) (Or.inl ⟨by rfl, ?y5⟩) hS ?r5
        case y5 => intro wq _; go_simp; all_goals (first | with_reducible rfl | go_num | (simp; done) | (simp; omega) | skip)
        try simp only [Act.put, List.setIfInBounds_toArray, List.set_cons_zero, List.set_cons_succ]
        refine wpAnyC_take (i := 5) (v := .int .i64 x.code) rfl (by kernel_rfl) (fun _ _ _ h => h) (Or.inl ⟨by rfl, ?y6⟩) hS ?r6
        case y6 => rintro wq ⟨-, -, -, c0, -⟩; go_simp; try with_reducible rfl
        try simp only [Act.put, List.setIfInBounds_toArray, List.set_cons_zero, List.set_cons_succ]
        refine wpAnyC_one (j := 6) (by kernel_rfl) rfl (fun K hK => ?_)
        go_simp
        go_at_call 65
        refine (HFI.out _ hbd).mono ?_
        rintro e v2 ⟨rfl, kk⟩
        have hb1 : Below w3.heap.size w3 v2 := hbd.trans (kk.mono hbd.size)
        clear kk
        have hS := HCC.out v2 hb1
        go_wp2_with fail
        refine hK.out _ _ ⟨hS, ?_⟩
        clear hK K
        try simp only [Act.put, List.setIfInBounds_toArray, List.set_cons_zero, List.set_cons_succ]
        refine wpAnyC_take (i := 7) (v := .string G.text) rfl (by kernel_rfl) (fun _ _ _ h => h) (Or.inl ⟨by rfl, ?y7⟩) hS ?r7
        case y7 => intro wq _; go_simp; all_goals (first | with_reducible rfl | go_num | (simp; done) | (simp; omega) | skip)
        try simp only [Act.put, List.setIfInBounds_toArray, List.set_cons_zero, List.set_cons_succ]
        refine wpAnyC_one (j := 8) (by kernel_rfl) rfl (fun K hK => ?_)
        go_simp
        go_at_call 75
        refine (HTE.out _).mono ?_
        rintro e v3 ⟨rfl, kk⟩
        have hb2 : Below w3.heap.size w3 v3 := hb1.trans (kk.mono hb1.size)
        clear kk
        have hS := HCC.out v3 hb2
        go_wp2_with fail
        refine hK.out _ _ ⟨hS, ?_⟩
        clear hK K
        try simp only [Act.put, List.setIfInBounds_toArray, List.set_cons_zero, List.set_cons_succ]
        refine wpAnyC_take (i := 9) (v := ?v8) rfl (by kernel_rfl) (fun _ _ _ h => h) (Or.inl ⟨by rfl, ?y8⟩) hS ?r8
        case y8 => intro wq _; go_simp; all_goals (first | with_reducible rfl | go_num | (simp; done) | (simp; omega) | skip)
        try simp only [Act.put, List.setIfInBounds_toArray, List.set_cons_zero, List.set_cons_succ]
        refine wpAnyC_take (i := 10) (v := ?v9) rfl (by kernel_rfl) (fun _ _ _ h => h) (Or.inl ⟨by rfl, ?y9⟩) hS ?r9
        case y9 => intro wq _; go_simp; all_goals (first | with_reducible rfl | go_num | (simp; done) | (simp; omega) | skip)
        try simp only [Act.put, List.setIfInBounds_toArray, List.set_cons_zero, List.set_cons_succ]
        refine wpAnyC_take (i := 11) (v := ?v10) rfl (by kernel_rfl) (fun _ _ _ h => h) (Or.inl ⟨by rfl, ?y10⟩) hS ?r10
        case y10 => intro wq _; go_simp; all_goals (first | with_reducible rfl | go_num | (simp; done) | (simp; omega) | skip)
        try simp only [Act.put, List.setIfInBounds_toArray, List.set_cons_zero, List.set_cons_succ]
        refine wpAnyC_take (i := 12) (v := ?v11) rfl (by kernel_rfl) (fun _ _ _ h => h) (Or.inl ⟨by rfl, ?y11⟩) hS ?r11
        case y11 => intro wq _; go_simp; all_goals (first | with_reducible rfl | go_num | (simp; done) | (simp; omega) | skip)
        try simp only [Act.put, List.setIfInBounds_toArray, List.set_cons_zero, List.set_cons_succ]
        refine wpAnyC_take (i := 13) (v := ?v12) rfl (by kernel_rfl) (fun _ _ _ h => h) (Or.inl ⟨by rfl, ?y12⟩) hS ?r12
        case y12 => intro wq _; go_simp; all_goals (first | with_reducible rfl | go_num | (simp; done) | (simp; omega) | skip)
        try simp only [Act.put, List.setIfInBounds_toArray, List.set_cons_zero, List.set_cons_succ]
        refine wpAnyC_done (by kernel_rfl) ?_ _
        clear hS HCC hbd hb1
        have HB4 := Lib.hid (HB3.out.trans (hb2.mono HB3.out.size))
        have HO4 := Lib.hid (own_below3 HR.out.2.2.1 HB4.out)
        rw [← HRW.out]
        clear hb2
        cases htu : textU (rawOf fs x).data.toList with
        | none =>
          have he : textE (rawOf fs x) = 4 := (text_none htu).2
          have hs0 : textS (rawOf fs x) = ⟨#[]⟩ := (text_none htu).1
          have HBAD := Lib.hid (read_form HKB.out (HNO.out (by rw [HTX.out, htu]; rfl)))
          rw [he, hs0]
          clear he hs0 htu
          go_wp2_with fail
          go_ret3
          exact text_said_bad HBAD.out.1 (by decide) (HBW.out.trans (HB4.out.mono HBW.out.size))
        | some q =>
          have he : textE (rawOf fs x) = 0 := (text_some htu).2
          have HT1 := Lib.hid (show (l.take (i + 1)).all (txB fs) = true by rw [HAS.out, HTX.out, htu]; rfl)
          rw [he]
          clear he htu
          have hOF : (ofL fs (l.take i)).length ≤ 32000000 := by
            have := ofFrom_small HNB.out 0 (l.take i)
            rw [List.length_take] at this
            unfold ofL
            omega
          obtain ⟨T, hT⟩ : ∃ T, textS (rawOf fs x) = T := ⟨_, rfl⟩
          rw [hT] at HTS HOS hts ⊢
          clear hT
          rename World => w5
          obtain ⟨O, hO⟩ : ∃ O, ofL fs (l.take i) = O := ⟨_, rfl⟩
          rw [hO] at HO4 HOS hOF ⊢
          clear hO
          go_wp2_with fail
          go_loopw [8, 14] (fun v s14 wr => ∃ k : Nat, k ≤ T.size ∧ s14 = .int .i64 (k : Int) ∧ Hid (wr.ownsRow w1.heap.size 3 1 v (O ++ List.replicate k (i : Int)).length (ivs (O ++ List.replicate k (i : Int))) ∧ Below w1.heap.size w5 wr)) (fun _ s14 _ => T.size - (intOf s14).toNat)
          case atStart => exact ⟨0, by omega, rfl, Lib.hid ⟨by rw [List.replicate_zero, List.append_nil]; exact HO4.out, Below.refl _ _⟩⟩
          case round =>
            obtain ⟨k, hk, rfl, HZ⟩ := hrel
            obtain ⟨a6, c6, rfl⟩ := own_slM HZ.out.1
            have hw15 : w1.heap.size ≤ w5.heap.size := Nat.le_trans HR.out.2.2.2.size HB4.out.size
            have hwr := HZ.out.2.size
            by_cases hlt2 : k < T.size
            · have d4 : decide ((k : Int) < (T.size : Int)) = true := decide_eq_true (by omega)
              have hlen : (O ++ List.replicate k (i : Int)).length ≤ 33000000 := by rw [List.length_append, List.length_replicate]; omega
              have HLN := Lib.hid (show (O ++ List.replicate k (i : Int)) ++ [(i : Int)] = O ++ List.replicate (k + 1) (i : Int) by rw [List.append_assoc, ← List.replicate_succ'])
              obtain ⟨L, hL⟩ : ∃ L, O ++ List.replicate k (i : Int) = L := ⟨_, rfl⟩
              rw [hL] at HZ hlen HLN ⊢
              clear hL
              go_wp2_with (at_builtin; refine wpList_append_own _ rfl _ _ 34 rfl w1.heap.size 3 i0 (.int .i64 0) 1 8 Tryz.underlying34 HI0.out.1 HI0.out.2.1 HI0.out.2.2.1 HI0.out.2.2.2 rfl (by decide) _ _ _ rfl ((HZ.out.1).alloc _) ⟨wr.heap.size, 0, none⟩ 1 1 [.int .i64 (i : Int)] rfl rfl (World.news_of_block (cs := #[.int .i64 (i : Int)]) (t := 3) (fr := (0, 0)) (heap_alloc_new _ _)) ?p1 ?p2 ?p3 ?p4 ?_)
              case p1 => simp [Value.oneCell']
              case p2 => unfold maxLen; omega
              case p3 => omega
              case p4 => first | omega | (simp; omega)
              intro v' w6 hown' hgrow _
              have hb6 := (HZ.out.2.alloc (by omega) (.cells #[.int .i64 (i : Int)] 3)).grown hgrow (by simp; omega) (fun j e => (own_lt HZ.out.1 e).1)
              have hown2 : w6.ownsRow w1.heap.size 3 1 v' (L ++ [(i : Int)]).length (ivs (L ++ [(i : Int)])) := by rw [ivs_append, List.length_append]; exact hown'
              have HN := Lib.hid (And.intro hown2 hb6)
              clear hown' hgrow hown2 hb6
              go_wp2_with fail
              go_roundw
              case rel => exact ⟨k + 1, by omega, by go_num, Lib.hid ⟨by rw [← HLN.out]; exact HN.out.1, HN.out.2⟩⟩
              case measure => simp [intOf]; omega
            · obtain rfl : k = T.size := by omega
              have d4 : decide ((T.size : Int) < (T.size : Int)) = false := by simp
              have HON := Lib.hid (show ofL fs (l.take (i + 1)) = O ++ List.replicate T.size (i : Int) by rw [HOS.out, if_pos HGL.out])
              have HTN := Lib.hid (show (S ++ T).data.toList = allT (pcs fs (l.take (i + 1))) by rw [HTS.out, if_pos HGL.out, ← HR.out.1]; simp [ByteArray.data_append])
              have hsz : (S ++ T).size ≤ 32000000 := by
                rw [← size_list, HTN.out]
                have h1 := allT_len (pcs fs (l.take (i + 1))) (fun p hp => (pcs_small HNB.out (by rw [List.length_take]; omega) p hp).1)
                have h2 := pcs_len fs (l.take (i + 1))
                rw [List.length_take] at h2
                omega
              have HBN := Lib.hid ((HR.out.2.2.2.trans (HB4.out.mono HR.out.2.2.2.size)).trans HZ.out.2)
              go_wp2_with fail
              go_roundw
              case rel => exact ⟨i + 1, S ++ T, by omega, by go_num, rfl, hsz, Lib.hid ⟨HTN.out, HT1.out, by rw [HON.out]; exact HZ.out.1, HBN.out⟩⟩
              case measure => simp [intOf]; omega
      · have d3 : (kd == 1) = false := by simp [hg]
        have hgf : glyphB x = false := by rw [HG.out, decide_eq_false hg]
        have HT1 := Lib.hid (show (l.take (i + 1)).all (txB fs) = true by rw [HAS.out]; unfold txB; rw [hgf]; rfl)
        have HTN := Lib.hid (show S.data.toList = allT (pcs fs (l.take (i + 1))) by rw [HTS.out, hgf, if_neg (by decide), List.append_nil]; exact HR.out.1)
        have HON := Lib.hid (show ofL fs (l.take (i + 1)) = ofL fs (l.take i) by rw [HOS.out, hgf, if_neg (by decide), List.append_nil])
        clear hgf
        go_wp2_with fail
        go_roundw
        case rel => exact ⟨i + 1, S, by omega, by go_num, rfl, hS, Lib.hid ⟨HTN.out, HT1.out, by rw [HON.out]; exact HR.out.2.2.1, HR.out.2.2.2⟩⟩
        case measure => simp [intOf]; omega
    · obtain rfl : i = n := by omega
      have d1 : decide ((i : Int) < (i : Int)) = false := by simp
      have htl : l.take i = l := List.take_of_length_le (by rw [HL.out]; exact Nat.le_refl _)
      have hR := HR.out
      rw [htl] at hR ⊢
      obtain ⟨hst, hall, hown, hbb⟩ := hR
      have hok := (read_ok HKB.out hall).1
      have HRE := Lib.hid (And.intro hok (And.intro (show textR fs l = S.data.toList by unfold textR; rw [if_pos hok, hst]) (show ofR fs l = ofL fs l by unfold ofR; rw [if_pos hok])))
      obtain ⟨A3, c3, e3, hI⟩ := IntsAt.of_own hown
      injection e3 with e3 e4 e5
      subst e3 e5
      have HZ := Lib.hid (And.intro hI (HB1.out.trans (hbb.mono HB1.out.size)))
      clear hI e4 hst hall hown hbb hok htl
      go_wp2_with fail
      go_ret3
      refine ⟨a0, cc, ?_, ?_, HZ.out.2⟩
      · rw [HRE.out.1, HRE.out.2.1, HRE.out.2.2]
        rfl
      · rw [HRE.out.2.2]
        exact HZ.out.1
end Go.Proofs.YtdlmhienolmncaaGreat
/- the reference's Find: byte by byte: pure. -/
namespace Go.Proofs.YtdlmhienolmncaaGreat
open Go.RowKit Dec

/-- The box of each byte. -/
def bxs (ps : List Pc) : List BV := (ps.map fun p => List.replicate p.text.size p.box).flatten
def foldJ : BV → List BV → Option BV
  | b, [] => some b
  | b, q :: l => if decide (b.Ok ∧ q.Ok) = true then foldJ (joinB b q) l else none
def boxB (l : List BV) : Option BV := match l with | [] => none | b :: _ => foldJ b l
theorem lesD_again (a c : DV) : lesD (lesD a c) c = lesD a c := by
  unfold lesD
  by_cases h : leB a c = true
  · simp [h]
  · simp [h]
theorem greD_again (a c : DV) : greD (greD a c) c = greD a c := by
  unfold greD
  by_cases h : leB a c = true
  · simp [h]
  · simp [h]
theorem joinB_again (b q : BV) : joinB (joinB b q) q = joinB b q := by unfold joinB; rw [lesD_again, lesD_again, greD_again, greD_again]
theorem foldJ_rep (q : BV) (r : List BV) : ∀ (c : Nat) (b : BV), 0 < c → foldJ b (List.replicate c q ++ r) = if decide (b.Ok ∧ q.Ok) = true then foldJ (joinB b q) r else none
  | 0, _, h => absurd h (by omega)
  | 1, b, _ => rfl
  | c + 2, b, _ => by
    rw [List.replicate_succ, List.cons_append, foldJ]
    by_cases h : b.Ok ∧ q.Ok
    · rw [if_pos (decide_eq_true h), foldJ_rep q r (c + 1) (joinB b q) (by omega), if_pos (decide_eq_true ⟨joinB_ok h.1 h.2, h.2⟩), joinB_again, if_pos (decide_eq_true h)]
    · have hd : ¬ decide (b.Ok ∧ q.Ok) = true := by simpa using h
      rw [if_neg hd, if_neg hd]
theorem bxs_from (e : Nat) (t : ByteArray) (b : BV) (L : List (ByteArray × BV)) : bxs (pcsFrom e ((t, b) :: L)) = List.replicate t.size b ++ bxs (pcsFrom (e + t.size) L) := rfl
theorem bxs_len : ∀ (L : List (ByteArray × BV)) (e : Nat), (bxs (pcsFrom e L)).length = totT L
  | [], e => rfl
  | (t, b) :: L, e => by
    rw [bxs_from, List.length_append, List.length_replicate, bxs_len L (e + t.size)]
    unfold totT
    simp
theorem boxGo_break2 {t_ : Nat} {b : BV} : ∀ (L : List (ByteArray × BV)) (e : Nat), t_ ≤ e → boxGo t_ b (pcsFrom e L) = some b
  | [], _, _ => rfl
  | (t, q) :: L, e, h => by
    rw [pcsFrom]
    exact boxGo_break (by show t_ ≤ e + t.size - t.size; omega)
theorem boxGo_fold (t_ : Nat) : ∀ (L : List (ByteArray × BV)) (e : Nat) (b : BV), boxGo t_ b (pcsFrom e L) = foldJ b ((bxs (pcsFrom e L)).take (t_ - e))
  | [], e, b => by simp [pcsFrom, bxs, boxGo, foldJ]
  | (t, q) :: L, e, b => by
    by_cases h1 : t_ ≤ e
    · rw [boxGo_break2 _ _ h1, show t_ - e = 0 by omega, List.take_zero]
      rfl
    · rw [bxs_from, pcsFrom]
      have hn : ¬ t_ ≤ (⟨t, e + t.size, q⟩ : Pc).fin - (⟨t, e + t.size, q⟩ : Pc).text.size := by show ¬ t_ ≤ e + t.size - t.size; omega
      by_cases hz : t.size = 0
      · rw [boxGo_skip hn hz, boxGo_fold t_ L (e + t.size) b, hz, List.replicate_zero, List.nil_append, Nat.add_zero]
      · by_cases hlt : t_ ≤ e + t.size
        · have htk : (List.replicate t.size q ++ bxs (pcsFrom (e + t.size) L)).take (t_ - e) = List.replicate (t_ - e) q ++ [] := by
            rw [List.take_append_of_le_length (by rw [List.length_replicate]; omega), List.take_replicate, Nat.min_eq_left (by omega), List.append_nil]
          rw [htk, foldJ_rep q [] _ b (by omega)]
          by_cases ho : b.Ok ∧ q.Ok
          · rw [boxGo_join hn hz ho, boxGo_break2 L _ hlt, if_pos (decide_eq_true ho)]
            rfl
          · rw [boxGo_fail hn hz ho, if_neg (by simpa using ho)]
        · have htk : (List.replicate t.size q ++ bxs (pcsFrom (e + t.size) L)).take (t_ - e) = List.replicate t.size q ++ (bxs (pcsFrom (e + t.size) L)).take (t_ - (e + t.size)) := by
            rw [List.take_append, List.length_replicate, List.take_of_length_le (by rw [List.length_replicate]; omega), show t_ - e - t.size = t_ - (e + t.size) by omega]
          rw [htk, foldJ_rep q _ _ b (by omega)]
          by_cases ho : b.Ok ∧ q.Ok
          · rw [boxGo_join hn hz ho, boxGo_fold t_ L (e + t.size) (joinB b q), if_pos (decide_eq_true ho)]
          · rw [boxGo_fail hn hz ho, if_neg (by simpa using ho)]
/-- The box around some bytes is that of the pieces. -/
theorem around_bytes : ∀ (L : List (ByteArray × BV)) (e k m : Nat), 0 < m → e ≤ k → k + m ≤ e + totT L → aroundP (behindP (pcsFrom e L) k) (k + m) = boxB (((bxs (pcsFrom e L)).drop (k - e)).take m)
  | [], e, k, m, hm, he, h => by unfold totT at h; simp at h; omega
  | (t, q) :: L, e, k, m, hm, he, h => by
    have ht : totT ((t, q) :: L) = t.size + totT L := by unfold totT; simp
    by_cases hf : e + t.size ≤ k
    · have hd : (List.replicate t.size q ++ bxs (pcsFrom (e + t.size) L)).drop (k - e) = (bxs (pcsFrom (e + t.size) L)).drop (k - (e + t.size)) := by
        have h0 : (List.replicate t.size q).drop (k - e) = [] := List.drop_eq_nil_of_le (by rw [List.length_replicate]; omega)
        rw [List.drop_append, List.length_replicate, h0, List.nil_append, show k - e - t.size = k - (e + t.size) by omega]
      rw [bxs_from, hd, pcsFrom, behind_pos (by exact hf), around_bytes L (e + t.size) k m hm hf (by omega)]
    · have hb : behindP (pcsFrom e ((t, q) :: L)) k = pcsFrom e ((t, q) :: L) := by
        rw [pcsFrom]
        exact behind_neg (by show k < e + t.size; omega)
      rw [hb]
      have h1 : aroundP (pcsFrom e ((t, q) :: L)) (k + m) = boxGo (k + m) q (pcsFrom e ((t, q) :: L)) := rfl
      rw [h1, boxGo_fold, bxs_from]
      have hdr : (List.replicate t.size q ++ bxs (pcsFrom (e + t.size) L)).drop (k - e) = List.replicate (t.size - (k - e)) q ++ bxs (pcsFrom (e + t.size) L) := by
        rw [List.drop_append_of_le_length (by rw [List.length_replicate]; omega), List.drop_replicate]
      rw [hdr]
      have hbig : ∀ (c j : Nat), 0 < c → 0 < j → ∀ (r : List BV), ∃ r', (List.replicate c q ++ r).take j = List.replicate (min c j) q ++ r' ∧ r' = r.take (j - c) := fun c j _ _ r => by
        refine ⟨_, ?_, rfl⟩
        rw [List.take_append, List.length_replicate, List.take_replicate, Nat.min_comm]
      obtain ⟨r1, e1, f1⟩ := hbig t.size (k + m - e) (by omega) (by omega) (bxs (pcsFrom (e + t.size) L))
      obtain ⟨r2, e2, f2⟩ := hbig (t.size - (k - e)) m (by omega) hm (bxs (pcsFrom (e + t.size) L))
      rw [e1, e2]
      have hr : r1 = r2 := by rw [f1, f2]; congr 1; omega
      have hc : boxB (List.replicate (min (t.size - (k - e)) m) q ++ r2) = foldJ q (List.replicate (min (t.size - (k - e)) m) q ++ r2) := by
        obtain ⟨c, hc⟩ : ∃ c, min (t.size - (k - e)) m = c + 1 := ⟨min (t.size - (k - e)) m - 1, by omega⟩
        rw [hc]
        rfl
      rw [hc, foldJ_rep q _ _ q (by omega), foldJ_rep q _ _ q (by omega), hr]
end Go.Proofs.YtdlmhienolmncaaGreat
/- the reference's Find: what its search says: pure. -/
namespace Go.Proofs.YtdlmhienolmncaaGreat
open Go.RowKit Dec

theorem index_skip {s t : List UInt8} {a : Nat} (ha : a < s.length) (h : t.isPrefixOf (s.drop a) = false) : Lib.index (s.drop a) t = if Lib.index (s.drop (a + 1)) t == -1 then -1 else Lib.index (s.drop (a + 1)) t + 1 := by
  have e : s.drop a = s[a] :: s.drop (a + 1) := List.drop_eq_getElem_cons ha
  rw [e] at h ⊢
  conv => lhs; unfold Lib.index
  rw [h, if_neg (by decide)]
theorem index_here {s t : List UInt8} {a : Nat} (ht : t ≠ []) (h : t.isPrefixOf (s.drop a) = true) : Lib.index (s.drop a) t = 0 := by
  cases hs : s.drop a with
  | nil =>
    rw [hs] at h
    cases t with
    | nil => exact absurd rfl ht
    | cons => simp at h
  | cons b r =>
    rw [hs] at h
    unfold Lib.index
    rw [h, if_pos rfl]
theorem findP_skip {ps : List Pc} {t : List UInt8} {f a : Nat} (ha : a < (allT ps).length) (h : t.isPrefixOf ((allT ps).drop a) = false) : findP ps t (f + 1) a = findP ps t (f + 1) (a + 1) := by
  have hi := index_skip ha h
  have hg := Lib.index_ge ((allT ps).drop (a + 1)) t
  by_cases hn : Lib.index ((allT ps).drop (a + 1)) t = -1
  · rw [hn, if_pos (by decide)] at hi
    rw [findP_none (by rw [hi]; decide), findP_none (by rw [hn]; decide)]
  · obtain ⟨j, hj⟩ : ∃ j : Nat, Lib.index ((allT ps).drop (a + 1)) t = (j : Int) := ⟨(Lib.index ((allT ps).drop (a + 1)) t).toNat, by omega⟩
    rw [hj, if_neg (by first | (simp; done) | (simp; omega))] at hi
    have hi2 : Lib.index ((allT ps).drop a) t = ((j + 1 : Nat) : Int) := by rw [hi]; omega
    have e1 : a + (j + 1) = a + 1 + j := by omega
    cases hb : aroundP (behindP ps (a + 1 + j)) (a + 1 + j + t.length) with
    | none => rw [findP_bad hi2 (by rw [e1]; exact hb), findP_bad hj hb]
    | some b => rw [findP_step hi2 (by rw [e1]; exact hb), findP_step hj hb, e1]
theorem findP_end {ps : List Pc} {t : List UInt8} {f a : Nat} (ht : t ≠ []) (h : (allT ps).length < a + t.length) : findP ps t (f + 1) a = some [] := by
  refine findP_none ?_
  have hg := Lib.index_ge ((allT ps).drop a) t
  rcases Int.lt_or_le (Lib.index ((allT ps).drop a) t) 0 with h0 | h0
  · exact h0
  · obtain ⟨j, hj⟩ : ∃ j : Nat, Lib.index ((allT ps).drop a) t = (j : Int) := ⟨(Lib.index ((allT ps).drop a) t).toNat, by omega⟩
    have hr := index_room ht j hj
    rw [List.length_drop] at hr
    have : 0 < t.length := by cases t with
      | nil => exact absurd rfl ht
      | cons => simp
    omega
/-- Where the reference's search is. -/
structure FiR (fs : List Nm) (l : List Mk) (t : List UInt8) (f a : Nat) (acc : List BV) : Prop where
  ans : findP (pcs fs l) t ((allT (pcs fs l)).length + 1) 0 = (findP (pcs fs l) t f a).map (acc ++ ·)
  fuel : (allT (pcs fs l)).length + 1 ≤ f + a
  at_ : a ≤ (allT (pcs fs l)).length
  acc : acc.length ≤ a
theorem FiR.start (fs : List Nm) (l : List Mk) (t : List UInt8) : FiR fs l t ((allT (pcs fs l)).length + 1) 0 [] :=
  ⟨by cases findP (pcs fs l) t ((allT (pcs fs l)).length + 1) 0 <;> simp, by omega, by omega, by simp⟩
theorem FiR.skip {fs : List Nm} {l : List Mk} {t : List UInt8} {f a : Nat} {acc : List BV} (h : FiR fs l t f a acc) (ha : a < (allT (pcs fs l)).length) (hp : t.isPrefixOf ((allT (pcs fs l)).drop a) = false) : FiR fs l t f (a + 1) acc := by
  obtain ⟨f', rfl⟩ : ∃ f', f = f' + 1 := ⟨f - 1, by have := h.fuel; omega⟩
  exact ⟨by rw [h.ans, findP_skip ha hp], by have := h.fuel; omega, by omega, by have := h.acc; omega⟩
theorem around_pcs (fs : List Nm) (l : List Mk) {k m : Nat} (hm : 0 < m) (h : k + m ≤ (allT (pcs fs l)).length) : aroundP (behindP (pcs fs l) k) (k + m) = boxB (((bxs (pcs fs l)).drop k).take m) := by
  unfold pcs at h ⊢
  rw [allT_from] at h
  have := around_bytes (txOf fs l) 0 k m hm (Nat.zero_le _) (by omega)
  rwa [Nat.sub_zero] at this
theorem FiR.bad {fs : List Nm} {l : List Mk} {t : List UInt8} {f a : Nat} {acc : List BV} (h : FiR fs l t f a acc) (ht : t ≠ []) (ha : a + t.length ≤ (allT (pcs fs l)).length) (hp : t.isPrefixOf ((allT (pcs fs l)).drop a) = true)
    (hb : boxB (((bxs (pcs fs l)).drop a).take t.length) = none) : findP (pcs fs l) t ((allT (pcs fs l)).length + 1) 0 = none := by
  have h0 : 0 < t.length := by cases t with
    | nil => exact absurd rfl ht
    | cons => simp
  obtain ⟨f', rfl⟩ : ∃ f', f = f' + 1 := ⟨f - 1, by have := h.fuel; omega⟩
  rw [h.ans, findP_bad (i := 0) (index_here ht hp) (by rw [Nat.add_zero, around_pcs fs l h0 ha]; exact hb)]
  rfl
theorem FiR.step {fs : List Nm} {l : List Mk} {t : List UInt8} {f a : Nat} {acc : List BV} {b : BV} (h : FiR fs l t f a acc) (ht : t ≠ []) (ha : a + t.length ≤ (allT (pcs fs l)).length) (hp : t.isPrefixOf ((allT (pcs fs l)).drop a) = true)
    (hb : boxB (((bxs (pcs fs l)).drop a).take t.length) = some b) : FiR fs l t (f - 1) (a + t.length) (acc ++ [b]) := by
  have h0 : 0 < t.length := by cases t with
    | nil => exact absurd rfl ht
    | cons => simp
  obtain ⟨f', rfl⟩ : ∃ f', f = f' + 1 := ⟨f - 1, by have := h.fuel; omega⟩
  refine ⟨?_, by have := h.fuel; omega, ha, by have := h.acc; rw [List.length_append]; simp; omega⟩
  rw [h.ans, findP_step (i := 0) (b := b) (index_here ht hp) (by rw [Nat.add_zero, around_pcs fs l h0 ha]; exact hb), Nat.add_zero, show f' + 1 - 1 = f' by omega]
  cases findP (pcs fs l) t f' (a + t.length) <;> simp
theorem FiR.done {fs : List Nm} {l : List Mk} {t : List UInt8} {f a : Nat} {acc : List BV} (h : FiR fs l t f a acc) (ht : t ≠ []) (ha : (allT (pcs fs l)).length < a + t.length) : findP (pcs fs l) t ((allT (pcs fs l)).length + 1) 0 = some acc := by
  obtain ⟨f', rfl⟩ : ∃ f', f = f' + 1 := ⟨f - 1, by have := h.fuel; have := h.at_; omega⟩
  rw [h.ans, findP_end ht ha]
  simp
end Go.Proofs.YtdlmhienolmncaaGreat
/- the reference's Find: the box of each byte, and where a text stands: pure. -/
namespace Go.Proofs.YtdlmhienolmncaaGreat
open Go.RowKit Dec

theorem txOf_cons (fs : List Nm) (x : Mk) (l : List Mk) : txOf fs (x :: l) = if glyphB x = true then (textS (rawOf fs x), x.box) :: txOf fs l else txOf fs l := by
  unfold txOf
  by_cases h : glyphB x = true
  · rw [if_pos h, List.filter_cons_of_pos h, List.map_cons]
  · rw [if_neg h, List.filter_cons_of_neg h]
theorem totT_cons (t : ByteArray) (b : BV) (L : List (ByteArray × BV)) : totT ((t, b) :: L) = t.size + totT L := by unfold totT; simp
theorem ofFrom_len (fs : List Nm) : ∀ (i : Nat) (l : List Mk), (ofFrom fs i l).length = totT (txOf fs l)
  | _, [] => rfl
  | i, x :: l => by
    rw [ofFrom, List.length_append, ofFrom_len fs (i + 1) l, txOf_cons]
    by_cases h : glyphB x = true
    · rw [if_pos h, if_pos h, totT_cons, List.length_replicate]
    · rw [if_neg h, if_neg h, List.length_nil, Nat.zero_add]
theorem of_mark (fs : List Nm) : ∀ (l : List Mk) (i e k : Nat), k < totT (txOf fs l) → ∃ (j : Nat) (x : Mk), (ofFrom fs i l)[k]? = some (((i + j : Nat)) : Int) ∧ l[j]? = some x ∧ (bxs (pcsFrom e (txOf fs l)))[k]? = some x.box
  | [], i, e, k, h => by simp [txOf, totT] at h
  | x :: l, i, e, k, h => by
    rw [txOf_cons] at h ⊢
    rw [ofFrom]
    by_cases hg : glyphB x = true
    · simp only [if_pos hg] at h ⊢
      rw [bxs_from]
      rw [totT_cons] at h
      by_cases hk : k < (textS (rawOf fs x)).size
      · refine ⟨0, x, ?_, rfl, ?_⟩
        · rw [List.getElem?_append_left (by rw [List.length_replicate]; exact hk), List.getElem?_replicate, if_pos hk, Nat.add_zero]
        · rw [List.getElem?_append_left (by rw [List.length_replicate]; exact hk), List.getElem?_replicate, if_pos hk]
      · obtain ⟨j, y, h1, h2, h3⟩ := of_mark fs l (i + 1) (e + (textS (rawOf fs x)).size) (k - (textS (rawOf fs x)).size) (by omega)
        refine ⟨j + 1, y, ?_, by rw [List.getElem?_cons_succ]; exact h2, ?_⟩
        · rw [List.getElem?_append_right (by rw [List.length_replicate]; omega), List.length_replicate, h1, show i + 1 + j = i + (j + 1) by omega]
        · rw [List.getElem?_append_right (by rw [List.length_replicate]; omega), List.length_replicate, h3]
    · simp only [if_neg hg] at h ⊢
      obtain ⟨j, y, h1, h2, h3⟩ := of_mark fs l (i + 1) e k h
      exact ⟨j + 1, y, by rw [List.nil_append, h1, show i + 1 + j = i + (j + 1) by omega], by rw [List.getElem?_cons_succ]; exact h2, h3⟩
theorem of_len (fs : List Nm) (l : List Mk) : (ofL fs l).length = (allT (pcs fs l)).length := by unfold ofL pcs; rw [ofFrom_len, allT_from]
theorem of_at {fs : List Nm} {l : List Mk} {k : Nat} (h : k < (allT (pcs fs l)).length) : ∃ (j : Nat) (x : Mk), (ofL fs l)[k]? = some ((j : Nat) : Int) ∧ l[j]? = some x ∧ (bxs (pcs fs l))[k]? = some x.box := by
  unfold pcs at h
  rw [allT_from] at h
  obtain ⟨j, x, h1, h2, h3⟩ := of_mark fs l 0 0 k h
  exact ⟨j, x, by rw [Nat.zero_add] at h1; exact h1, h2, h3⟩
theorem bxs_size (fs : List Nm) (l : List Mk) : (bxs (pcs fs l)).length = (allT (pcs fs l)).length := by unfold pcs; rw [bxs_len, allT_from]
theorem ext_part (S : ByteArray) (a m : Nat) : (S.extract a (a + m)).data.toList = (S.data.toList.drop a).take m := by
  rw [ByteArray.data_extract, Array.toList_extract, List.extract_eq_take_drop, Nat.add_sub_cancel_left]
theorem ext_is {S t : ByteArray} {a : Nat} : S.extract a (a + t.size) = t ↔ t.data.toList.isPrefixOf (S.data.toList.drop a) = true := by
  rw [List.isPrefixOf_iff_prefix, List.prefix_iff_eq_take, show t.data.toList.length = t.size from Array.length_toList, ← ext_part]
  constructor
  · intro h; rw [h]
  · intro h
    apply ByteArray.ext
    apply Array.toList_inj.1
    exact h.symm
/-- The boxes of some bytes joined, as far as one has come. -/
structure JoR (ps : List Pc) (a m k : Nat) (b : BV) : Prop where
  ans : boxB (((bxs ps).drop a).take m) = foldJ b (((bxs ps).drop k).take (a + m - k))
theorem JoR.start {ps : List Pc} {a m : Nat} {b : BV} (hm : 0 < m) (h : (bxs ps)[a]? = some b) : JoR ps a m a b := by
  refine ⟨?_⟩
  have hk := (List.getElem?_eq_some_iff.1 h).1
  have he := (List.getElem?_eq_some_iff.1 h).2
  obtain ⟨m', rfl⟩ : ∃ m', m = m' + 1 := ⟨m - 1, by omega⟩
  rw [show a + (m' + 1) - a = m' + 1 by omega, List.drop_eq_getElem_cons hk, he]
  rfl
theorem JoR.next {ps : List Pc} {a m k : Nat} {b q : BV} (h : JoR ps a m k b) (hk : k < a + m) (hq : (bxs ps)[k]? = some q) (ho : b.Ok ∧ q.Ok) : JoR ps a m (k + 1) (joinB b q) := by
  refine ⟨?_⟩
  have hl := (List.getElem?_eq_some_iff.1 hq).1
  have he := (List.getElem?_eq_some_iff.1 hq).2
  obtain ⟨j, hj⟩ : ∃ j, a + m - k = j + 1 := ⟨a + m - k - 1, by omega⟩
  rw [h.ans, hj, List.drop_eq_getElem_cons hl, he, List.take_succ_cons, foldJ, if_pos (decide_eq_true ho), show a + m - (k + 1) = j by omega]
theorem JoR.fail {ps : List Pc} {a m k : Nat} {b q : BV} (h : JoR ps a m k b) (hk : k < a + m) (hq : (bxs ps)[k]? = some q) (ho : ¬ (b.Ok ∧ q.Ok)) : boxB (((bxs ps).drop a).take m) = none := by
  have hl := (List.getElem?_eq_some_iff.1 hq).1
  have he := (List.getElem?_eq_some_iff.1 hq).2
  obtain ⟨j, hj⟩ : ∃ j, a + m - k = j + 1 := ⟨a + m - k - 1, by omega⟩
  rw [h.ans, hj, List.drop_eq_getElem_cons hl, he, List.take_succ_cons, foldJ, if_neg (by simpa using ho)]
theorem JoR.done {ps : List Pc} {a m k : Nat} {b : BV} (h : JoR ps a m k b) (hk : ¬ k < a + m) : boxB (((bxs ps).drop a).take m) = some b := by
  rw [h.ans, show a + m - k = 0 by omega, List.take_zero]
  rfl
theorem str_nq {a b : ByteArray} (h : (a.toList == b.toList) = false) : (!(a.toList == b.toList)) = true := by rw [h]; rfl
theorem str_nq2 {a b : ByteArray} (h : (a.toList == b.toList) = true) : (!(a.toList == b.toList)) = false := by rw [h]; rfl
end Go.Proofs.YtdlmhienolmncaaGreat
/- the reference: Text; Find. -/
namespace Go.Proofs.YtdlmhienolmncaaGreat
open Go.RowKit Dec

set_option maxRecDepth 100000 in
set_option maxHeartbeats 8000000 in
theorem rText_any (A : Option Addr) (n c : Nat) (l : List Mk) (A2 : Option Addr) (n2 c2 : Nat) (fs : List Nm) (w : World) (h : MarksAt w A n c l) (hn : n ≤ 1000000) (h2 : NmsAt w A2 n2 c2 fs) (h60 : ∀ f ∈ fs, f.s.n ≤ 1000000) :
    Calls Tryz.prog 17 #[.slice A n c, .slice A2 n2 c2] w fun e w' => e = .returned (.tuple #[.string ⟨(textR fs l).toArray⟩, .int .i64 (readE fs l)]) ∧ Below w.heap.size w w' := by
  have HT := Lib.hid (rtext23_any A n c l A2 n2 c2 fs w h hn h2 h60)
  unfold TextSaid23 at HT
  obtain ⟨S, hS⟩ : ∃ S : ByteArray, (⟨(textR fs l).toArray⟩ : ByteArray) = S := ⟨_, rfl⟩
  obtain ⟨E, hE⟩ : ∃ E, readE fs l = E := ⟨_, rfl⟩
  rw [hS, hE] at HT ⊢
  clear h h2 h60 hS hE
  go_enter Tryz.func17, Tryz.ntmps17
  go_wp2_with fail
  refine HT.out.mono ?_
  rintro e w1 ⟨A', c', rfl, hi, hb⟩
  have HB := Lib.hid hb
  clear hb hi HT
  go_wp2_with fail
  go_ret2
  exact ⟨rfl, HB.out⟩
set_option maxRecDepth 100000 in
set_option maxHeartbeats 32000000 in
theorem rfind23_any (A : Option Addr) (n c : Nat) (l : List Mk) (A2 : Option Addr) (n2 c2 : Nat) (fs : List Nm) (t : ByteArray) (w : World) (h : MarksAt w A n c l) (hn : n ≤ 1000000) (h2 : NmsAt w A2 n2 c2 fs) (h60 : ∀ f ∈ fs, f.s.n ≤ 1000000) (ht : t.size ≤ 1000000) :
    Calls Tryz.prog 19 #[.slice A n c, .slice A2 n2 c2, .string t] w (FindSaid fs l t w) := by
  by_cases hz : t.size = 0
  · have he := empty_text hz
    have h1 : findL fs l t = [] := by unfold findL; rw [if_pos hz]
    have h2' : findE fs l t = 1 := by unfold findE; rw [if_pos hz]
    have HX := Lib.hid (And.intro h1 h2')
    clear h h2 h60 hz h1 h2'
    go_enter Tryz.func19, Tryz.ntmps19
    go_wp2_with fail
    go_ret2
    exact find_said_none HX.out.1 HX.out.2 (Below.refl _ _)
  have he := full_text (s := t) (by omega)
  have HR := Lib.hid (rtext23_any A n c l A2 n2 c2 fs w h hn h2 h60)
  have hcap := h.row.cap
  have htop := h.row.top
  have HM := Lib.hid h
  have HL := Lib.hid h.len
  obtain ⟨q, hq⟩ : ∃ q, readE fs l = q := ⟨_, rfl⟩
  have HQ := Lib.hid hq
  have HZ := Lib.hid hz
  have hl32 : q = 0 → (allT (pcs fs l)).length ≤ 32000000 := fun h0 => by
    rw [h0] at hq
    have hk : nmsB fs = true := by
      unfold readE at hq
      split at hq
      · rename_i hk
        unfold knownB at hk
        simp only [Bool.and_eq_true] at hk
        exact hk.1
      · cases hq
    have h1 := allT_len (pcs fs l) (fun p hp => (pcs_small hk (by rw [h.len]; exact hn) p hp).1)
    have h2 := pcs_len fs l
    have h3 := h.len
    omega
  have HL32 := Lib.hid hl32
  unfold TextSaid23 at HR
  rw [hq] at HR
  clear h h2 h60 hq hl32
  by_cases h0 : q = 0
  · subst h0
    have hrl : textR fs l = allT (pcs fs l) := by unfold textR; rw [if_pos HQ.out]
    have hol : ofR fs l = ofL fs l := by unfold ofR; rw [if_pos HQ.out]
    rw [hrl, hol, of_len] at HR
    have hlen := HL32.out rfl
    obtain ⟨W, hW⟩ : ∃ W, (⟨(allT (pcs fs l)).toArray⟩ : ByteArray) = W := ⟨_, rfl⟩
    have hWl : W.data.toList = allT (pcs fs l) := by rw [← hW]
    have hWs : (allT (pcs fs l)).length = W.size := by rw [← hW]; rfl
    have HOA : Hid (∀ k, k < W.size → ∃ (j : Nat) (x : Mk), (ofL fs l)[k]? = some ((j : Nat) : Int) ∧ l[j]? = some x ∧ (bxs (pcs fs l))[k]? = some x.box) := Lib.hid (fun k hk => of_at (by rw [hWs]; exact hk))
    rw [hW, hWs] at HR
    rw [hWs] at hlen
    obtain ⟨O, hO⟩ : ∃ O, ofL fs l = O := ⟨_, rfl⟩
    rw [hO] at HR HOA
    have HWL := Lib.hid hWl
    have HWS := Lib.hid hWs
    clear hrl hol hW hWl hWs hO
    obtain ⟨i0, hi, hz0, hz1, hz2⟩ := info_bx
    go_enter Tryz.func19, Tryz.ntmps19
    go_wp2_with fail
    refine HR.out.mono ?_
    rintro e w1 ⟨A1, c1, rfl, hI, hb⟩
    have HB1 := Lib.hid hb
    have HI := Lib.hid hI
    have hic := hI.cap
    have hit := hI.top
    clear hb hI HR
    have hz1' : 0 < t.size := Nat.pos_of_ne_zero hz
    have htne : t.data.toList ≠ [] := fun e => by
      have : t.data.toList.length = t.size := Array.length_toList
      rw [e] at this
      simp at this
      exact hz this.symm
    have HTN := Lib.hid htne
    have HTL := Lib.hid (show t.data.toList.length = t.size from Array.length_toList)
    clear htne hz
    go_wp2_with fail
    go_loopw [11, 12] (fun v11 v12 wr => ∃ (a f : Nat) (acc : List BV), v12 = .int .i64 (a : Int) ∧ a ≤ W.size ∧ Hid (FiR fs l t.data.toList f a acc) ∧ Hid (wr.ownsRow w1.heap.size 49 8 v11 acc.length (rowBx acc)) ∧ Hid (Below w1.heap.size w1 wr)) (fun _ v12 _ => W.size - (intOf v12).toNat)
    case atStart => exact ⟨0, _, [], rfl, by omega, Lib.hid (FiR.start fs l t.data.toList), Lib.hid (World.ownsRow_nil _ _ _ _), Lib.hid (Below.refl _ _)⟩
    case round =>
      obtain ⟨a, f, acc, rfl, ha, HF, HO, HB⟩ := hrel
      have HBW := Lib.hid (HB1.out.trans (HB.out.mono HB1.out.size))
      obtain ⟨a0, cc, rfl⟩ := own_slM HO.out
      rename World => wo
      have ew : IntKind.i64.wrap ((a : Int) + (t.size : Int)) = ((a + t.size : Nat) : Int) := by rw [IntKind.wrap_i64]; omega
      have ew1 : IntKind.i64.wrap ((a : Int) + 1) = ((a + 1 : Nat) : Int) := by rw [IntKind.wrap_i64]; omega
      by_cases hfit : a + t.size ≤ W.size
      · have d1 : decide ((a : Int) + (t.size : Int) ≤ (W.size : Int)) = true := decide_eq_true (by omega)
        have p1 : (0 : Int) ≤ (a : Int) := by omega
        have p2 : (a : Int) ≤ ((a + t.size : Nat) : Int) := by omega
        have p3 : ((a + t.size : Nat) : Int) ≤ (W.size : Int) := by omega
        by_cases heq : W.extract a (a + t.size) = t
        · have d2 := str_nq2 (str_eq heq)
          have d2' := str_eq heq
          have HPF := Lib.hid (show t.data.toList.isPrefixOf ((allT (pcs fs l)).drop a) = true by rw [← HWL.out]; exact ext_is.1 heq)
          clear heq
          obtain ⟨j0, x, hoj, hlj, hbj⟩ := HOA.out a (by omega)
          obtain ⟨R1, o1, rfl, hR1, hc1⟩ := (HI.out.below HB.out).at_ (by omega)
          have c9 := hc1 a _ hoj
          obtain ⟨R2, o2, rfl, hR2, hcm, -⟩ := (HM.out.below HBW.out).get hlj
          obtain ⟨-, -, -, -, -, -, -, -, -, -, -, -, -, -, -, -, -, m0, m1, m2, m3, m4, m5, m6, m7⟩ := hcm.cells
          have hjn : j0 < n := by have := (List.getElem?_eq_some_iff.1 hlj).1; rw [HL.out] at this; exact this
          have g1 : (0 : Int) ≤ (j0 : Int) := by omega
          have g2 : (j0 : Int) < (n : Int) := by omega
          have g3 : (a : Int) < (W.size : Int) := by omega
          have HJO := Lib.hid (JoR.start (ps := pcs fs l) (m := t.size) hz1' hbj)
          clear hoj hlj hbj hc1 hcm
          have hw0 := Whole.made wo 49 #[.int .i64 x.box.x0.m, .int .i64 x.box.x0.s, .int .i64 x.box.y0.m, .int .i64 x.box.y0.s, .int .i64 x.box.x1.m, .int .i64 x.box.x1.s, .int .i64 x.box.y1.m, .int .i64 x.box.y1.s]
          have HS := Lib.hid (And.intro hw0 ((Below.refl wo.heap.size wo).alloc (Nat.le_refl _) (.cells #[.int .i64 x.box.x0.m, .int .i64 x.box.x0.s, .int .i64 x.box.y0.m, .int .i64 x.box.y0.s, .int .i64 x.box.x1.m, .int .i64 x.box.x1.s, .int .i64 x.box.y1.m, .int .i64 x.box.y1.s] 49)))
          clear hw0
          obtain ⟨b0, hb0⟩ : ∃ b0, x.box = b0 := ⟨_, rfl⟩
          rw [hb0] at m0 m1 m2 m3 m4 m5 m6 m7 HJO HS
          clear hb0
          go_wp2_with fail
          go_loopw [14] (fun v14 wr => ∃ (k : Nat) (b : BV), v14 = .int .i64 (k : Int) ∧ a ≤ k ∧ k ≤ a + t.size ∧ Hid (JoR (pcs fs l) a t.size k b) ∧ Hid (Whole wr wo.heap.size 49 #[.int .i64 b.x0.m, .int .i64 b.x0.s, .int .i64 b.y0.m, .int .i64 b.y0.s, .int .i64 b.x1.m, .int .i64 b.x1.s, .int .i64 b.y1.m, .int .i64 b.y1.s] ∧ Below wo.heap.size wo wr)) (fun v14 _ => a + t.size - (intOf v14).toNat)
          case atStart => exact ⟨a, b0, rfl, by omega, by omega, HJO, HS⟩
          case round =>
            have HFIT := Lib.hid hfit
            clear HS HJO m0 m1 m2 m3 m4 m5 m6 m7 c9 d1 d2 d2' g1 g2 g3 p1 p2 p3 hfit
            obtain ⟨k, b, rfl, hk1, hk2, HJ, HV⟩ := hrel
            by_cases hlt : k < a + t.size
            · have d3 : decide ((k : Int) < (a : Int) + (t.size : Int)) = true := decide_eq_true (by omega)
              have hkW : k < W.size := by have := HFIT.out; omega
              obtain ⟨j, x, hoj, hlj, hbj⟩ := HOA.out k hkW
              rename World => wr
              have hbv := HB.out.trans (HV.out.2.mono HB.out.size)
              obtain ⟨R1', o1', e1, hR1', hc1⟩ := (HI.out.below hbv).at_ (by omega)
              injection e1 with e1
              injection e1 with e1 e2
              subst e1 e2
              obtain ⟨R2', o2', e1, hR2', hcm, -⟩ := (HM.out.below (HB1.out.trans (hbv.mono HB1.out.size))).get hlj
              injection e1 with e1
              injection e1 with e1 e2
              subst e1 e2
              obtain ⟨-, -, -, -, -, -, -, -, -, -, -, -, -, -, -, -, -, m0, m1, m2, m3, m4, m5, m6, m7⟩ := hcm.cells
              have hjn' : j < n := by have := (List.getElem?_eq_some_iff.1 hlj).1; rw [HL.out] at this; exact this
              have HJC := Lib.hid (And.intro (hc1 k _ hoj) (And.intro hR1' trivial))
              have HXC := Lib.hid (And.intro (And.intro m0 (And.intro m1 (And.intro m2 (And.intro m3 (And.intro m4 (And.intro m5 (And.intro m6 m7))))))) hR2')
              have HWG := Lib.hid HV.out.1
              have HBX := Lib.hid hbj
              have q1 : (0 : Int) ≤ (k : Int) := by omega
              have q2 : (k : Int) < (W.size : Int) := by omega
              have q3 : (0 : Int) ≤ (j : Int) := by omega
              have q4 : (j : Int) < (n : Int) := by omega
              clear hoj hlj hbj hc1 hcm m0 m1 m2 m3 m4 m5 m6 m7 hbv
              obtain ⟨r, E, hBI⟩ := BothIs.total b x.box
              have HBO := Lib.hid (fun v => refboth_any b x.box r E v hBI)
              have HBI := Lib.hid hBI
              unfold IsB BV.val at HBO
              clear hBI
              go_upto_region 15 with fail
              go_cut [15, 16] from 56 to 79 (fun s15 s16 wx => ∃ P, s15 = .pointer (some ⟨P, 0, none⟩) ∧ s16 = .int .i64 E ∧ Hid (Whole wx P 49 #[.int .i64 r.x0.m, .int .i64 r.x0.s, .int .i64 r.y0.m, .int .i64 r.y0.s, .int .i64 r.x1.m, .int .i64 r.x1.s, .int .i64 r.y1.m, .int .i64 r.y1.s] ∧ wr.heap.size ≤ P ∧ Below wr.heap.size wr wx))
              case first =>
                have HCC : Hid (∀ v, Below wr.heap.size wr v → (fun v => (v.cell? ⟨wo.heap.size, 0, none⟩ = some (.int .i64 b.x0.m) ∧ v.cell? ⟨wo.heap.size, 1, none⟩ = some (.int .i64 b.x0.s) ∧ v.cell? ⟨wo.heap.size, 2, none⟩ = some (.int .i64 b.y0.m) ∧ v.cell? ⟨wo.heap.size, 3, none⟩ = some (.int .i64 b.y0.s) ∧ v.cell? ⟨wo.heap.size, 4, none⟩ = some (.int .i64 b.x1.m) ∧ v.cell? ⟨wo.heap.size, 5, none⟩ = some (.int .i64 b.x1.s) ∧ v.cell? ⟨wo.heap.size, 6, none⟩ = some (.int .i64 b.y1.m) ∧ v.cell? ⟨wo.heap.size, 7, none⟩ = some (.int .i64 b.y1.s)) ∧ v.cell? ⟨R1, o1 + k, none⟩ = some (.int .i64 (j : Int)) ∧ (v.cell? ⟨R2, o2 + j * 25 + 17, none⟩ = some (.int .i64 x.box.x0.m) ∧ v.cell? ⟨R2, o2 + j * 25 + 18, none⟩ = some (.int .i64 x.box.x0.s) ∧ v.cell? ⟨R2, o2 + j * 25 + 19, none⟩ = some (.int .i64 x.box.y0.m) ∧ v.cell? ⟨R2, o2 + j * 25 + 20, none⟩ = some (.int .i64 x.box.y0.s) ∧ v.cell? ⟨R2, o2 + j * 25 + 21, none⟩ = some (.int .i64 x.box.x1.m) ∧ v.cell? ⟨R2, o2 + j * 25 + 22, none⟩ = some (.int .i64 x.box.x1.s) ∧ v.cell? ⟨R2, o2 + j * 25 + 23, none⟩ = some (.int .i64 x.box.y1.m) ∧ v.cell? ⟨R2, o2 + j * 25 + 24, none⟩ = some (.int .i64 x.box.y1.s)) ∧ Below wr.heap.size wr v) v) := Lib.hid (fun v hb => ⟨(bxw_facts (HWG.out.here hb)).1, (hb.cell HJC.out.2.1).trans HJC.out.1, ⟨(hb.cell HXC.out.2).trans HXC.out.1.1, (hb.cell HXC.out.2).trans HXC.out.1.2.1, (hb.cell HXC.out.2).trans HXC.out.1.2.2.1, (hb.cell HXC.out.2).trans HXC.out.1.2.2.2.1, (hb.cell HXC.out.2).trans HXC.out.1.2.2.2.2.1, (hb.cell HXC.out.2).trans HXC.out.1.2.2.2.2.2.1, (hb.cell HXC.out.2).trans HXC.out.1.2.2.2.2.2.2.1, (hb.cell HXC.out.2).trans HXC.out.1.2.2.2.2.2.2.2⟩, hb⟩)
                have hbd : Below wr.heap.size wr wr.drew := (Below.refl wr.heap.size wr).drew
                have hS := HCC.out wr.drew hbd
                refine wp_region_C (fun v => (v.cell? ⟨wo.heap.size, 0, none⟩ = some (.int .i64 b.x0.m) ∧ v.cell? ⟨wo.heap.size, 1, none⟩ = some (.int .i64 b.x0.s) ∧ v.cell? ⟨wo.heap.size, 2, none⟩ = some (.int .i64 b.y0.m) ∧ v.cell? ⟨wo.heap.size, 3, none⟩ = some (.int .i64 b.y0.s) ∧ v.cell? ⟨wo.heap.size, 4, none⟩ = some (.int .i64 b.x1.m) ∧ v.cell? ⟨wo.heap.size, 5, none⟩ = some (.int .i64 b.x1.s) ∧ v.cell? ⟨wo.heap.size, 6, none⟩ = some (.int .i64 b.y1.m) ∧ v.cell? ⟨wo.heap.size, 7, none⟩ = some (.int .i64 b.y1.s)) ∧ v.cell? ⟨R1, o1 + k, none⟩ = some (.int .i64 (j : Int)) ∧ (v.cell? ⟨R2, o2 + j * 25 + 17, none⟩ = some (.int .i64 x.box.x0.m) ∧ v.cell? ⟨R2, o2 + j * 25 + 18, none⟩ = some (.int .i64 x.box.x0.s) ∧ v.cell? ⟨R2, o2 + j * 25 + 19, none⟩ = some (.int .i64 x.box.y0.m) ∧ v.cell? ⟨R2, o2 + j * 25 + 20, none⟩ = some (.int .i64 x.box.y0.s) ∧ v.cell? ⟨R2, o2 + j * 25 + 21, none⟩ = some (.int .i64 x.box.x1.m) ∧ v.cell? ⟨R2, o2 + j * 25 + 22, none⟩ = some (.int .i64 x.box.x1.s) ∧ v.cell? ⟨R2, o2 + j * 25 + 23, none⟩ = some (.int .i64 x.box.y1.m) ∧ v.cell? ⟨R2, o2 + j * 25 + 24, none⟩ = some (.int .i64 x.box.y1.s)) ∧ Below wr.heap.size wr v) (by kernel_rfl) ?_
                refine wpAnyC_take (i := 0) (v := .agg #[.int .i64 b.x0.m, .int .i64 b.x0.s, .int .i64 b.y0.m, .int .i64 b.y0.s, .int .i64 b.x1.m, .int .i64 b.x1.s, .int .i64 b.y1.m, .int .i64 b.y1.s]) rfl (by kernel_rfl) (fun _ _ _ h => h) (Or.inl ⟨by rfl, ?y1⟩) hS ?r1
                case y1 => rintro wq ⟨⟨c0, c1, c2, c3, c4, c5, c6, c7⟩, -, -, -⟩; go_simp; try with_reducible rfl
                try simp only [Act.put, List.setIfInBounds_toArray, List.set_cons_zero, List.set_cons_succ]
                refine wpAnyC_take (i := 1) (v := ?v2) rfl (by kernel_rfl) (fun _ _ _ h => h) (Or.inl ⟨by rfl, ?y2⟩) hS ?r2
                case y2 => intro wq _; go_simp; all_goals (first | with_reducible rfl | go_num | (simp; done) | (simp; omega) | skip)
                try simp only [Act.put, List.setIfInBounds_toArray, List.set_cons_zero, List.set_cons_succ]
                refine wpAnyC_take (i := 2) (v := ?v3) rfl (by kernel_rfl) (fun _ _ _ h => h) (Or.inl ⟨by rfl, ?y3⟩) hS ?r3
                case y3 => intro wq _; go_simp; all_goals (first | with_reducible rfl | go_num | (simp; done) | (simp; omega) | skip)
                try simp only [Act.put, List.setIfInBounds_toArray, List.set_cons_zero, List.set_cons_succ]
                refine wpAnyC_take (i := 3) (v := ?v4) rfl (by kernel_rfl) (fun _ _ _ h => h) (Or.inl ⟨by rfl, ?y4⟩) hS ?r4
                case y4 => intro wq _; go_simp; all_goals (first | with_reducible rfl | go_num | (simp; done) | (simp; omega) | skip)
                try simp only [Act.put, List.setIfInBounds_toArray, List.set_cons_zero, List.set_cons_succ]
                refine wpAnyC_take (i := 4) (v := .pointer (some ⟨R1, o1 + k, none⟩)) rfl (by kernel_rfl) (fun _ _ _ h => h) (Or.inl ⟨by rfl, ?y5⟩) hS ?r5
                case y5 => intro wq _; go_simp; all_goals (first | with_reducible rfl | go_num | (simp; done) | (simp; omega) | skip)
                try simp only [Act.put, List.setIfInBounds_toArray, List.set_cons_zero, List.set_cons_succ]
                refine wpAnyC_take (i := 5) (v := .int .i64 (j : Int)) rfl (by kernel_rfl) (fun _ _ _ h => h) (Or.inl ⟨by rfl, ?y6⟩) hS ?r6
                case y6 => rintro wq ⟨-, c0, -, -⟩; go_simp; try with_reducible rfl
                try simp only [Act.put, List.setIfInBounds_toArray, List.set_cons_zero, List.set_cons_succ]
                refine wpAnyC_take (i := 6) (v := .pointer (some ⟨R2, o2 + j * 25, none⟩)) rfl (by kernel_rfl) (fun _ _ _ h => h) (Or.inl ⟨by rfl, ?y7⟩) hS ?r7
                case y7 => intro wq _; go_simp; all_goals (first | with_reducible rfl | go_num | (simp; done) | (simp; omega) | skip)
                try simp only [Act.put, List.setIfInBounds_toArray, List.set_cons_zero, List.set_cons_succ]
                refine wpAnyC_take (i := 7) (v := .pointer (some ⟨R2, o2 + j * 25 + 17, none⟩)) rfl (by kernel_rfl) (fun _ _ _ h => h) (Or.inl ⟨by rfl, ?y8⟩) hS ?r8
                case y8 => intro wq _; go_simp; all_goals (first | with_reducible rfl | go_num | (simp; done) | (simp; omega) | skip)
                try simp only [Act.put, List.setIfInBounds_toArray, List.set_cons_zero, List.set_cons_succ]
                refine wpAnyC_take (i := 8) (v := .agg #[.int .i64 x.box.x0.m, .int .i64 x.box.x0.s, .int .i64 x.box.y0.m, .int .i64 x.box.y0.s, .int .i64 x.box.x1.m, .int .i64 x.box.x1.s, .int .i64 x.box.y1.m, .int .i64 x.box.y1.s]) rfl (by kernel_rfl) (fun _ _ _ h => h) (Or.inl ⟨by rfl, ?y9⟩) hS ?r9
                case y9 => rintro wq ⟨-, -, ⟨c0, c1, c2, c3, c4, c5, c6, c7⟩, -⟩; go_simp; try with_reducible rfl
                try simp only [Act.put, List.setIfInBounds_toArray, List.set_cons_zero, List.set_cons_succ]
                refine wpAnyC_two (i := 9) (j := 13) (by kernel_rfl) rfl rfl (fun K hK => ?_) (fun K hK => ?_)
                · go_simp
                  go_at_call 46
                  refine (HBO.out _).mono ?_
                  rintro e v2 ⟨rfl, kk⟩
                  have hb2 : Below wr.heap.size wr v2 := (hbd).trans (kk.mono (hbd).size)
                  clear kk
                  have hS := HCC.out v2 hb2
                  go_wp2_with fail
                  refine hK.out _ _ ⟨hS, ?_⟩
                  clear hK K
                  try simp only [Act.put, List.setIfInBounds_toArray, List.set_cons_zero, List.set_cons_succ]
                  refine wpAnyC_take (i := 10) (v := ?v10) rfl (by kernel_rfl) (fun _ _ _ h => h) (Or.inl ⟨by rfl, ?y10⟩) hS ?r10
                  case y10 => intro wq _; go_simp; all_goals (first | with_reducible rfl | go_num | (simp; done) | (simp; omega) | skip)
                  try simp only [Act.put, List.setIfInBounds_toArray, List.set_cons_zero, List.set_cons_succ]
                  refine wpAnyC_take (i := 11) (v := ?v11) rfl (by kernel_rfl) (fun _ _ _ h => h) (Or.inl ⟨by rfl, ?y11⟩) hS ?r11
                  case y11 => intro wq _; go_simp; all_goals (first | with_reducible rfl | go_num | (simp; done) | (simp; omega) | skip)
                  try simp only [Act.put, List.setIfInBounds_toArray, List.set_cons_zero, List.set_cons_succ]
                  refine wpAnyC_take (i := 12) (v := ?v12) rfl (by kernel_rfl) (fun _ _ _ h => h) (Or.inl ⟨by rfl, ?y12⟩) hS ?r12
                  case y12 => intro wq _; go_simp; all_goals (first | with_reducible rfl | go_num | (simp; done) | (simp; omega) | skip)
                  try simp only [Act.put, List.setIfInBounds_toArray, List.set_cons_zero, List.set_cons_succ]
                  refine wpAnyC_one (j := 13) (by kernel_rfl) rfl (fun K hK => ?_)
                  go_simp
                  refine hK.out _ _ ⟨HCC.out _ (hb2.alloc hb2.size _), ?_⟩
                  clear hK K
                  try simp only [Act.put, List.setIfInBounds_toArray, List.set_cons_zero, List.set_cons_succ]
                  refine wpAnyC_one (j := 14) (by kernel_rfl) rfl (fun K hK => ?_)
                  go_simp
                  have hb5 := hb2.alloc hb2.size (.cells #[.int .i64 r.x0.m, .int .i64 r.x0.s, .int .i64 r.y0.m, .int .i64 r.y0.s, .int .i64 r.x1.m, .int .i64 r.x1.s, .int .i64 r.y1.m, .int .i64 r.y1.s] 49)
                  have hS := HCC.out _ hb5
                  refine hK.out _ _ ⟨hS, ?_⟩
                  clear hK K
                  try simp only [Act.put, List.setIfInBounds_toArray, List.set_cons_zero, List.set_cons_succ]
                  refine wpAnyC_take (i := 15) (v := ?v13) rfl (by kernel_rfl) (fun _ _ _ h => h) (Or.inl ⟨by rfl, ?y13⟩) hS ?r13
                  case y13 => intro wq _; go_simp; all_goals (first | with_reducible rfl | go_num | (simp; done) | (simp; omega) | skip)
                  try simp only [Act.put, List.setIfInBounds_toArray, List.set_cons_zero, List.set_cons_succ]
                  refine wpAnyC_done (by kernel_rfl) ?_ _
                  go_wp2_with fail
                  go_meet
                  exact ⟨v2.heap.size, rfl, rfl, Lib.hid ⟨Whole.made _ _ _, hb2.size, hb5⟩⟩
                · go_simp
                  have hb1 : Below wr.heap.size wr (wr.alloc (.cells #[.int .i64 0, .int .i64 0, .int .i64 0, .int .i64 0, .int .i64 0, .int .i64 0, .int .i64 0, .int .i64 0] 49)).drew := ((Below.refl wr.heap.size wr).alloc (Nat.le_refl _) _).drew
                  have hZ0 := (Whole.made wr 49 #[.int .i64 0, .int .i64 0, .int .i64 0, .int .i64 0, .int .i64 0, .int .i64 0, .int .i64 0, .int .i64 0]).drawn1
                  have hS := HCC.out _ hb1
                  refine hK.out _ _ ⟨hS, ?_⟩
                  clear hK K
                  try simp only [Act.put, List.setIfInBounds_toArray, List.set_cons_zero, List.set_cons_succ]
                  refine wpAnyC_one (j := 9) (by kernel_rfl) rfl (fun K hK => ?_)
                  go_simp
                  go_at_call 46
                  refine (HBO.out _).mono ?_
                  rintro e v2 ⟨rfl, kk⟩
                  have hb2 : Below wr.heap.size wr v2 := (hb1).trans (kk.mono (hb1).size)
                  have hZ := hZ0.here kk
                  clear kk
                  have hS := HCC.out v2 hb2
                  go_wp2_with fail
                  refine hK.out _ _ ⟨hS, ?_⟩
                  clear hK K
                  try simp only [Act.put, List.setIfInBounds_toArray, List.set_cons_zero, List.set_cons_succ]
                  refine wpAnyC_take (i := 10) (v := ?v14) rfl (by kernel_rfl) (fun _ _ _ h => h) (Or.inl ⟨by rfl, ?y14⟩) hS ?r14
                  case y14 => intro wq _; go_simp; all_goals (first | with_reducible rfl | go_num | (simp; done) | (simp; omega) | skip)
                  try simp only [Act.put, List.setIfInBounds_toArray, List.set_cons_zero, List.set_cons_succ]
                  refine wpAnyC_take (i := 11) (v := ?v15) rfl (by kernel_rfl) (fun _ _ _ h => h) (Or.inl ⟨by rfl, ?y15⟩) hS ?r15
                  case y15 => intro wq _; go_simp; all_goals (first | with_reducible rfl | go_num | (simp; done) | (simp; omega) | skip)
                  try simp only [Act.put, List.setIfInBounds_toArray, List.set_cons_zero, List.set_cons_succ]
                  refine wpAnyC_take (i := 12) (v := ?v16) rfl (by kernel_rfl) (fun _ _ _ h => h) (Or.inl ⟨by rfl, ?y16⟩) hS ?r16
                  case y16 => intro wq _; go_simp; all_goals (first | with_reducible rfl | go_num | (simp; done) | (simp; omega) | skip)
                  try simp only [Act.put, List.setIfInBounds_toArray, List.set_cons_zero, List.set_cons_succ]
                  have rd := hZ.reads
                  have ft := hZ.thawed
                  have lz := hZ.lt
                  refine wpAnyC_one (j := 14) (by kernel_rfl) rfl (fun K hK => ?_)
                  go_simp
                  have hb5 := below8 (g := wr.heap.size) (v0 := .int .i64 r.x0.m) (v1 := .int .i64 r.x0.s) (v2 := .int .i64 r.y0.m) (v3 := .int .i64 r.y0.s) (v4 := .int .i64 r.x1.m) (v5 := .int .i64 r.x1.s) (v6 := .int .i64 r.y1.m) (v7 := .int .i64 r.y1.s) hb2 (Nat.le_refl _)
                  have hS := HCC.out _ hb5
                  refine hK.out _ _ ⟨hS, ?_⟩
                  clear hK K
                  try simp only [Act.put, List.setIfInBounds_toArray, List.set_cons_zero, List.set_cons_succ]
                  refine wpAnyC_take (i := 15) (v := ?v17) rfl (by kernel_rfl) (fun _ _ _ h => h) (Or.inl ⟨by rfl, ?y17⟩) hS ?r17
                  case y17 => intro wq _; go_simp; all_goals (first | with_reducible rfl | go_num | (simp; done) | (simp; omega) | skip)
                  try simp only [Act.put, List.setIfInBounds_toArray, List.set_cons_zero, List.set_cons_succ]
                  refine wpAnyC_done (by kernel_rfl) ?_ _
                  go_wp2_with fail
                  go_meet
                  exact ⟨wr.heap.size, rfl, rfl, Lib.hid ⟨Whole.setBox (a := .zero) (b := r) hZ, Nat.le_refl _, hb5⟩⟩
              case rest =>
                obtain ⟨P, rfl, rfl, HX⟩ := hcut
                have HW2 := Lib.hid (HWG.out.here HX.out.2.2)
                have hGP : wo.heap.size ≠ P := by have := HX.out.2.1; have := HWG.out.lt; omega
                have hszv := HV.out.2.size
                have HBE := Lib.hid (HV.out.2.trans (HX.out.2.2.mono hszv))
                obtain ⟨⟨u0, u1, u2, u3, u4, u5, u6, u7⟩, lP⟩ := bxw_facts HX.out.1
                rcases HBI.out with ⟨hbo, hxo, hr, hE0⟩ | ⟨hno, -, hE0⟩
                · have HJ2 := Lib.hid (HJ.out.next hlt HBX.out ⟨hbo, hxo⟩)
                  rw [← hr] at HJ2
                  have rd := HW2.out.reads
                  have ft := HW2.out.thawed
                  have lf := HW2.out.lt
                  subst hE0
                  clear hr hbo hxo HBI HBO HBX HJC HXC
                  go_wp2_with fail
                  go_roundw
                  case rel => exact ⟨k + 1, r, by go_num, by omega, by omega, HJ2, Lib.hid ⟨Whole.setBox (a := b) (b := r) HW2.out, below8 HBE.out (Nat.le_refl _)⟩⟩
                  case measure => simp [intOf]; omega
                · have HFB := Lib.hid (HJ.out.fail hlt HBX.out hno)
                  have HANS := Lib.hid (show findO fs l t = none from HF.out.bad HTN.out (by rw [HWS.out, HTL.out]; exact HFIT.out) HPF.out (by rw [HTL.out]; exact HFB.out))
                  have HFL := Lib.hid (show findL fs l t = [] ∧ findE fs l t = 1 by
                    unfold findL findE
                    rw [if_neg HZ.out, if_neg HZ.out, if_pos HQ.out, if_pos HQ.out, HANS.out]
                    exact ⟨rfl, rfl⟩)
                  subst hE0
                  clear hno HBI HBO HBX HJC HXC u0 u1 u2 u3 u4 u5 u6 u7
                  go_wp2_with fail
                  go_ret2
                  exact find_said_none HFL.out.1 HFL.out.2 (HBW.out.trans (HBE.out.mono HBW.out.size))
            · obtain rfl : k = a + t.size := by omega
              have d3 : decide (((a + t.size : Nat) : Int) < ((a + t.size : Nat) : Int)) = false := by simp
              have HBX := Lib.hid (HJ.out.done (by omega))
              have HST := HF.out.step HTN.out (by rw [HWS.out, HTL.out]; exact HFIT.out) HPF.out (by rw [HTL.out]; exact HBX.out)
              rw [HTL.out] at HST
              have HSN := Lib.hid HST
              clear HST
              rename World => wr
              have hbv := HB.out.trans (HV.out.2.mono HB.out.size)
              have hszv := hbv.size
              have HBV := Lib.hid hbv
              obtain ⟨⟨u0, u1, u2, u3, u4, u5, u6, u7⟩, lG⟩ := bxw_facts HV.out.1
              have HO5 := Lib.hid (own_below3 HO.out HV.out.2)
              have hacc : acc.length ≤ 32000000 := by have := HF.out.acc; omega
              clear hbv
              go_wp2_with (at_builtin; refine wpList_append_own _ rfl _ _ 23 rfl w1.heap.size 49 i0 (.agg #[.int .i64 0, .int .i64 0, .int .i64 0, .int .i64 0, .int .i64 0, .int .i64 0, .int .i64 0, .int .i64 0]) 8 64 Tryz.underlying23 hi hz0 hz1 hz2 rfl (by decide) _ _ _ rfl (HO5.out.alloc _) ⟨wr.heap.size, 0, none⟩ 1 1 [.int .i64 b.x0.m, .int .i64 b.x0.s, .int .i64 b.y0.m, .int .i64 b.y0.s, .int .i64 b.x1.m, .int .i64 b.x1.s, .int .i64 b.y1.m, .int .i64 b.y1.s] rfl rfl (World.news_of_block (cs := #[.int .i64 b.x0.m, .int .i64 b.x0.s, .int .i64 b.y0.m, .int .i64 b.y0.s, .int .i64 b.x1.m, .int .i64 b.x1.s, .int .i64 b.y1.m, .int .i64 b.y1.s]) (t := 49) (fr := (0, 0)) (heap_alloc_new _ _)) ?p1 ?p2 ?p3 ?p4 ?_)
              case p1 => simp [Value.oneCell']
              case p2 => unfold maxLen; omega
              case p3 => omega
              case p4 => first | omega | (simp; omega)
              intro v' w8 hown' hgrow _
              have hb8 := (HBV.out.alloc HBV.out.size (.cells #[.int .i64 b.x0.m, .int .i64 b.x0.s, .int .i64 b.y0.m, .int .i64 b.y0.s, .int .i64 b.x1.m, .int .i64 b.x1.s, .int .i64 b.y1.m, .int .i64 b.y1.s] 49)).grown hgrow (by simp; omega) (fun j e => (own_lt HO5.out e).1)
              have hown2 : w8.ownsRow w1.heap.size 49 8 v' (acc ++ [b]).length (rowBx (acc ++ [b])) := by rw [← rowBx_snoc, List.length_append]; exact hown'
              have HEND := Lib.hid (And.intro hown2 hb8)
              clear hown' hgrow hown2 hb8
              go_wp2_with fail
              go_roundw
              case rel => exact ⟨a + t.size, f - 1, acc ++ [b], by go_num, HFIT.out, HSN, Lib.hid HEND.out.1, Lib.hid HEND.out.2⟩
              case measure => have := HFIT.out; simp [intOf]; omega
        · have d2 := str_nq (str_ne heq)
          have d2' := str_ne heq
          have HSK := Lib.hid (HF.out.skip (by rw [HWS.out]; omega) (by rw [Bool.eq_false_iff]; exact fun h => heq (ext_is.2 (by rw [HWL.out]; exact h))))
          clear heq
          go_wp2_with fail
          go_roundw
          case rel => exact ⟨a + 1, f, acc, by go_num, by omega, HSK, HO, HB⟩
          case measure => simp [intOf]; omega
      · have d1 : decide ((a : Int) + (t.size : Int) ≤ (W.size : Int)) = false := decide_eq_false (by omega)
        have HANS := Lib.hid (show findO fs l t = some acc from HF.out.done HTN.out (by rw [HWS.out, HTL.out]; omega))
        have HFL := Lib.hid (show findL fs l t = acc ∧ findE fs l t = 0 by
          unfold findL findE
          rw [if_neg HZ.out, if_neg HZ.out, if_pos HQ.out, if_pos HQ.out, HANS.out]
          exact ⟨rfl, rfl⟩)
        obtain ⟨A3, c3, e3, h3⟩ := BxsAt.of_own HO.out
        have HZZ := Lib.hid (And.intro e3 h3)
        clear e3 h3
        go_wp2_with fail
        go_ret2
        refine ⟨A3, c3, ?_, by rw [HFL.out.1]; exact HZZ.out.2, HBW.out⟩
        rw [HFL.out.2, HFL.out.1, ← HZZ.out.1]
        rfl
  · have d0 : (q != 0) = true := by simp [h0]
    have HFL := Lib.hid (show findL fs l t = [] ∧ findE fs l t = q by
      unfold findL findE
      rw [if_neg HZ.out, if_neg HZ.out, HQ.out, if_neg h0, if_neg h0]
      exact ⟨rfl, rfl⟩)
    obtain ⟨S, hS⟩ : ∃ S : ByteArray, (⟨(textR fs l).toArray⟩ : ByteArray) = S := ⟨_, rfl⟩
    rw [hS] at HR
    clear hS h0
    go_enter Tryz.func19, Tryz.ntmps19
    go_wp2_with fail
    refine HR.out.mono ?_
    rintro e w1 ⟨A', c', rfl, hp, hb⟩
    have HB := Lib.hid hb
    clear hp hb
    go_wp2_with fail
    go_ret2
    exact find_said_none HFL.out.1 HFL.out.2 HB.out
end Go.Proofs.YtdlmhienolmncaaGreat
/- cut: CutTells, walked. -/
namespace Go.Proofs.YtdlmhienolmncaaGreat
open Go.RowKit Dec

set_option maxRecDepth 100000 in
set_option maxHeartbeats 8000000 in
theorem tells_law (A : Option Addr) (n c : Nat) (l : List Mk) (A1 : Option Addr) (n1 c1 : Nat) (fs : List Nm) (t : ByteArray) (w : World) (h : MarksAt w A n c l) (h1 : NmsAt w A1 n1 c1 fs) (hM : MX w) :
    Calls Tryz.prog 4 #[.slice A n c, .slice A1 n1 c1, .string t] w (True_ w) := by
  have H0 := Lib.hid (And.intro h h1)
  have HMX := Lib.hid hM
  have HF := Lib.hid (few23_any A n c l none 0 0 [] A1 n1 c1 fs w h (bxs_nil w) h1)
  have HL := Lib.hid (And.intro h.len h1.len)
  clear h h1 hM
  go_enter Tryz.func4, Tryz.ntmps4
  go_wp2_with fail
  refine HF.out.mono ?_
  rintro e w1 ⟨r, rfl, hr, hb⟩
  have HB1 := Lib.hid hb
  have HP := Lib.hid hr
  clear hb hr HF
  cases r
  · go_wp2_with fail
    go_ret
    exact ⟨rfl, HB1.out⟩
  obtain ⟨b60, -, b10, bs⟩ := HP.out rfl
  have HS60 := Lib.hid (show ∀ f ∈ fs, f.s.n ≤ 1000000 from fun f hf => Nat.le_trans (bs f hf) (by omega))
  clear bs HP
  by_cases h300 : 300 < t.size
  · have d2 : decide ((t.size : Int) > 300) = true := decide_eq_true (by omega)
    go_wp2_with fail
    go_ret
    exact ⟨rfl, HB1.out⟩
  have d2 : decide ((t.size : Int) > 300) = false := decide_eq_false (by omega)
  have H1 := Lib.hid (And.intro (H0.out.1.below HB1.out) (And.intro (H0.out.2.below HB1.out) HB1.out))
  clear HB1
  obtain ⟨S, hS⟩ : ∃ S : ByteArray, (⟨(textR fs l).toArray⟩ : ByteArray) = S := ⟨_, rfl⟩
  obtain ⟨E, hE⟩ : ∃ E, readE fs l = E := ⟨_, rfl⟩
  have HT1 := Lib.hid (textC_any A n c l A1 n1 c1 fs w1 H1.out.1 (by omega) H1.out.2.1 HS60.out)
  rw [hS, hE] at HT1
  go_wp2_with fail
  refine HT1.out.mono ?_
  rintro e w2 ⟨rfl, hb⟩
  have H2 := Lib.hid (And.intro (H1.out.1.below hb) (And.intro (H1.out.2.1.below hb) (H1.out.2.2.trans (hb.mono H1.out.2.2.size))))
  clear hb H1 HT1
  have HT2 := Lib.hid (rText_any A n c l A1 n1 c1 fs w2 H2.out.1 (by omega) H2.out.2.1 HS60.out)
  rw [hS, hE] at HT2
  clear hS hE
  go_wp2_with fail
  refine HT2.out.mono ?_
  rintro e w3 ⟨rfl, hb⟩
  have H3 := Lib.hid (And.intro (H2.out.1.below hb) (And.intro (H2.out.2.1.below hb) (H2.out.2.2.trans (hb.mono H2.out.2.2.size))))
  clear hb H2 HT2
  obtain ⟨bx, hbx⟩ : ∃ b, findL fs l t = b := ⟨_, rfl⟩
  obtain ⟨e1, he1⟩ : ∃ e, findE fs l t = e := ⟨_, rfl⟩
  have HX1 := Lib.hid (findC_any A n c l A1 n1 c1 fs t w3 H3.out.1 (by omega) H3.out.2.1 HS60.out (by omega) (HMX.out.later H3.out.2.2))
  unfold FindSaid at HX1
  rw [hbx, he1] at HX1
  go_wp2_with fail
  refine HX1.out.mono ?_
  rintro e w4 ⟨Ax, cx, rfl, hxx, hb⟩
  have H4 := Lib.hid (And.intro (H3.out.1.below hb) (And.intro (H3.out.2.1.below hb) (And.intro hxx (H3.out.2.2.trans (hb.mono H3.out.2.2.size)))))
  clear hb hxx H3 HX1
  have HX2 := Lib.hid (rfind23_any A n c l A1 n1 c1 fs t w4 H4.out.1 (by omega) H4.out.2.1 HS60.out (by omega))
  unfold FindSaid at HX2
  rw [hbx, he1] at HX2
  clear hbx he1
  go_wp2_with fail
  refine HX2.out.mono ?_
  rintro e w5 ⟨Ay, cy, rfl, hxy, hb⟩
  have H5 := Lib.hid (And.intro (H4.out.2.2.1.below hb) (And.intro hxy (H4.out.2.2.2.trans (hb.mono H4.out.2.2.2.size))))
  clear hb hxy H4 HX2
  have p1 := str_eq (a := S) (b := S) rfl
  have p2 : (E == E) = true := by simp
  have p3 : (e1 == e1) = true := by simp
  go_wp2_with fail
  refine (awake23 _ (HMX.out.later H5.out.2.2)).mono ?_
  rintro e w8 ⟨rfl, hb⟩
  have H8 := Lib.hid (And.intro (H5.out.1.below hb) (And.intro (H5.out.2.1.below hb) (H5.out.2.2.trans (hb.mono H5.out.2.2.size))))
  clear hb H5
  go_wp2_with fail
  refine (boxes_same _ _ _ _ _ _ _ H8.out.1 H8.out.2.1).mono ?_
  rintro e w9 ⟨rfl, hb⟩
  have H9 := Lib.hid (H8.out.2.2.trans (hb.mono H8.out.2.2.size))
  clear hb H8
  go_wp2_with fail
  go_ret
  exact ⟨rfl, H9.out⟩
end Go.Proofs.YtdlmhienolmncaaGreat
