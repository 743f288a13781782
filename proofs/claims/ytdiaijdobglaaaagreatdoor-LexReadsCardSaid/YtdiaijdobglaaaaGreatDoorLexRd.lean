/- LexRb, LexRc, LexRd in one text. -/
import Derived.Test.YtdiaijdobglaaaaGreatDoorLexRa
import Derived.Test.YtdiaijdobglaaaaGreatDoorLexR
import Derived.Test.YtdiaijdobglaaaaGreatDoorRefParse
import Derived.Test.YtdiaijdobglaaaaGreatDoorRefPrintL
namespace Go.Proofs.YtdiaijdobglaaaaGreatDoor
open Go.RowKit

theorem strB_cat (a b : List Nat) : strB a ++ strB b = strB (a ++ b) := by
  unfold strB
  rw [List.map_append]
  apply ByteArray.ext
  simp
theorem extD (k : Nat) (hk : k < 16) : (⟨#[48, 49, 50, 51, 52, 53, 54, 55, 56, 57, 97, 98, 99, 100, 101, 102]⟩ : ByteArray).extract k (k + 1) = strB [dig16 k] := by
  rcases (by omega : k = 0 ∨ k = 1 ∨ k = 2 ∨ k = 3 ∨ k = 4 ∨ k = 5 ∨ k = 6 ∨ k = 7 ∨ k = 8 ∨ k = 9 ∨ k = 10 ∨ k = 11 ∨ k = 12 ∨ k = 13 ∨ k = 14 ∨ k = 15) with rfl | rfl | rfl | rfl | rfl | rfl | rfl | rfl | rfl | rfl | rfl | rfl | rfl | rfl | rfl | rfl <;> rfl
set_option maxRecDepth 100000 in
theorem two_ref (c : Nat) (hc : c < 256) (w : World) :
    Calls Tryz.prog 27 #[.int .u8 c] w fun e w' => e = .returned (.string (strB [dig16 (c / 16), dig16 (c % 16)])) ∧ ∃ j, w' = w.drewN j := by
  have p1 : IntKind.u8.wrap ((c : Int) / 16) = ((c / 16 : Nat) : Int) := by show _ % 256 = _; omega
  have p2 : (c : Int).tmod 16 = ((c % 16 : Nat) : Int) := by rw [Int.tmod_eq_emod_of_nonneg (by omega)]; omega
  have p3 : IntKind.u8.wrap (((c / 16 : Nat) : Int) + 1) = ((c / 16 + 1 : Nat) : Int) := by show _ % 256 = _; omega
  have p4 : IntKind.u8.wrap (((c % 16 : Nat) : Int) + 1) = ((c % 16 + 1 : Nat) : Int) := by show _ % 256 = _; omega
  have S1 := Lib.hid (extD (c / 16) (by omega))
  have S2 := Lib.hid (extD (c % 16) (by omega))
  have H1 := Lib.hid (strB_cat [dig16 (c / 16)] [dig16 (c % 16)])
  go_enter Tryz.func27, Tryz.ntmps27
  go_wp2_with fail
  go_region
  go_wp2_with fail
  go_ret
  refine ⟨by rw [S1.out, S2.out, H1.out]; rfl, ?_⟩
  exact ⟨1, rfl⟩
def nameB (l : List Nat) : Bool := decide (l.length ≤ 65535 ∧ ∀ c ∈ l, c ≠ 0)
set_option maxRecDepth 100000 in
set_option maxHeartbeats 4000000 in
theorem name_ref (s : ByteArray) (w : World) (hs : s.size ≤ 1000000) :
    Calls Tryz.prog 49 #[.string s] w fun e w' => e = .returned (.bool (nameB (natsOf s))) ∧ w = w' := by
  have HL := Lib.hid (nats_len s)
  go_enter Tryz.func49, Tryz.ntmps49
  go_wp2_with fail
  go_loop [3] (fun x => ∃ k : Nat, k ≤ s.size ∧ x = .int .i64 (k : Int) ∧ Hid (∀ c ∈ (natsOf s).take k, c ≠ 0)) (fun x => s.size - (intOf x).toNat)
  case atStart => exact ⟨0, by omega, rfl, Lib.hid (fun c hc => by simp at hc)⟩
  case round =>
    obtain ⟨k, hk, rfl, HA⟩ := hrel
    by_cases hlt : k < s.size
    · have e2 : decide ((k : Int) < (s.size : Int)) = true := decide_eq_true (by omega)
      have e3 : decide (k < s.size) = true := decide_eq_true hlt
      have HT := Lib.hid (take_at (nats_at s hlt))
      have HM := Lib.hid (List.mem_of_getElem? (nats_at s hlt))
      by_cases h0 : s[k].toNat = 0
      · have z1 : ((s[k].toNat : Int) == 0) = true := by simp; omega
        have HW := Lib.hid (show nameB (natsOf s) = false from decide_eq_false (fun h => h.2 _ HM.out h0))
        go_wp2_with fail
        go_ret
        exact ⟨ret_b HW.out.symm, rfl⟩
      · have z1 : ((s[k].toNat : Int) == 0) = false := by simp; omega
        have HN := Lib.hid (show ∀ c ∈ (natsOf s).take (k + 1), c ≠ 0 from fun c hc => by
          rw [HT.out] at hc
          rcases List.mem_append.1 hc with hc | hc
          · exact HA.out c hc
          · rw [List.mem_singleton.1 hc]; exact h0)
        clear h0
        go_wp2_with fail
        exact ⟨⟨k + 1, by omega, by go_num, HN⟩, by simp [intOf]; omega⟩
    · obtain rfl : k = s.size := by omega
      have e2 : decide ((s.size : Int) < (s.size : Int)) = false := by simp
      have e3 : decide (s.size < s.size) = false := by simp
      have HAL := Lib.hid (show ∀ c ∈ natsOf s, c ≠ 0 from fun c hc => HA.out c (by rw [List.take_of_length_le (by rw [HL.out]; exact Nat.le_refl _)]; exact hc))
      have HW := Lib.hid (show nameB (natsOf s) = decide ((s.size : Int) ≤ 65535) by
        unfold nameB
        rw [HL.out]
        exact decide_eq_decide.2 ⟨fun h => by have := h.1; omega, fun h => ⟨by omega, HAL.out⟩⟩)
      go_wp2_with fail
      go_ret
      exact ⟨ret_b (by rw [HW.out]), rfl⟩
end Go.Proofs.YtdiaijdobglaaaaGreatDoor
namespace Go.Proofs.YtdiaijdobglaaaaGreatDoor
open Go.RowKit Dec

theorem refparse_is (t : ByteArray) (w : World) (ht : t.size ≤ 600) (M S E : Int) (hp : parseL t.data.toList = (M, S, E)) :
    Calls Tryz.prog 19 #[.string t] w (IsDec M S E w) := by
  have hs := headOf_sign t
  have hlen : t.data.toList.length = t.size := by rw [Array.length_toList]; rfl
  obtain ⟨p1, p2⟩ := parse_ref t.data.toList
  unfold refL at p1 p2
  rw [hs] at p1 p2
  refine (refparse_any t w ht (scanL false (t.data.toList.drop (headOf t).2)) rfl).mono ?_
  rintro e w' ⟨a1, a2⟩
  cases hsc : scanL false (t.data.toList.drop (headOf t).2) with
  | none =>
    have := p1 (by simp only [hsc])
    rw [hp] at this
    injection this with e1 e2
    injection e2 with e2 e3
    subst e1 e2 e3
    exact a1 (.inl hsc)
  | some x =>
    obtain ⟨ds, b⟩ := x
    by_cases hbad : ds = [] ∨ 40 < t.size
    · have := p1 (by simp only [hsc]; rw [if_pos (by rw [hlen]; exact hbad)])
      rw [hp] at this
      injection this with e1 e2
      injection e2 with e2 e3
      subst e1 e2 e3
      rcases hbad with h | h
      · exact a1 (.inr (.inl ⟨b, by rw [hsc, h]⟩))
      · exact a1 (.inr (.inr h))
    · obtain ⟨M', S', E', h1, h2⟩ := p2 _ b (by simp only [hsc]; rw [if_neg (by rw [hlen]; exact hbad)])
      rw [hp] at h1
      injection h1 with e1 e2
      injection e2 with e2 e3
      subst e1 e2 e3
      obtain ⟨M2, S2, E2, he, hd, hb⟩ := a2 ds b hsc (fun h => hbad (.inl h)) (fun h => hbad (.inr h))
      have hV : (if (headOf t).1 = true then -1 else 1 : Int) * (num ds.reverse : Int) = if (headOf t).1 = true then -(num ds.reverse : Int) else (num ds.reverse : Int) := by
        cases (headOf t).1 <;> simp
      rw [hV] at h2
      obtain ⟨rfl, rfl, rfl⟩ := h2.unique hd
      exact ⟨he, hb⟩
theorem refparse_nats (s : ByteArray) (w : World) (hs : s.size ≤ 600) (M S E : Int) (hp : PN (natsOf s) = (M, S, E)) : Calls Tryz.prog 19 #[.string s] w (IsDec M S E w) :=
  refparse_is s w hs M S E (by rw [← PN_nats]; exact hp)
set_option maxRecDepth 100000 in
set_option maxHeartbeats 8000000 in
theorem word_ref (s : ByteArray) (w : World) (hs : s.size ≤ 600) :
    Calls Tryz.prog 50 #[.string s] w fun e w' => e = .returned (.bool (wordB (natsOf s))) ∧ Below w.heap.size w w' := by
  have HL := Lib.hid (nats_len s)
  go_enter Tryz.func50, Tryz.ntmps50
  go_wp2_with fail
  go_loop [3] (fun x => ∃ k : Nat, k ≤ s.size ∧ x = .int .i64 (k : Int) ∧ Hid (∀ c ∈ (natsOf s).take k, rgB c = true)) (fun x => s.size - (intOf x).toNat)
  case atStart => exact ⟨0, by omega, rfl, Lib.hid (fun c hc => by simp at hc)⟩
  case round =>
    obtain ⟨k, hk, rfl, HA⟩ := hrel
    by_cases hlt : k < s.size
    · have d2 : decide ((k : Int) < (s.size : Int)) = true := decide_eq_true (by omega)
      have d3 : decide (k < s.size) = true := decide_eq_true hlt
      have HT := Lib.hid (take_at (nats_at s hlt))
      have HM := Lib.hid (List.mem_of_getElem? (nats_at s hlt))
      cases hr : rgB s[k].toNat
      · have HR := Lib.hid hr
        have HW := Lib.hid (show wordB (natsOf s) = false from decide_eq_false (fun h => by have := h.2.2.1 _ HM.out; rw [hr] at this; cases this))
        clear hr
        go_wp2_with fail
        refine (other_ref s[k].toNat _).mono ?_
        rw [HR.out]
        rintro e w1 ⟨rfl, rfl⟩
        go_wp2_with fail
        go_ret
        exact ⟨ret_b HW.out.symm, Below.refl _ _⟩
      · have HR := Lib.hid hr
        clear hr
        go_wp2_with fail
        refine (other_ref s[k].toNat _).mono ?_
        rw [HR.out]
        rintro e w1 ⟨rfl, rfl⟩
        go_wp2_with fail
        refine ⟨⟨k + 1, by omega, by go_num, Lib.hid (fun c hc => ?_)⟩, by simp [intOf]; omega⟩
        rw [HT.out] at hc
        rcases List.mem_append.1 hc with hc | hc
        · exact HA.out c hc
        · rw [List.mem_singleton.1 hc]; exact HR.out
    · obtain rfl : k = s.size := by omega
      have d2 : decide ((s.size : Int) < (s.size : Int)) = false := by simp
      have d3 : decide (s.size < s.size) = false := by simp
      have HAL := Lib.hid (show ∀ c ∈ natsOf s, rgB c = true from fun c hc => HA.out c (by rw [List.take_of_length_le (by rw [HL.out]; exact Nat.le_refl _)]; exact hc))
      obtain ⟨⟨M, S, E⟩, hE⟩ : ∃ z, PN (natsOf s) = z := ⟨_, rfl⟩
      have HP := Lib.hid (refparse_nats s w hs M S E hE)
      have HE := Lib.hid hE
      clear hE
      have key : (decide ((1 : Int) ≤ (s.size : Int)) = false ∧ wordB (natsOf s) = false) ∨ (decide ((1 : Int) ≤ (s.size : Int)) = true ∧ decide ((s.size : Int) ≤ 127) = false ∧ wordB (natsOf s) = false) ∨ (decide ((1 : Int) ≤ (s.size : Int)) = true ∧ decide ((s.size : Int) ≤ 127) = true ∧ wordB (natsOf s) = (E == 4)) := by
        by_cases h1 : 1 ≤ s.size
        · by_cases h2 : s.size ≤ 127
          · refine .inr (.inr ⟨decide_eq_true (by omega), decide_eq_true (by omega), ?_⟩)
            unfold wordB
            rw [HE.out]
            by_cases h4 : E = 4
            · rw [show (E == 4) = true by simpa using h4]
              exact decide_eq_true ⟨by rw [HL.out]; omega, by rw [HL.out]; omega, HAL.out, h4⟩
            · rw [show (E == 4) = false by simpa using h4]
              exact decide_eq_false (fun h => h4 h.2.2.2)
          · exact .inr (.inl ⟨decide_eq_true (by omega), decide_eq_false (by omega), decide_eq_false (fun h => h2 (by have := h.2.1; rw [HL.out] at this; exact this))⟩)
        · exact .inl ⟨decide_eq_false (by omega), decide_eq_false (fun h => h1 (by have := h.1; rw [HL.out] at this; omega))⟩
      rcases key with ⟨k1, k2⟩ | ⟨k1, k2, k3⟩ | ⟨k1, k2, k3⟩
      · have HK := Lib.hid k2
        clear k2
        go_wp2_with fail
        refine HP.out.mono ?_
        rintro e w1 ⟨rfl, hb⟩
        have HB := Lib.hid (hb.alloc hb.size (.cells #[.int .i64 M, .int .i64 S] 25))
        clear hb
        go_wp2_with fail
        go_ret
        exact ⟨ret_b HK.out.symm, HB.out⟩
      · have HK := Lib.hid k3
        clear k3
        go_wp2_with fail
        refine HP.out.mono ?_
        rintro e w1 ⟨rfl, hb⟩
        have HB := Lib.hid (hb.alloc hb.size (.cells #[.int .i64 M, .int .i64 S] 25))
        clear hb
        go_wp2_with fail
        go_ret
        exact ⟨ret_b HK.out.symm, HB.out⟩
      · have HK := Lib.hid k3
        clear k3
        go_wp2_with fail
        refine HP.out.mono ?_
        rintro e w1 ⟨rfl, hb⟩
        have HB := Lib.hid (hb.alloc hb.size (.cells #[.int .i64 M, .int .i64 S] 25))
        clear hb
        go_wp2_with fail
        go_ret
        exact ⟨ret_b HK.out.symm, HB.out⟩
end Go.Proofs.YtdiaijdobglaaaaGreatDoor
namespace Go.Proofs.YtdiaijdobglaaaaGreatDoor
open Go.RowKit

set_option maxRecDepth 100000 in
set_option maxHeartbeats 8000000 in
theorem right_ref (kd m s : Int) (x : ByteArray) (w : World) (hs : x.size ≤ 600) :
    Calls Tryz.prog 24 #[.agg #[.int .i64 kd, .int .i64 m, .int .i64 s, .string x]] w fun e w' => e = .returned (.bool (validB ⟨kd, m, s, natsOf x⟩)) ∧ Below w.heap.size w w' := by
  have hl := nats_len x
  have HB := Lib.hid (((Below.refl w.heap.size w).alloc (Nat.le_refl _) (.cells #[.int .i64 kd, .int .i64 m, .int .i64 s, .string x] 27)))
  have HWH := Lib.hid (Whole.made w 27 #[.int .i64 kd, .int .i64 m, .int .i64 s, .string x])
  by_cases k1 : kd = 1
  · subst k1
    by_cases hv : Dec.Valid m s
    · have HV := Lib.hid (fun w => right_any m s w)
      rw [decide_eq_true hv] at HV
      by_cases h0 : x.size = 0
      · have e1 := empty_str h0
        have HR := Lib.hid (show validB ⟨1, m, s, natsOf x⟩ = true from decide_eq_true ⟨hv, by show (natsOf x).length = 0; omega⟩)
        clear hv h0 hl
        go_enter Tryz.func24, Tryz.ntmps24
        go_wp2_with fail
        refine (HV.out _).mono ?_
        rintro e w1 ⟨rfl, hb⟩
        have rd := (HWH.out.here hb).reads
        have HB1 := Lib.hid (HB.out.trans (hb.mono HB.out.size))
        clear hb
        go_wp2_with fail
        go_ret
        exact ⟨ret_b HR.out.symm, HB1.out⟩
      · have e1 := full_str h0
        have HR := Lib.hid (show validB ⟨1, m, s, natsOf x⟩ = false from decide_eq_false (fun h => h0 (by have : (natsOf x).length = 0 := h.2; omega)))
        clear hv h0 hl
        go_enter Tryz.func24, Tryz.ntmps24
        go_wp2_with fail
        refine (HV.out _).mono ?_
        rintro e w1 ⟨rfl, hb⟩
        have rd := (HWH.out.here hb).reads
        have HB1 := Lib.hid (HB.out.trans (hb.mono HB.out.size))
        clear hb
        go_wp2_with fail
        go_ret
        exact ⟨ret_b HR.out.symm, HB1.out⟩
    · have HV := Lib.hid (fun w => right_any m s w)
      rw [decide_eq_false hv] at HV
      have HR := Lib.hid (show validB ⟨1, m, s, natsOf x⟩ = false from decide_eq_false (fun h => hv h.1))
      clear hv hl
      go_enter Tryz.func24, Tryz.ntmps24
      go_wp2_with fail
      refine (HV.out _).mono ?_
      rintro e w1 ⟨rfl, hb⟩
      have rd := (HWH.out.here hb).reads
      have HB1 := Lib.hid (HB.out.trans (hb.mono HB.out.size))
      clear hb
      go_wp2_with fail
      go_ret
      exact ⟨ret_b HR.out.symm, HB1.out⟩
  · have t1 : (kd == 1) = false := by simpa using k1
    by_cases hz : m = 0 ∧ s = 0
    · obtain ⟨rfl, rfl⟩ := hz
      by_cases k2 : kd = 2
      · subst k2
        have HR := Lib.hid (show validB ⟨2, 0, 0, natsOf x⟩ = nameB (natsOf x) by
          unfold validB
          rw [if_neg k1, if_pos rfl, decide_eq_true (show (0 : Int) = 0 ∧ (0 : Int) = 0 from ⟨rfl, rfl⟩), Bool.true_and]
          rfl)
        clear k1 hl
        go_enter Tryz.func24, Tryz.ntmps24
        go_wp2_with fail
        refine (name_ref x _ (by omega)).mono ?_
        rintro e w1 ⟨rfl, rfl⟩
        go_wp2_with fail
        go_ret
        exact ⟨ret_b HR.out.symm, HB.out⟩
      have t2 : (kd == 2) = false := by simpa using k2
      by_cases k3 : kd = 3
      · subst k3
        have HR := Lib.hid (show validB ⟨3, 0, 0, natsOf x⟩ = decide ((x.size : Int) ≤ 65535) by
          unfold validB
          rw [if_neg k1, if_neg k2, if_pos rfl, decide_eq_true (show (0 : Int) = 0 ∧ (0 : Int) = 0 from ⟨rfl, rfl⟩), Bool.true_and]
          exact decide_eq_decide.2 (by show (natsOf x).length ≤ 65535 ↔ _; omega))
        clear k1 k2 hl
        go_enter Tryz.func24, Tryz.ntmps24
        go_wp2_with fail
        go_ret
        exact ⟨ret_b HR.out.symm, HB.out⟩
      have t3 : (kd == 3) = false := by simpa using k3
      by_cases k4 : kd = 4
      · subst k4
        have HR := Lib.hid (show validB ⟨4, 0, 0, natsOf x⟩ = wordB (natsOf x) by
          unfold validB
          rw [if_neg k1, if_neg k2, if_neg k3, if_pos rfl, decide_eq_true (show (0 : Int) = 0 ∧ (0 : Int) = 0 from ⟨rfl, rfl⟩), Bool.true_and])
        clear k1 k2 k3 hl
        go_enter Tryz.func24, Tryz.ntmps24
        go_wp2_with fail
        refine (word_ref x _ hs).mono ?_
        rintro e w1 ⟨rfl, hb⟩
        have HB1 := Lib.hid (HB.out.trans (hb.mono HB.out.size))
        clear hb
        go_wp2_with fail
        go_ret
        exact ⟨ret_b HR.out.symm, HB1.out⟩
      have t4 : (kd == 4) = false := by simpa using k4
      have HQ := Lib.hid (show validB ⟨kd, 0, 0, natsOf x⟩ = decide (0 ≤ kd ∧ kd ≤ 8 ∧ (natsOf x).length = 0) by
        unfold validB
        rw [if_neg k1, if_neg k2, if_neg k3, if_neg k4, decide_eq_true (show (0 : Int) = 0 ∧ (0 : Int) = 0 from ⟨rfl, rfl⟩), Bool.true_and])
      by_cases g0 : 0 ≤ kd
      · have d1 : decide ((0 : Int) ≤ kd) = true := decide_eq_true g0
        by_cases g8 : kd ≤ 8
        · have d2 : decide (kd ≤ 8) = true := decide_eq_true g8
          by_cases h0 : x.size = 0
          · have e1 := empty_str h0
            have HR := Lib.hid (show validB ⟨kd, 0, 0, natsOf x⟩ = true by rw [HQ.out]; exact decide_eq_true ⟨g0, g8, by omega⟩)
            clear h0 k1 k2 k3 k4 hl
            go_enter Tryz.func24, Tryz.ntmps24
            go_wp2_with fail
            go_ret
            exact ⟨ret_b HR.out.symm, HB.out⟩
          · have e1 := full_str h0
            have HR := Lib.hid (show validB ⟨kd, 0, 0, natsOf x⟩ = false by rw [HQ.out]; exact decide_eq_false (fun h => h0 (by have := h.2.2; omega)))
            clear h0 k1 k2 k3 k4 hl
            go_enter Tryz.func24, Tryz.ntmps24
            go_wp2_with fail
            go_ret
            exact ⟨ret_b HR.out.symm, HB.out⟩
        · have d2 : decide (kd ≤ 8) = false := decide_eq_false g8
          have HR := Lib.hid (show validB ⟨kd, 0, 0, natsOf x⟩ = false by rw [HQ.out]; exact decide_eq_false (fun h => g8 h.2.1))
          clear k1 k2 k3 k4 hl
          go_enter Tryz.func24, Tryz.ntmps24
          go_wp2_with fail
          go_ret
          exact ⟨ret_b HR.out.symm, HB.out⟩
      · have d1 : decide ((0 : Int) ≤ kd) = false := decide_eq_false g0
        have HR := Lib.hid (show validB ⟨kd, 0, 0, natsOf x⟩ = false by rw [HQ.out]; exact decide_eq_false (fun h => g0 h.1))
        clear k1 k2 k3 k4 hl
        go_enter Tryz.func24, Tryz.ntmps24
        go_wp2_with fail
        go_ret
        exact ⟨ret_b HR.out.symm, HB.out⟩
    · have HR := Lib.hid (show validB ⟨kd, m, s, natsOf x⟩ = false by unfold validB; rw [if_neg k1, decide_eq_false hz, Bool.false_and])
      clear hl
      by_cases hm : m = 0
      · subst hm
        have hs0 : ¬ s = 0 := fun h => hz ⟨rfl, h⟩
        have v1 : (s == 0) = false := by simpa using hs0
        clear hz hs0
        go_enter Tryz.func24, Tryz.ntmps24
        go_wp2_with fail
        go_ret
        exact ⟨ret_b HR.out.symm, HB.out⟩
      · have v1 : (m == 0) = false := by simpa using hm
        clear hz hm
        go_enter Tryz.func24, Tryz.ntmps24
        go_wp2_with fail
        go_ret
        exact ⟨ret_b HR.out.symm, HB.out⟩
end Go.Proofs.YtdiaijdobglaaaaGreatDoor
