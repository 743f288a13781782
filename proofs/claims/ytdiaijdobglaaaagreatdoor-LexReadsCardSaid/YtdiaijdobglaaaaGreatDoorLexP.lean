/- lex: validWord, valid. -/
import Derived.Test.YtdiaijdobglaaaaGreatDoorLexO
namespace Go.Proofs.YtdiaijdobglaaaaGreatDoor
open Go.RowKit

theorem PN_nats (s : ByteArray) : PN (natsOf s) = parseL s.data.toList := by
  unfold PN natsOf
  rw [List.map_map]
  have : (UInt8.ofNat ∘ UInt8.toNat) = id := by funext b; simp
  rw [this, List.map_id]
/-- The variables of the library that lex reads. -/
def Env (w : World) : Prop := MaxLen w ∧ Lib.TabIs Tryz.prog w "internal/strconv.uint64pow10" .u64 Lib.pow10Tab
theorem Env.below {w w' : World} (h : Env w) (hb : Below w.heap.size w w') : Env w' := ⟨maxLen_below hb h.1, Lib.tabBelow_of_tabIs h.2 w' hb⟩
theorem full_str {s : ByteArray} (h0 : s.size ≠ 0) : s.toList.isEmpty = false := by
  rw [Lib.toList_data]
  have : s.data.size = s.size := rfl
  cases h : s.data.toList with
  | nil => rw [← Array.length_toList, h] at this; simp at this; omega
  | cons a l => rfl
theorem empty_str {s : ByteArray} (h0 : s.size = 0) : s.toList.isEmpty = true := by
  rw [Lib.toList_data]
  have : s.data.size = s.size := rfl
  cases h : s.data.toList with
  | nil => rfl
  | cons a l => rw [← Array.length_toList, h] at this; simp at this; omega
def wordB (t : List Nat) : Bool := decide (t.length ≠ 0 ∧ t.length ≤ 127 ∧ (∀ c ∈ t, rgB c = true) ∧ (PN t).2.2 = 4)
theorem ret_b {a b : Bool} (h : a = b) : Ending.returned (.bool a) = .returned (.bool b) := by rw [h]
set_option maxRecDepth 100000 in
set_option maxHeartbeats 8000000 in
theorem validWord_any (s : ByteArray) (w : World) (hs : s.size ≤ 1000000) (hE : Env w) :
    Calls Tryz.prog 44 #[.string s] w fun e w' => e = .returned (.bool (wordB (natsOf s))) ∧ Below w.heap.size w w' := by
  have hl := nats_len s
  by_cases h0 : s.size = 0
  · have HW := Lib.hid (show wordB (natsOf s) = false from decide_eq_false (fun h => h.1 (by omega)))
    have e1 := empty_str h0
    have HZ := Lib.hid h0
    clear h0 hl
    go_enter Tryz.func44, Tryz.ntmps44
    go_wp2_with fail
    go_ret
    exact ⟨ret_b HW.out.symm, Below.refl _ _⟩
  have e1 := full_str h0
  by_cases h1 : 127 < s.size
  · have HW := Lib.hid (show wordB (natsOf s) = false from decide_eq_false (fun h => by have := h.2.1; omega))
    have d1 : decide ((127 : Int) < (s.size : Int)) = true := decide_eq_true (by omega)
    clear hl
    go_enter Tryz.func44, Tryz.ntmps44
    go_wp2_with fail
    go_ret
    exact ⟨ret_b HW.out.symm, Below.refl _ _⟩
  have d1 : decide ((127 : Int) < (s.size : Int)) = false := decide_eq_false (by omega)
  have HP := Lib.hid (parse_any s w hE.1 (by omega))
  rw [← PN_nats] at HP
  have HL := Lib.hid hl
  have H0 := Lib.hid h0
  clear hl h0 hE
  go_enter Tryz.func44, Tryz.ntmps44
  go_wp2_with fail
  go_loop [15] (fun x => ∃ k : Nat, k ≤ s.size ∧ x = .int .i64 (k : Int) ∧ Hid (∀ c ∈ (natsOf s).take k, rgB c = true)) (fun x => s.size - (intOf x).toNat)
  case atStart => exact ⟨0, by omega, rfl, Lib.hid (fun c hc => by simp at hc)⟩
  case round =>
    obtain ⟨k, hk, rfl, HA⟩ := hrel
    by_cases hlt : k < s.size
    · have d2 : decide ((k : Int) < (s.size : Int)) = true := decide_eq_true (by omega)
      have d3 : decide (k < s.size) = true := decide_eq_true hlt
      have HT := Lib.hid (take_at (nats_at s hlt))
      have HM := Lib.hid (List.mem_of_getElem? (nats_at s hlt))
      cases hr : rgB s[k].toNat
      · have HR := Lib.hid hr
        have HW := Lib.hid (show wordB (natsOf s) = false from decide_eq_false (fun h => by have := h.2.2.1 _ HM.out; rw [hr] at this; cases this))
        clear hr
        go_wp2_with fail
        refine (isRegular_any s[k].toNat _).mono ?_
        rw [HR.out]
        rintro e w1 ⟨rfl, rfl⟩
        go_wp2_with fail
        go_ret
        exact ⟨ret_b HW.out.symm, Below.refl _ _⟩
      · have HR := Lib.hid hr
        clear hr
        go_wp2_with fail
        refine (isRegular_any s[k].toNat _).mono ?_
        rw [HR.out]
        rintro e w1 ⟨rfl, rfl⟩
        go_wp2_with fail
        refine ⟨⟨k + 1, by omega, by go_num, Lib.hid (fun c hc => ?_)⟩, by simp [intOf]; omega⟩
        rw [HT.out] at hc
        rcases List.mem_append.1 hc with hc | hc
        · exact HA.out c hc
        · rw [List.mem_singleton.1 hc]; exact HR.out
    · obtain rfl : k = s.size := by omega
      have d2 : decide ((s.size : Int) < (s.size : Int)) = false := by simp
      have d3 : decide (s.size < s.size) = false := by simp
      have HAL := Lib.hid (show ∀ c ∈ natsOf s, rgB c = true from fun c hc => HA.out c (by rw [List.take_of_length_le (by rw [HL.out]; exact Nat.le_refl _)]; exact hc))
      obtain ⟨⟨M, S, E⟩, hE⟩ : ∃ z, PN (natsOf s) = z := ⟨_, rfl⟩
      rw [hE] at HP
      have HE := Lib.hid hE
      clear hE
      by_cases h4 : E = 4
      · have e4 : (E == 4) = true := by simpa using h4
        have HW := Lib.hid (show wordB (natsOf s) = true from decide_eq_true ⟨by rw [HL.out]; exact H0.out, by rw [HL.out]; omega, HAL.out, by rw [HE.out]; exact h4⟩)
        clear h4
        go_wp2_with fail
        refine HP.out.mono ?_
        rintro e w1 ⟨rfl, hb⟩
        have HB := Lib.hid hb
        clear hb
        go_wp2_with fail
        go_ret
        exact ⟨ret_b HW.out.symm, HB.out.alloc HB.out.size _⟩
      · have e4 : (E == 4) = false := by simpa using h4
        have HW := Lib.hid (show wordB (natsOf s) = false from decide_eq_false (fun h => h4 (by have := h.2.2.2; rw [HE.out] at this; exact this)))
        clear h4
        go_wp2_with fail
        refine HP.out.mono ?_
        rintro e w1 ⟨rfl, hb⟩
        have HB := Lib.hid hb
        clear hb
        go_wp2_with fail
        go_ret
        exact ⟨ret_b HW.out.symm, HB.out.alloc HB.out.size _⟩
end Go.Proofs.YtdiaijdobglaaaaGreatDoor
