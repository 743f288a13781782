/- lex: escape. Written by gen_lexi.py. -/
import Derived.Test.YtdiaijdobglaaaaGreatDoorLexH
namespace Go.Proofs.YtdiaijdobglaaaaGreatDoor
open Go.RowKit

/-- What escape answers: a byte, if it stands for one, and the place behind. -/
def EscSaid (R : Nat) (A : Option Addr) (n c : Nat) (bs : List Nat) (k : Nat) (w : World) (e : Ending) (w' : World) : Prop :=
  ∃ (v k' : Nat) (ok : Bool), Moved R A n c bs k' (.tuple #[.int .u8 (v : Int), .bool ok]) w e w' ∧ v < 256 ∧ escL (bs.drop k) = (if ok then [v] else [], bs.drop k') ∧ k ≤ k'
theorem esc_cons (x : Nat) (z : List Nat) : escL (x :: z) = match escB x with
    | some c => ([c], z)
    | none => if x = 10 then ([], z) else if x = 13 then ([], skN z) else if octB x = true then octL (x :: z) else ([x], z) := by
  unfold escL
  rw [if_neg (by simp)]
  rfl
set_option maxRecDepth 100000 in
set_option maxHeartbeats 8000000 in
theorem escape_any (R : Nat) (A : Option Addr) (n c : Nat) (bs : List Nat) (k : Nat) (w : World) (h : Rdr w R A n c bs k) :
    Calls Tryz.prog 59 #[.pointer (some ⟨R, 0, none⟩)] w (EscSaid R A n c bs k w) := by
  have H := Lib.hid h
  by_cases hk : k < n
  · obtain ⟨x, hx⟩ : ∃ x, bs[k]? = some x := ⟨_, List.getElem?_eq_getElem (by rw [h.len]; exact hk)⟩
    have hx2 := h.bytes.byte x (List.mem_of_getElem? hx)
    have HX := Lib.hid hx
    have HK := Lib.hid hk
    have HD := Lib.hid (drop_at hx)
    clear h hx hk
    by_cases e110 : x = 110
    · have t110 : ((x : Int) == 110) = true := by simp; omega
      have HE := Lib.hid (show escL (bs.drop k) = ([10], bs.drop (k + 1)) by rw [HD.out, e110]; rfl)
      clear e110
      go_enter Tryz.func59, Tryz.ntmps59
      go_wp2_with fail
      refine (more_t H.out HK.out).mono ?_
      rintro e w1 ⟨rfl, j, rfl⟩
      go_wp2_with fail
      refine (take_any R A n c bs k x _ (H.out.drewN j) HX.out).mono ?_
      rintro e w1 ⟨rfl, hr, hf⟩
      have HR1 := Lib.hid hr
      have HF1 := Lib.hid (Fr.from _ hf)
      clear hr hf
      go_wp2_with fail
      go_ret2
      exact ⟨10, k + 1, true, ⟨rfl, HR1.out, HF1.out⟩, by decide, HE.out, by omega⟩
    have t110 : ((x : Int) == 110) = false := by simp; omega
    by_cases e114 : x = 114
    · have t114 : ((x : Int) == 114) = true := by simp; omega
      have HE := Lib.hid (show escL (bs.drop k) = ([13], bs.drop (k + 1)) by rw [HD.out, e114]; rfl)
      clear e114
      go_enter Tryz.func59, Tryz.ntmps59
      go_wp2_with fail
      refine (more_t H.out HK.out).mono ?_
      rintro e w1 ⟨rfl, j, rfl⟩
      go_wp2_with fail
      refine (take_any R A n c bs k x _ (H.out.drewN j) HX.out).mono ?_
      rintro e w1 ⟨rfl, hr, hf⟩
      have HR1 := Lib.hid hr
      have HF1 := Lib.hid (Fr.from _ hf)
      clear hr hf
      go_wp2_with fail
      go_ret2
      exact ⟨13, k + 1, true, ⟨rfl, HR1.out, HF1.out⟩, by decide, HE.out, by omega⟩
    have t114 : ((x : Int) == 114) = false := by simp; omega
    by_cases e116 : x = 116
    · have t116 : ((x : Int) == 116) = true := by simp; omega
      have HE := Lib.hid (show escL (bs.drop k) = ([9], bs.drop (k + 1)) by rw [HD.out, e116]; rfl)
      clear e116
      go_enter Tryz.func59, Tryz.ntmps59
      go_wp2_with fail
      refine (more_t H.out HK.out).mono ?_
      rintro e w1 ⟨rfl, j, rfl⟩
      go_wp2_with fail
      refine (take_any R A n c bs k x _ (H.out.drewN j) HX.out).mono ?_
      rintro e w1 ⟨rfl, hr, hf⟩
      have HR1 := Lib.hid hr
      have HF1 := Lib.hid (Fr.from _ hf)
      clear hr hf
      go_wp2_with fail
      go_ret2
      exact ⟨9, k + 1, true, ⟨rfl, HR1.out, HF1.out⟩, by decide, HE.out, by omega⟩
    have t116 : ((x : Int) == 116) = false := by simp; omega
    by_cases e98 : x = 98
    · have t98 : ((x : Int) == 98) = true := by simp; omega
      have HE := Lib.hid (show escL (bs.drop k) = ([8], bs.drop (k + 1)) by rw [HD.out, e98]; rfl)
      clear e98
      go_enter Tryz.func59, Tryz.ntmps59
      go_wp2_with fail
      refine (more_t H.out HK.out).mono ?_
      rintro e w1 ⟨rfl, j, rfl⟩
      go_wp2_with fail
      refine (take_any R A n c bs k x _ (H.out.drewN j) HX.out).mono ?_
      rintro e w1 ⟨rfl, hr, hf⟩
      have HR1 := Lib.hid hr
      have HF1 := Lib.hid (Fr.from _ hf)
      clear hr hf
      go_wp2_with fail
      go_ret2
      exact ⟨8, k + 1, true, ⟨rfl, HR1.out, HF1.out⟩, by decide, HE.out, by omega⟩
    have t98 : ((x : Int) == 98) = false := by simp; omega
    by_cases e102 : x = 102
    · have t102 : ((x : Int) == 102) = true := by simp; omega
      have HE := Lib.hid (show escL (bs.drop k) = ([12], bs.drop (k + 1)) by rw [HD.out, e102]; rfl)
      clear e102
      go_enter Tryz.func59, Tryz.ntmps59
      go_wp2_with fail
      refine (more_t H.out HK.out).mono ?_
      rintro e w1 ⟨rfl, j, rfl⟩
      go_wp2_with fail
      refine (take_any R A n c bs k x _ (H.out.drewN j) HX.out).mono ?_
      rintro e w1 ⟨rfl, hr, hf⟩
      have HR1 := Lib.hid hr
      have HF1 := Lib.hid (Fr.from _ hf)
      clear hr hf
      go_wp2_with fail
      go_ret2
      exact ⟨12, k + 1, true, ⟨rfl, HR1.out, HF1.out⟩, by decide, HE.out, by omega⟩
    have t102 : ((x : Int) == 102) = false := by simp; omega
    by_cases e10 : x = 10
    · have t10 : ((x : Int) == 10) = true := by simp; omega
      have HE := Lib.hid (show escL (bs.drop k) = ([], bs.drop (k + 1)) by rw [HD.out, e10]; rfl)
      clear e10
      go_enter Tryz.func59, Tryz.ntmps59
      go_wp2_with fail
      refine (more_t H.out HK.out).mono ?_
      rintro e w1 ⟨rfl, j, rfl⟩
      go_wp2_with fail
      refine (take_any R A n c bs k x _ (H.out.drewN j) HX.out).mono ?_
      rintro e w1 ⟨rfl, hr, hf⟩
      have HR1 := Lib.hid hr
      have HF1 := Lib.hid (Fr.from _ hf)
      clear hr hf
      go_wp2_with fail
      go_ret2
      exact ⟨0, k + 1, false, ⟨rfl, HR1.out, HF1.out⟩, by decide, HE.out, by omega⟩
    have t10 : ((x : Int) == 10) = false := by simp; omega
    by_cases e13 : x = 13
    · have t13 : ((x : Int) == 13) = true := by simp; omega
      by_cases h10 : bs[k + 1]? = some 10
      · have HE := Lib.hid (show escL (bs.drop k) = ([], bs.drop (k + 1 + 1)) by rw [HD.out, e13, esc_cons]; show (([] : List Nat), skN (bs.drop (k + 1))) = _; unfold skN; rw [hd_at h10, if_pos rfl, List.drop_drop])
        have H10 := Lib.hid h10
        clear e13 h10
        go_enter Tryz.func59, Tryz.ntmps59
        go_wp2_with fail
        refine (more_t H.out HK.out).mono ?_
        rintro e w1 ⟨rfl, j, rfl⟩
        go_wp2_with fail
        refine (take_any R A n c bs k x _ (H.out.drewN j) HX.out).mono ?_
        rintro e w1 ⟨rfl, hr, hf⟩
        have HR1 := Lib.hid hr
        have HF1 := Lib.hid (Fr.from _ hf)
        clear hr hf
        go_wp2_with fail
        refine (skip_yes R A n c bs (k + 1) 10 _ HR1.out H10.out).mono ?_
        rintro e w2 ⟨rfl, hr, hf⟩
        have HR2 := Lib.hid hr
        have HF2 := Lib.hid (FrR.trans HF1.out hf)
        clear hr hf
        go_wp2_with fail
        go_ret2
        exact ⟨0, k + 1 + 1, false, ⟨rfl, HR2.out, HF2.out⟩, by decide, HE.out, by omega⟩
      · have HE := Lib.hid (show escL (bs.drop k) = ([], bs.drop (k + 1)) by
          rw [HD.out, e13, esc_cons]
          show (([] : List Nat), skN (bs.drop (k + 1))) = _
          unfold skN
          rw [if_neg (fun e => h10 ?_)]
          cases hy : bs[k + 1]? with
          | none => rw [hd_none (by simpa using hy)] at e; cases e
          | some y => rw [hd_at hy] at e; rw [e])
        have H10 := Lib.hid h10
        clear e13 h10
        go_enter Tryz.func59, Tryz.ntmps59
        go_wp2_with fail
        refine (more_t H.out HK.out).mono ?_
        rintro e w1 ⟨rfl, j, rfl⟩
        go_wp2_with fail
        refine (take_any R A n c bs k x _ (H.out.drewN j) HX.out).mono ?_
        rintro e w1 ⟨rfl, hr, hf⟩
        have HR1 := Lib.hid hr
        have HF1 := Lib.hid (Fr.from _ hf)
        clear hr hf
        go_wp2_with fail
        refine (skip_no R A n c bs (k + 1) 10 _ HR1.out H10.out).mono ?_
        rintro e w2 ⟨rfl, hr, hf⟩
        have HR2 := Lib.hid hr
        have HF2 := Lib.hid (FrR.trans HF1.out hf)
        clear hr hf
        go_wp2_with fail
        go_ret2
        exact ⟨0, k + 1, false, ⟨rfl, HR2.out, HF2.out⟩, by decide, HE.out, by omega⟩
    have t13 : ((x : Int) == 13) = false := by simp; omega
    have hesc : escB x = none := by unfold escB; rw [if_neg e110, if_neg e114, if_neg e116, if_neg e98, if_neg e102]
    have HE := Lib.hid (show escL (bs.drop k) = if octB x = true then octL (x :: bs.drop (k + 1)) else ([x], bs.drop (k + 1)) by
      rw [HD.out, esc_cons, hesc]
      simp only
      rw [if_neg e10, if_neg e13])
    clear hesc e110 e114 e116 e98 e102 e10 e13
    cases ho : octB x
    · have HO := Lib.hid ho
      clear ho
      go_enter Tryz.func59, Tryz.ntmps59
      go_wp2_with fail
      refine (more_t H.out HK.out).mono ?_
      rintro e w1 ⟨rfl, j, rfl⟩
      go_wp2_with fail
      refine (take_any R A n c bs k x _ (H.out.drewN j) HX.out).mono ?_
      rintro e w1 ⟨rfl, hr, hf⟩
      have HR1 := Lib.hid hr
      have HF1 := Lib.hid (Fr.from _ hf)
      clear hr hf
      go_wp2_with fail
      refine (isOctal_any x _).mono ?_
      rw [HO.out]
      rintro e w2 ⟨rfl, rfl⟩
      go_wp2_with fail
      go_ret2
      exact ⟨x, k + 1, true, ⟨rfl, HR1.out, HF1.out⟩, hx2, by rw [HE.out, if_neg (by rw [HO.out]; decide)]; rfl, by omega⟩
    · have HO := Lib.hid ho
      clear ho
      go_enter Tryz.func59, Tryz.ntmps59
      go_wp2_with fail
      refine (more_t H.out HK.out).mono ?_
      rintro e w1 ⟨rfl, j, rfl⟩
      go_wp2_with fail
      refine (take_any R A n c bs k x _ (H.out.drewN j) HX.out).mono ?_
      rintro e w1 ⟨rfl, hr, hf⟩
      have HR1 := Lib.hid hr
      have HF1 := Lib.hid (Fr.from _ hf)
      clear hr hf
      go_wp2_with fail
      refine (isOctal_any x _).mono ?_
      rw [HO.out]
      rintro e w2 ⟨rfl, rfl⟩
      go_wp2_with fail
      refine (octal_any R A n c bs x (k + 1) _ HR1.out HO.out).mono ?_
      rintro e w2 ⟨v, k', ⟨rfl, hr, hf⟩, hv, he, hkk⟩
      have HR2 := Lib.hid hr
      have HF2 := Lib.hid (FrR.trans HF1.out hf)
      have HE2 := Lib.hid he
      clear hr hf he
      go_wp2_with fail
      go_ret2
      exact ⟨v, k', true, ⟨rfl, HR2.out, HF2.out⟩, hv, by rw [HE.out, if_pos HO.out, HE2.out]; rfl, by omega⟩
  · have HE := Lib.hid (show escL (bs.drop k) = ([], bs.drop k) by rw [List.drop_eq_nil_of_le (by rw [h.len]; omega)]; rfl)
    have HK := Lib.hid hk
    clear h hk
    go_enter Tryz.func59, Tryz.ntmps59
    go_wp2_with fail
    refine (more_f H.out HK.out).mono ?_
    rintro e w1 ⟨rfl, j, rfl⟩
    go_wp2_with fail
    go_ret2
    exact ⟨0, k, false, ⟨rfl, H.out.drewN _, (Fr.refl _ w).drewN _⟩, by decide, HE.out, Nat.le_refl _⟩
end Go.Proofs.YtdiaijdobglaaaaGreatDoor
