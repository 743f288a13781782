/- lex: skip, comment, gap, regulars. -/
import Derived.Test.YtdiaijdobglaaaaGreatDoorLexB
namespace Go.Proofs.YtdiaijdobglaaaaGreatDoor
open Go.RowKit

section
variable {R : Nat} {A : Option Addr} {n c : Nat} {bs : List Nat} {k : Nat} {w : World}
theorem more_t (h : Rdr w R A n c bs k) (hk : k < n) : Calls Tryz.prog 29 #[.pointer (some ⟨R, 0, none⟩)] w fun e w' => e = .returned (.bool true) ∧ ∃ j, w' = w.drewN j := by
  have := more_any R A n c bs k w h
  rwa [decide_eq_true hk] at this
theorem more_f (h : Rdr w R A n c bs k) (hk : ¬ k < n) : Calls Tryz.prog 29 #[.pointer (some ⟨R, 0, none⟩)] w fun e w' => e = .returned (.bool false) ∧ ∃ j, w' = w.drewN j := by
  have := more_any R A n c bs k w h
  rwa [decide_eq_false hk] at this
end
set_option maxRecDepth 100000 in
theorem skip_yes (R : Nat) (A : Option Addr) (n c : Nat) (bs : List Nat) (k x : Nat) (w : World) (h : Rdr w R A n c bs k) (hx : bs[k]? = some x) :
    Calls Tryz.prog 36 #[.pointer (some ⟨R, 0, none⟩), .int .u8 (x : Int)] w (Moved R A n c bs (k + 1) (.bool true) w) := by
  have hk : k < n := by have := (List.getElem?_eq_some_iff.1 hx).1; rw [h.len] at this; exact this
  obtain ⟨c0, c1, c2, hR⟩ := h.cells
  obtain ⟨B, o, y, rfl, hBR, hB, hc, hy, hy2⟩ := h.at_ hk
  obtain rfl : x = y := by rw [hx] at hy; injection hy
  have hcap := h.bytes.cap
  have htop := h.bytes.top
  have hsm := h.small
  have H := Lib.hid h
  have i0 : (0 : Int) ≤ (k : Int) := by omega
  have i1 : (k : Int) < (n : Int) := by omega
  have e1 : ((x : Int) == (x : Int)) = true := by simp
  have e2 : ((x : Int) != (x : Int)) = false := by simp
  have HK := Lib.hid hk
  clear h hx hy
  go_enter Tryz.func36, Tryz.ntmps36
  go_wp2_with fail
  go_quiet ((go_at_call 29; exact Calls.quiet_of (more_t (H.out.drewN _) HK.out)))
  go_wp2_with fail
  go_ret
  exact ⟨rfl, (H.out.drewN _).set (by omega) (by omega), ((Fr.refl _ w).drewN _).setB 1 _⟩
set_option maxRecDepth 100000 in
theorem skip_no (R : Nat) (A : Option Addr) (n c : Nat) (bs : List Nat) (k x : Nat) (w : World) (h : Rdr w R A n c bs k) (hx : bs[k]? ≠ some x) :
    Calls Tryz.prog 36 #[.pointer (some ⟨R, 0, none⟩), .int .u8 (x : Int)] w (Moved R A n c bs k (.bool false) w) := by
  obtain ⟨c0, c1, c2, hR⟩ := h.cells
  by_cases hk : k < n
  · obtain ⟨B, o, y, rfl, hBR, hB, hc, hy, hy2⟩ := h.at_ hk
    have hne : y ≠ x := by rintro rfl; exact hx hy
    have hcap := h.bytes.cap
    have htop := h.bytes.top
    have hsm := h.small
    have H := Lib.hid h
    have i0 : (0 : Int) ≤ (k : Int) := by omega
    have i1 : (k : Int) < (n : Int) := by omega
    have e1 : ((y : Int) == (x : Int)) = false := by simp; omega
    have e2 : ((y : Int) != (x : Int)) = true := by simp; omega
    have HK := Lib.hid hk
    clear h hx hy
    go_enter Tryz.func36, Tryz.ntmps36
    go_wp2_with fail
    go_quiet ((go_at_call 29; exact Calls.quiet_of (more_t (H.out.drewN _) HK.out)))
    go_wp2_with fail
    go_ret
    exact ⟨rfl, H.out.drewN _, (Fr.refl _ w).drewN _⟩
  · have H := Lib.hid h
    have HK := Lib.hid hk
    clear h hx hk
    go_enter Tryz.func36, Tryz.ntmps36
    go_wp2_with fail
    go_quiet ((go_at_call 29; exact Calls.quiet_of (more_f (H.out.drewN _) HK.out)))
    go_wp2_with fail
    go_ret
    exact ⟨rfl, H.out.drewN _, (Fr.refl _ w).drewN _⟩
set_option maxRecDepth 100000 in
set_option maxHeartbeats 4000000 in
theorem comment_any (R : Nat) (A : Option Addr) (n c : Nat) (bs : List Nat) (k : Nat) (w : World) (h : Rdr w R A n c bs k) :
    Calls Tryz.prog 54 #[.pointer (some ⟨R, 0, none⟩)] w fun e w' => ∃ k', Moved R A n c bs k' (.tuple #[]) w e w' ∧ comL (bs.drop k) = bs.drop k' ∧ k ≤ k' := by
  have H := Lib.hid h
  have hle := h.le
  clear h
  go_enter Tryz.func54, Tryz.ntmps54
  go_wp2_with fail
  go_loopg [2] (n - k) (fun g _ wr => ∃ k' : Nat, g + k' = n ∧ k ≤ k' ∧ Hid (Rdr wr R A n c bs k') ∧ Hid (comL (bs.drop k) = comL (bs.drop k')) ∧ Hid (FrR R w wr))
  case atStart => exact ⟨k, by omega, by omega, H, Lib.hid rfl, Lib.hid (Fr.refl _ _)⟩
  case round =>
    obtain ⟨k', hg, hkk, HR, HC, HF⟩ := hrel
    obtain ⟨c0, c1, c2, hRl⟩ := HR.out.cells
    by_cases hk : k' < n
    · obtain ⟨B, o, x, rfl, hBR, hB, hc, hx, hx2⟩ := HR.out.at_ hk
      have hcap := HR.out.bytes.cap
      have htop := HR.out.bytes.top
      have hsm := HR.out.small
      have i0 : (0 : Int) ≤ (k' : Int) := by omega
      have i1 : (k' : Int) < (n : Int) := by omega
      have HK := Lib.hid hk
      have HX := Lib.hid hx
      clear hx
      by_cases h10 : x = 10
      · have e1 : ((x : Int) == 10) = true := by simp; omega
        have e2 : ((x : Int) != 10) = false := by simp; omega
        have HE := Lib.hid (com_stop HX.out (.inl h10))
        clear h10
        go_wp2_with fail
        go_quiet ((go_at_call 29; exact Calls.quiet_of (more_t (HR.out.drewN _) HK.out)))
        go_wp2_with fail
        go_end0
        exact ⟨k', ⟨rfl, HR.out.drewN _, HF.out.drewN _⟩, by rw [HC.out, HE.out], hkk⟩
      have e1 : ((x : Int) == 10) = false := by simp; omega
      have e2 : ((x : Int) != 10) = true := by simp; omega
      by_cases h13 : x = 13
      · have e3 : ((x : Int) == 13) = true := by simp; omega
        have e4 : ((x : Int) != 13) = false := by simp; omega
        have HE := Lib.hid (com_stop HX.out (.inr h13))
        clear h13 h10
        go_wp2_with fail
        go_quiet ((go_at_call 29; exact Calls.quiet_of (more_t (HR.out.drewN _) HK.out)))
        go_wp2_with fail
        go_end0
        exact ⟨k', ⟨rfl, HR.out.drewN _, HF.out.drewN _⟩, by rw [HC.out, HE.out], hkk⟩
      have e3 : ((x : Int) == 13) = false := by simp; omega
      have e4 : ((x : Int) != 13) = true := by simp; omega
      have HE := Lib.hid (com_go HX.out (by omega))
      clear h13 h10
      go_wp2_with fail
      go_quiet ((go_at_call 29; exact Calls.quiet_of (more_t (HR.out.drewN _) HK.out)))
      go_wp2_with fail
      go_roundg (gk - 1)
      case measure => omega
      case rel => exact ⟨k' + 1, by omega, by omega, Lib.hid ((HR.out.drewN _).set (by omega) (by omega)), Lib.hid (by rw [HC.out, HE.out]), Lib.hid ((HF.out.drewN _).setB 1 _)⟩
    · have HK := Lib.hid hk
      have HE := Lib.hid (com_nil (l := bs.drop k') (by rw [List.length_drop, HR.out.len]; omega))
      clear hk
      go_wp2_with fail
      go_quiet ((go_at_call 29; exact Calls.quiet_of (more_f (HR.out.drewN _) HK.out)))
      go_wp2_with fail
      go_end0
      exact ⟨k', ⟨rfl, HR.out.drewN _, HF.out.drewN _⟩, by rw [HC.out, HE.out], hkk⟩
end Go.Proofs.YtdiaijdobglaaaaGreatDoor
