/- run's repeated and single, and the reference's same: walks. -/
import Derived.Test.YtbghmbcipekboaaRunMath
import Derived.Test.YtbghmbcipekboaaByteRow
import Derived.BigRegion
import Derived.BigQuiet
import Derived.Deep.QuietTactic
import Derived.RegionTactic
import Derived.IntWalk
import Derived.LoopTactic
import Derived.Deep.LoopGhost
namespace Go.Proofs.Ytbghmbcipekboaa
open Go.RowKit

theorem Bytes.drewN {w : World} {A : Option Addr} {n c : Nat} {bs : List Nat} (h : Bytes w A n c bs) (j : Nat) : Bytes (w.drewN j) A n c bs := ⟨h.len, h.cap, h.top, h.byte, h.at_⟩
/-- What a reading call answers: a number; draws alone have gone by. -/
def Told (v : Value) (w : World) (e : Ending) (w' : World) : Prop := e = .returned v ∧ ∃ j, w' = w.drewN j
theorem ret_int {k : IntKind} {a b : Int} (h : a = b) : Ending.returned (.int k a) = .returned (.int k b) := by rw [h]
theorem rep_min (bs : List Nat) : rep bs ≤ min bs.length 128 := by have := rep_le bs; omega
theorem rep_up {bs : List Nat} {k : Nat} (hk : k ≤ rep bs) (hlt : k < min bs.length 128) {x y : Nat} (hx : bs[0]? = some x) (hy : bs[k]? = some y) : (y = x → k + 1 ≤ rep bs) ∧ (y ≠ x → k = rep bs) := by
  cases bs with
  | nil => simp at hx
  | cons z l =>
    simp at hx
    subst hx
    rw [rep_cons] at hk ⊢
    refine ⟨fun e => ?_, fun e => ?_⟩
    · subst e
      have := lead_step y (y :: l) k (by omega) hy
      omega
    · rcases Nat.lt_or_ge k (lead z (z :: l)) with h | h
      · rw [lead_at z _ _ h] at hy
        injection hy with hy
        exact absurd hy.symm e
      · omega
set_option maxRecDepth 100000 in
set_option maxHeartbeats 2000000 in
theorem repeated_any (A : Option Addr) (n c : Nat) (bs : List Nat) (w : World) (h : Bytes w A n c bs) :
    Calls Try.prog 17 #[.slice A n c] w (Told (.int .i64 (rep bs)) w) := by
  have hl := h.len
  have hcap := h.cap
  have htop := h.top
  have H := Lib.hid h
  have hrl := rep_min bs
  obtain rfl := hl
  clear h
  have hif : (if (128 : Int) < (bs.length : Int) then (128 : Int) else (bs.length : Int)) = ((min bs.length 128 : Nat) : Int) := by split <;> omega
  go_enter Try.func17, Try.ntmps17
  go_wp2
  go_loopw [3] (fun x wr => ∃ k j : Nat, k ≤ rep bs ∧ x = .int .i64 k ∧ wr = w.drewN j) (fun x _ => bs.length - (intOf x).toNat)
  case atStart => exact ⟨0, 0, by omega, rfl, rfl⟩
  case round =>
    obtain ⟨k, j, hk, rfl, rfl⟩ := hrel
    by_cases hlt : k < min bs.length 128
    · have hkl : k < bs.length := by omega
      obtain ⟨R, o, hA, hR, hcell⟩ := H.out.at_ (by omega)
      obtain ⟨x, hx⟩ : ∃ x, bs[0]? = some x := ⟨bs[0], List.getElem?_eq_getElem (by omega)⟩
      obtain ⟨y, hy⟩ : ∃ y, bs[k]? = some y := ⟨bs[k], List.getElem?_eq_getElem hkl⟩
      have c0 := hcell 0 x hx
      rw [Nat.add_zero] at c0
      have ck := hcell k y hy
      have HU := Lib.hid (rep_up hk hlt hx hy)
      have HA := Lib.hid hA
      clear hcell hx hy hA
      obtain rfl := HA.out
      have hd : decide ((k : Int) < ((min bs.length 128 : Nat) : Int)) = true := by simp; omega
      by_cases he : y = x
      · have hk1 := HU.out.1 he
        subst he
        go_wp2
        go_quiet (fail)
        go_wp2
        go_roundw
        case rel => exact ⟨k + 1, j + _, hk1, by go_num, rfl⟩
        case measure => simp [intOf]; omega
      · have hk1 := Lib.hid (HU.out.2 he)
        have hq : ((y : Int) == (x : Int)) = false := by simp; omega
        go_wp2
        go_quiet (fail)
        go_wp2
        go_ret
        exact ⟨ret_int (congrArg Int.ofNat hk1.out), _, World.drewN_drewN ..⟩
    · have hd : decide ((k : Int) < ((min bs.length 128 : Nat) : Int)) = false := by simp; omega
      obtain rfl : k = rep bs := by omega
      go_wp2
      go_quiet (fail)
      go_wp2
      go_ret
      exact ⟨rfl, _, World.drewN_drewN ..⟩
theorem Bytes.tail {w : World} {R o n c k : Nat} {bs : List Nat} (h : Bytes w (some ⟨R, o, none⟩) n c bs) (hk : k < n) : Bytes w (some ⟨R, o + k, none⟩) (n - k) (c - k) (bs.drop k) := by
  have hl := h.len
  have hcap := h.cap
  have htop := h.top
  refine ⟨by rw [List.length_drop, hl], by omega, by omega, fun b hb => h.byte b (List.mem_of_mem_drop hb), fun _ => ?_⟩
  obtain ⟨R', o', e, hR, hc⟩ := h.at_ (by omega)
  injection e with e
  injection e with e1 e2
  subst e1 e2
  refine ⟨R, o + k, rfl, hR, fun i b hb => ?_⟩
  rw [List.getElem?_drop] at hb
  rw [show o + k + i = o + (k + i) by omega]
  exact hc _ _ hb
set_option maxRecDepth 100000 in
set_option maxHeartbeats 2000000 in
theorem single_any (A : Option Addr) (n c : Nat) (bs : List Nat) (w : World) (h : Bytes w A n c bs) :
    Calls Try.prog 18 #[.slice A n c] w (Told (.int .i64 (sgl bs)) w) := by
  have hl := h.len
  have hcap := h.cap
  have htop := h.top
  have H := Lib.hid h
  have hrl := sgl_le bs
  obtain rfl := hl
  clear h
  have hif : (if (128 : Int) < (bs.length : Int) then (128 : Int) else (bs.length : Int)) = ((min bs.length 128 : Nat) : Int) := by split <;> omega
  go_enter Try.func18, Try.ntmps18
  go_wp2
  go_loopw [3] (fun x wr => ∃ k j : Nat, k ≤ sgl bs ∧ x = .int .i64 k ∧ wr = w.drewN j) (fun x _ => bs.length - (intOf x).toNat)
  case atStart => exact ⟨0, 0, by omega, rfl, rfl⟩
  case round =>
    obtain ⟨k, j, hk, rfl, rfl⟩ := hrel
    by_cases hlt : k < min bs.length 128
    · have hkl : k < bs.length := by omega
      obtain ⟨R, o, hA, hR, hcell⟩ := H.out.at_ (by omega)
      have HA := Lib.hid hA
      clear hcell hA
      obtain rfl := HA.out
      have HB := Lib.hid (H.out.tail hkl)
      have hd : decide ((k : Int) < ((min bs.length 128 : Nat) : Int)) = true := by simp; omega
      by_cases hr : rep (bs.drop k) < 2
      · have hk1 := sgl_step hk (by omega) hkl hr
        have hr2 : decide ((rep (bs.drop k) : Int) < 2) = true := by simp; omega
        go_wp2_with fail
        refine (repeated_any _ _ _ _ _ (HB.out.drewN _)).mono ?_
        rintro e w1 ⟨rfl, q, rfl⟩
        go_wp2
        go_roundw
        case rel => exact ⟨k + 1, j + q, hk1, by go_num, rfl⟩
        case measure => simp [intOf]; omega
      · have hk1 := Lib.hid (sgl_stop hk hr)
        have hr2 : decide ((rep (bs.drop k) : Int) < 2) = false := by simp; omega
        go_wp2_with fail
        refine (repeated_any _ _ _ _ _ (HB.out.drewN _)).mono ?_
        rintro e w1 ⟨rfl, q, rfl⟩
        go_wp2
        go_ret
        exact ⟨ret_int (congrArg Int.ofNat hk1.out), j + q, rfl⟩
    · have hd : decide ((k : Int) < ((min bs.length 128 : Nat) : Int)) = false := by simp; omega
      obtain rfl : k = sgl bs := by omega
      go_wp2
      go_ret
      exact ⟨rfl, _, rfl⟩
end Go.Proofs.Ytbghmbcipekboaa
