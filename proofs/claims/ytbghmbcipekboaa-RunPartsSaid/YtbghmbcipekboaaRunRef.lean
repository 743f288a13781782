/- The reference's same, Put and Get of layer 11: walks. -/
import Derived.Test.YtbghmbcipekboaaRunA
import Derived.Test.YtbghmbcipekboaaByteStr
namespace Go.Proofs.Ytbghmbcipekboaa
open Go.RowKit

set_option maxRecDepth 100000 in
set_option maxHeartbeats 2000000 in
theorem same_any (A : Option Addr) (n c p : Nat) (bs : List Nat) (w : World) (h : Bytes w A n c bs) (hp : p ≤ n) (hn : n ≤ 1048576) :
    Calls Try.prog 14 #[.slice A n c, .int .i64 p] w (Told (.int .i64 (rep (bs.drop p))) w) := by
  have hl := h.len
  have hcap := h.cap
  have htop := h.top
  have H := Lib.hid h
  have hrl := rep_min (bs.drop p)
  have hdl : (bs.drop p).length = bs.length - p := List.length_drop ..
  obtain rfl := hl
  obtain ⟨d, hd⟩ : ∃ d, d = bs.drop p := ⟨_, rfl⟩
  rw [← hd] at hrl hdl ⊢
  have hrl2 : rep d ≤ bs.length - p := by omega
  have hrl3 : rep d ≤ 128 := by omega
  have HD := Lib.hid hd
  have HDL := Lib.hid hdl
  clear h hdl hd hrl
  go_enter Try.func14, Try.ntmps14
  go_wp2
  go_loopw [5] (fun x wr => ∃ k j : Nat, k ≤ rep d ∧ x = .int .i64 k ∧ wr = w.drewN j) (fun x _ => 128 - (intOf x).toNat)
  case atStart => exact ⟨0, 0, by omega, rfl, rfl⟩
  case round =>
    obtain ⟨k, j, hk, rfl, rfl⟩ := hrel
    have wr1 : IntKind.i64.wrap ((p : Int) + (k : Int)) = (p : Int) + (k : Int) := IntWalk.i64_in _ (by omega)
    by_cases h1 : k < 128
    · have d1 : decide ((k : Int) < 128) = true := by simp; omega
      by_cases h2 : p + k < bs.length
      · have d2 : decide ((p : Int) + (k : Int) < (bs.length : Int)) = true := by simp; omega
        obtain ⟨R, o, hA, hR, hcell⟩ := H.out.at_ (by omega)
        obtain ⟨x, hx⟩ : ∃ x, bs[p]? = some x := ⟨bs[p], List.getElem?_eq_getElem (by omega)⟩
        obtain ⟨y, hy⟩ : ∃ y, bs[p + k]? = some y := ⟨bs[p + k], List.getElem?_eq_getElem h2⟩
        have c0 := hcell p x hx
        have ck := hcell (p + k) y hy
        have hx' : d[0]? = some x := by rw [HD.out, List.getElem?_drop]; exact hx
        have hy' : d[k]? = some y := by rw [HD.out, List.getElem?_drop]; exact hy
        have HU := Lib.hid (rep_up hk (by rw [HDL.out]; omega) hx' hy')
        have HA := Lib.hid hA
        have hpb : (p : Int) < (bs.length : Int) := by omega
        have hpk : (p : Int) + (k : Int) < (bs.length : Int) := by omega
        have hpk0 : (0 : Int) ≤ (p : Int) + (k : Int) := by omega
        have hpkn : ((p : Int) + (k : Int)).toNat = p + k := by omega
        clear hcell hx hy hA hx' hy'
        obtain rfl := HA.out
        by_cases he : y = x
        · have hk1 := HU.out.1 he
          subst he
          go_wp2
          go_quiet (fail)
          go_wp2
          go_roundw
          case rel => exact ⟨k + 1, j + _, hk1, by go_num, rfl⟩
          case measure => simp [intOf]; omega
        · have hk1 := Lib.hid (HU.out.2 he)
          have hq : ((y : Int) == (x : Int)) = false := by simp; omega
          go_wp2
          go_quiet (fail)
          go_wp2
          go_ret
          exact ⟨ret_int (congrArg Int.ofNat hk1.out), _, World.drewN_drewN ..⟩
      · have d2 : decide ((p : Int) + (k : Int) < (bs.length : Int)) = false := by simp; omega
        have hk1 := Lib.hid (show k = rep d by omega)
        go_wp2
        go_quiet (fail)
        go_wp2
        go_ret
        exact ⟨ret_int (congrArg Int.ofNat hk1.out), _, World.drewN_drewN ..⟩
    · have d1 : decide ((k : Int) < 128) = false := by simp; omega
      have hk1 := Lib.hid (show k = rep d by omega)
      go_wp2
      go_quiet (fail)
      go_wp2
      go_ret
      exact ⟨ret_int (congrArg Int.ofNat hk1.out), _, World.drewN_drewN ..⟩
end Go.Proofs.Ytbghmbcipekboaa
