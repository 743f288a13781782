/- The reference's bits as bytes: the walk. -/
import Derived.Test.YtaophopgmmjbeaaBitsRefB
namespace Go.Proofs.Ytaophopgmmjbeaa
open Go.RowKit

/-- What the reference's Bytes answers. -/
def XBytes (M m : Nat) (w : World) (e : Ending) (w' : World) : Prop :=
  ∃ g, e = .returned (.slice (some ⟨g, 0, none⟩) ((m + 7) / 8) ((m + 7) / 8)) ∧ w.heap.size ≤ g ∧ Whole w' g 5 (rowB (M % 2 ^ m) ((m + 7) / 8) ((m + 7) / 8)) ∧ Below w.heap.size w w'
theorem hiB_top (M m : Nat) : hiB (M % 2 ^ m) m = 0 := by
  unfold hiB
  rw [Nat.div_eq_of_lt (Nat.mod_lt _ (Nat.two_pow_pos m)), Nat.zero_mul]
theorem hiB_low (M : Nat) : hiB M 0 = M := by simp [hiB]
theorem hi_put (X i : Nat) (h : X.testBit i = true) : digit (hiB X i) (i / 8) = digit (hiB X (i + 1)) (i / 8) + 2 ^ (i % 8) ∧ ∀ j, j ≠ i / 8 → digit (hiB X i) j = digit (hiB X (i + 1)) j := by
  have hd := digit_put (X / 2 ^ (i + 1)) (i / 8) (i % 8) (by omega)
  rw [Nat.div_add_mod] at hd
  rw [hiB_step, h, if_pos rfl, show hiB X (i + 1) = 2 ^ (i + 1) * (X / 2 ^ (i + 1)) from Nat.mul_comm _ _]
  exact hd
set_option maxRecDepth 100000 in
set_option maxHeartbeats 4000000 in
theorem xb_any (A : Option Addr) (m c M : Nat) (w : World) (h : Bls w A m c M) (hm : m ≤ 10000) :
    Calls Try.prog 24 #[.slice A m c] w (XBytes M m w) := by
  have hcap := h.cap
  have H := Lib.hid h
  have hdiv : (m : Int) + 7 = ((m + 7 : Nat) : Int) := by omega
  have hmk := fun W => run_make_row' (P := Try.prog) 22 5 (.int .u8 0) 1 Try.underlying22 (by kernel_rfl) rfl .i64 .i64 ((m + 7) / 8) (by omega) (by omega) W
  have hmk2 : ∀ W : World, (Instr.makeSlice 22 (.int .i64 (((m : Int) + 7) / 8)) (.int .i64 (((m : Int) + 7) / 8))).run Try.prog W = .ok (.slice (some ⟨W.heap.size, 0, none⟩) ((m + 7) / 8) ((m + 7) / 8)) (W.alloc (.cells (madeCells #[.int .u8 0] ((m + 7) / 8)) 5)) := by
    intro W
    have e : ((m : Int) + 7) / 8 = (((m + 7) / 8 : Nat) : Int) := by omega
    rw [e]
    exact hmk W
  clear h hmk hdiv
  go_enter Try.func24, Try.ntmps24
  go_wp2
  go_loopw [4, 5, 6] (fun y _ _ wr => ∃ i : Nat, i ≤ m ∧ y = .int .i64 ((i : Int) - 1) ∧ Whole wr w.heap.size 5 (rowB (hiB (M % 2 ^ m) i) ((m + 7) / 8) ((m + 7) / 8)) ∧ Below w.heap.size w wr) (fun y _ _ _ => (intOf y + 1).toNat)
  case atStart =>
    refine ⟨m, Nat.le_refl _, rfl, ?_, (Below.refl _ _).alloc (Nat.le_refl _) _⟩
    rw [hiB_top, ← rowB_all, ← rowB_zero]
    exact Whole.made _ _ _
  case round =>
    obtain ⟨i, hi, rfl, hw, hb⟩ := hrel
    have HW := Lib.hid (And.intro hw hb)
    clear hw hb
    by_cases hlt : 0 < i
    · obtain ⟨i, rfl⟩ : ∃ k, i = k + 1 := ⟨i - 1, by omega⟩
      obtain ⟨R, o, hA, hR, hcell⟩ := H.out.at_ (by omega)
      have hc := (HW.out.2.cell (p := ⟨R, o + i, none⟩) hR).trans (hcell i (by omega))
      have hbt : (M % 2 ^ m).testBit i = M.testBit i := by
        rw [Nat.testBit_mod_two_pow]; simp; omega
      have HBT := Lib.hid hbt
      have HA := Lib.hid hA
      clear hcell hA hbt
      obtain rfl := HA.out
      rw [show ((i + 1 : Nat) : Int) - 1 = i by omega]
      cases hbit : M.testBit i with
      | true =>
        rw [hbit] at hc
        have HB := Lib.hid hbit
        clear hbit
        obtain ⟨wo, rfl⟩ : ∃ wo : World, wo = wr := ⟨_, rfl⟩
        go_wp2
        go_loop [5, 6] (fun x y => ∃ k : Nat, k ≤ i % 8 ∧ y = .int .i64 k ∧ x = .int .i64 (2 ^ k : Nat)) (fun _ y => 8 - (intOf y).toNat)
        case atStart => exact ⟨0, by omega, rfl, rfl⟩
        case round =>
          obtain ⟨k, hk, rfl, rfl⟩ := hrel
          have h128 : 2 ^ k ≤ 2 ^ 7 := Nat.pow_le_pow_right (by omega) (by omega)
          by_cases hk8 : k < i % 8
          · have hk9 : decide ((k : Int) < (i : Int) % 8) = true := by rw [decide_eq_true_iff]; omega
            have hpw : 2 ^ (k + 1) = 2 * 2 ^ k := by rw [Nat.pow_succ, Nat.mul_comm]
            have HP := Lib.hid hpw
            clear hpw
            generalize 2 ^ k = z at *
            go_wp2
            go_round
            case rel => exact ⟨k + 1, by omega, by go_num, by rw [HP.out]; exact congrArg (Value.int .i64) (by omega)⟩
            case measure => simp [intOf]; omega
          · obtain rfl : k = i % 8 := by omega
            have hk9 : decide (((i % 8 : Nat) : Int) < (i : Int) % 8) = false := by rw [decide_eq_false_iff_not]; omega
            obtain ⟨hp1, hp2⟩ := hi_put (M % 2 ^ m) i (by rw [HBT.out]; exact HB.out)
            have hd1 := digit_lt (hiB (M % 2 ^ m) i) (i / 8)
            have cg : wo.cell? ⟨w.heap.size, i / 8, none⟩ = some (.int .u8 (digit (hiB (M % 2 ^ m) (i + 1)) (i / 8))) := by
              rw [HW.out.1.reads, rowB_at _ _ _ _ (by omega), if_pos (by omega)]
            have fg := HW.out.1.thawed (i / 8)
            have HP := Lib.hid (And.intro hp1 hp2)
            rw [hp1] at hd1
            clear hp1 hp2
            generalize 2 ^ (i % 8) = z at *
            generalize digit (hiB (M % 2 ^ m) (i + 1)) (i / 8) = y at *
            go_wp2
            go_roundw
            case rel =>
              refine ⟨i, by omega, rfl, ?_, HW.out.2.setCell (by simp) _⟩
              have hset := HW.out.1.set (i / 8) (.int .u8 (digit (hiB (M % 2 ^ m) i) (i / 8)))
              rw [rowB_put _ (hiB (M % 2 ^ m) i) _ _ HP.out.2, HP.out.1] at hset
              have e : ((y + z : Nat) : Int) = (y : Int) + z := by omega
              rw [← e]
              exact hset
            case measure => simp [intOf]
      | false =>
        rw [hbit] at hc
        have HB := Lib.hid hbit
        clear hbit
        go_wp2
        go_roundw
        case rel =>
          refine ⟨i, by omega, rfl, ?_, HW.out.2⟩
          have e : hiB (M % 2 ^ m) i = hiB (M % 2 ^ m) (i + 1) := by
            rw [hiB_step, HBT.out, HB.out]; simp
          rw [e]; exact HW.out.1
        case measure => simp [intOf]
    · obtain rfl : i = 0 := by omega
      go_wp2
      go_ret
      refine ⟨_, rfl, Nat.le_refl _, ?_, HW.out.2⟩
      have := HW.out.1
      rwa [hiB_low] at this
theorem Bls.zero (w : World) (A : Option Addr) (c N : Nat) (hc : c ≤ 9223372036854775807) : Bls w A 0 c N := ⟨Nat.zero_le _, hc, fun h => absurd h (by omega)⟩
theorem xbytes_bad (X : Nat) (k : Int) (w : World) (hk : k < 0) :
    Calls Try.prog 16 #[.pointer (some ⟨X, 0, none⟩), .int .i64 k] w fun e w' => e = .returned (.tuple #[.slice none 0 0, .int .i64 1]) ∧ w = w' := by
  go_enter Try.func16, Try.ntmps16
  go_wp2
  go_ret2
  exact ⟨rfl, rfl⟩
/-- What the reference's Bytes of a reader answers where there are too few. -/
def XFew (X R N n p c : Nat) (A : Option Addr) (w : World) (e : Ending) (w' : World) : Prop := e = .returned (.tuple #[.slice none 0 0, .int .i64 6]) ∧ XR w' X R N n (up8 p) A c ∧ Fr (fun j => j = X) w w'
theorem xbytes_more (X R N n p c : Nat) (k : Nat) (A : Option Addr) (w : World) (h : XR w X R N n p A c) (hn : n % 8 = 0) (hL : n < up8 p + 8 * k) :
    Calls Try.prog 16 #[.pointer (some ⟨X, 0, none⟩), .int .i64 k] w (XFew X R N n p c A w) := by
  have H := Lib.hid h
  clear h
  go_enter Try.func16, Try.ntmps16
  go_wp2_with fail
  refine (xalign_any _ _ _ _ _ _ _ _ H.out hn).mono ?_
  rintro e w1 ⟨rfl, hr, hf⟩
  obtain ⟨c0, c1, f1⟩ := hr.cells
  have htop := hr.top
  have hle := hr.le
  have d1 : decide (((n : Int) - up8 p) / 8 < k) = true := by rw [decide_eq_true_iff]; omega
  have HR := Lib.hid (And.intro hr hf)
  clear hr hf
  go_wp2_with fail
  go_quiet (fail)
  go_wp2
  go_ret2
  exact ⟨rfl, HR.out.1.drewN _, HR.out.2.drewN _⟩
/-- What the reference's Bytes of a reader answers. -/
def XGot (X R N n p c k : Nat) (A : Option Addr) (w : World) (e : Ending) (w' : World) : Prop :=
  ∃ g, e = .returned (.tuple #[.slice (some ⟨g, 0, none⟩) k k, .int .i64 0]) ∧ w.heap.size ≤ g ∧ Whole w' g 5 (rowB (N / 2 ^ up8 p % 2 ^ (8 * k)) k k) ∧ XR w' X R N n (up8 p + 8 * k) A c ∧ Fr (fun j => j = X) w w'
set_option maxRecDepth 100000 in
set_option maxHeartbeats 4000000 in
theorem xbytes_any (X R N n p c k : Nat) (A : Option Addr) (w : World) (h : XR w X R N n p A c) (hn : n % 8 = 0) (hn1 : n ≤ 10000) (hL : up8 p + 8 * k ≤ n) (hR : R < w.heap.size) (hX : X < w.heap.size) :
    Calls Try.prog 16 #[.pointer (some ⟨X, 0, none⟩), .int .i64 k] w (XGot X R N n p c k A w) := by
  have H := Lib.hid h
  clear h
  go_enter Try.func16, Try.ntmps16
  go_wp2_with fail
  refine (xalign_any _ _ _ _ _ _ _ _ H.out hn).mono ?_
  rintro e w1 ⟨rfl, hr, hf⟩
  obtain ⟨c0, c1, f1⟩ := hr.cells
  have htop := hr.top
  have hle := hr.le
  have hcap := hr.cap
  have hsz := hf.size
  have d1 : decide (((n : Int) - up8 p) / 8 < k) = false := by rw [decide_eq_false_iff_not]; omega
  have hrow := hr.row
  obtain ⟨q, hq⟩ : ∃ q, up8 p = q := ⟨_, rfl⟩
  rw [hq] at hr hL hle c1 d1
  have HR := Lib.hid (And.intro hr hf)
  have HQ := Lib.hid hq
  clear hr hf hq
  rcases hrow with ⟨rfl, rfl, rfl⟩ | ⟨rfl, -⟩
  · obtain rfl : q = 0 := by omega
    obtain rfl : k = 0 := by omega
    go_wp2_with fail
    go_quiet (fail)
    go_wp2_with fail
    have HW := Lib.hid ((HR.out.1.drewN nq).moved (p' := 0) (by omega) (x := 0) (by omega))
    obtain ⟨d0, d1, -⟩ := HW.out.cells
    have HF := Lib.hid (Fr.trans HR.out.2 (Fr.setB (Fr.drewN (Fr.refl (fun j => j = X) w1) nq) 1 (.int .i64 (0))) (fun _ _ e => e))
    have hs2 := HF.out.size
    generalize (w1.drewN nq).setCell ⟨X, 1, none⟩ (.int .i64 (0)) = W2 at *
    have hw0 : IntKind.i64.wrap 0 = 0 := IntWalk.i64_in _ (by omega)
    go_still_tail 16, (by kernel_rfl)
    go_wp2_with fail
    refine (xb_any _ 0 _ (N / 2 ^ 0) _ (Bls.zero _ _ _ _ ?hc1) (by omega)).mono ?_
    case hc1 => omega
    rintro e w3 ⟨g, rfl, hg, hw, hb⟩
    rw [show (0 + 7) / 8 = 0 from rfl] at hw ⊢
    have hb2 : Below W2.heap.size W2 w3 := ⟨hb.os, hb.tape, hb.output, hb.size, hb.block⟩
    have H3 := Lib.hid (And.intro hw hb2)
    clear hw hb
    go_wp2
    go_ret2
    have hX2 : ¬ W2.heap.size ≤ X := by omega
    have hR2 : ¬ W2.heap.size ≤ R := by omega
    unfold XGot
    rw [HQ.out]
    exact ⟨g, rfl, Nat.le_trans hs2 hg, H3.out.1, HW.out.frame (Fr.of_below H3.out.2) hX2 hR2, HF.out.trans (Fr.of_below H3.out.2) (fun j hj e => absurd (Nat.lt_of_lt_of_le hj hs2) (Nat.not_lt.2 e))⟩
  · by_cases hcp : c = q
    · obtain rfl : k = 0 := by omega
      go_wp2_with fail
      go_quiet (fail)
      go_wp2_with fail
      have HW := Lib.hid ((HR.out.1.drewN nq).moved (p' := q + 8 * 0) (by omega) (x := (q : Int)) (by omega))
      obtain ⟨d0, d1, -⟩ := HW.out.cells
      have HF := Lib.hid (Fr.trans HR.out.2 (Fr.setB (Fr.drewN (Fr.refl (fun j => j = X) w1) nq) 1 (.int .i64 ((q : Int)))) (fun _ _ e => e))
      have hs2 := HF.out.size
      generalize (w1.drewN nq).setCell ⟨X, 1, none⟩ (.int .i64 ((q : Int))) = W2 at *
      have b0 : (0 : Int) ≤ (q : Int) := by omega
      have b2 : (q : Int) ≤ (c : Int) := by omega
      have hw1 : IntKind.i64.wrap (q : Int) = q := IntWalk.i64_in _ (by omega)
      have hw0 : IntKind.i64.wrap 0 = 0 := IntWalk.i64_in _ (by omega)
      go_still_tail 16, (by kernel_rfl)
      go_wp2_with fail
      refine (xb_any _ 0 _ (N / 2 ^ q) _ (Bls.zero _ _ _ _ ?hc2) (by omega)).mono ?_
      case hc2 => omega
      rintro e w3 ⟨g, rfl, hg, hw, hb⟩
      rw [show (0 + 7) / 8 = 0 from rfl] at hw ⊢
      have hb2 : Below W2.heap.size W2 w3 := ⟨hb.os, hb.tape, hb.output, hb.size, hb.block⟩
      have H3 := Lib.hid (And.intro hw hb2)
      clear hw hb
      go_wp2
      go_ret2
      have hX2 : ¬ W2.heap.size ≤ X := by omega
      have hR2 : ¬ W2.heap.size ≤ R := by omega
      unfold XGot
      rw [HQ.out]
      exact ⟨g, rfl, Nat.le_trans hs2 hg, H3.out.1, HW.out.frame (Fr.of_below H3.out.2) hX2 hR2, HF.out.trans (Fr.of_below H3.out.2) (fun j hj e => absurd (Nat.lt_of_lt_of_le hj hs2) (Nat.not_lt.2 e))⟩
    · go_wp2_with fail
      go_quiet (fail)
      go_wp2_with fail
      have HW := Lib.hid ((HR.out.1.drewN nq).moved (p' := q + 8 * k) (by omega) (x := (q : Int) + 8 * k) (by omega))
      obtain ⟨d0, d1, -⟩ := HW.out.cells
      have HF := Lib.hid (Fr.trans HR.out.2 (Fr.setB (Fr.drewN (Fr.refl (fun j => j = X) w1) nq) 1 (.int .i64 ((q : Int) + 8 * k))) (fun _ _ e => e))
      have hs2 := HF.out.size
      generalize (w1.drewN nq).setCell ⟨X, 1, none⟩ (.int .i64 ((q : Int) + 8 * k)) = W2 at *
      have b0 : (0 : Int) ≤ (q : Int) := by omega
      have b1 : (q : Int) ≤ (q : Int) + 8 * k := by omega
      have b2 : (q : Int) + 8 * k ≤ (c : Int) := by omega
      have b3 : (0 : Int) ≤ (q : Int) + 8 * k := by omega
      have hw1 : IntKind.i64.wrap (q : Int) = q := IntWalk.i64_in _ (by omega)
      have hw2 : IntKind.i64.wrap (8 * (k : Int)) = 8 * k := IntWalk.i64_in _ (by omega)
      have tn : ((q : Int) + 8 * k).toNat = q + 8 * k := by omega
      go_still_tail 16, (by kernel_rfl)
      go_wp2_with fail
      refine (xb_any _ _ _ (N / 2 ^ q) _ ((HW.out.frame (Fr.drew (Fr.refl (fun _ => False) _)) (fun h => h) (fun h => h)).part q (8 * k) hL ⟨by omega, by omega⟩ (fun _ => rfl)) (by omega)).mono ?_
      rintro e w3 ⟨g, rfl, hg, hw, hb⟩
      rw [show (8 * k + 7) / 8 = k by omega] at hw ⊢
      have hb2 : Below W2.heap.size W2 w3 := ⟨hb.os, hb.tape, hb.output, hb.size, hb.block⟩
      have H3 := Lib.hid (And.intro hw hb2)
      clear hw hb
      go_wp2
      go_ret2
      have hX2 : ¬ W2.heap.size ≤ X := by omega
      have hR2 : ¬ W2.heap.size ≤ R := by omega
      unfold XGot
      rw [HQ.out]
      exact ⟨g, rfl, Nat.le_trans hs2 hg, H3.out.1, HW.out.frame (Fr.of_below H3.out.2) hX2 hR2, HF.out.trans (Fr.of_below H3.out.2) (fun j hj e => absurd (Nat.lt_of_lt_of_le hj hs2) (Nat.not_lt.2 e))⟩
end Go.Proofs.Ytaophopgmmjbeaa
