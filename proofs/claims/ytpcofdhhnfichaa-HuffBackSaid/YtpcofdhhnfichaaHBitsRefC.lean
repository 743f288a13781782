/- The reference's bits as bytes: the walk. -/
import Derived.Test.YtpcofdhhnfichaaHBitsRefB
import Derived.Deep.OwnRows
namespace Go.Proofs.Ytpcofdhhnfichaa
open Go.RowKit

/-- What the reference's Bytes answers. -/
def XBytes (M m : Nat) (w : World) (e : Ending) (w' : World) : Prop :=
  ∃ g, e = .returned (.slice (some ⟨g, 0, none⟩) ((m + 7) / 8) ((m + 7) / 8)) ∧ w.heap.size ≤ g ∧ Whole w' g 5 (rowB (M % 2 ^ m) ((m + 7) / 8) ((m + 7) / 8)) ∧ Below w.heap.size w w'
theorem hiB_top (M m : Nat) : hiB (M % 2 ^ m) m = 0 := by
  unfold hiB
  rw [Nat.div_eq_of_lt (Nat.mod_lt _ (Nat.two_pow_pos m)), Nat.zero_mul]
theorem hiB_low (M : Nat) : hiB M 0 = M := by simp [hiB]
theorem hi_put (X i : Nat) (h : X.testBit i = true) : digit (hiB X i) (i / 8) = digit (hiB X (i + 1)) (i / 8) + 2 ^ (i % 8) ∧ ∀ j, j ≠ i / 8 → digit (hiB X i) j = digit (hiB X (i + 1)) j := by
  have hd := digit_put (X / 2 ^ (i + 1)) (i / 8) (i % 8) (by omega)
  rw [Nat.div_add_mod] at hd
  rw [hiB_step, h, if_pos rfl, show hiB X (i + 1) = 2 ^ (i + 1) * (X / 2 ^ (i + 1)) from Nat.mul_comm _ _]
  exact hd
set_option maxRecDepth 100000 in
set_option maxHeartbeats 4000000 in
theorem xb_any (A : Option Addr) (m c M : Nat) (w : World) (h : Bls w A m c M) (hm : m ≤ 10000) :
    Calls Try.prog 26 #[.slice A m c] w (XBytes M m w) := by
  have hcap := h.cap
  have H := Lib.hid h
  have hdiv : (m : Int) + 7 = ((m + 7 : Nat) : Int) := by omega
  have hmk := fun W => run_make_row' (P := Try.prog) 35 5 (.int .u8 0) 1 Try.underlying35 (by kernel_rfl) rfl .i64 .i64 ((m + 7) / 8) (by omega) (by omega) W
  have hmk2 : ∀ W : World, (Instr.makeSlice 35 (.int .i64 (((m : Int) + 7) / 8)) (.int .i64 (((m : Int) + 7) / 8))).run Try.prog W = .ok (.slice (some ⟨W.heap.size, 0, none⟩) ((m + 7) / 8) ((m + 7) / 8)) (W.alloc (.cells (madeCells #[.int .u8 0] ((m + 7) / 8)) 5)) := by
    intro W
    have e : ((m : Int) + 7) / 8 = (((m + 7) / 8 : Nat) : Int) := by omega
    rw [e]
    exact hmk W
  clear h hmk hdiv
  go_enter Try.func26, Try.ntmps26
  go_wp2
  go_loopw [4, 5, 6] (fun y _ _ wr => ∃ i : Nat, i ≤ m ∧ y = .int .i64 ((i : Int) - 1) ∧ Whole wr w.heap.size 5 (rowB (hiB (M % 2 ^ m) i) ((m + 7) / 8) ((m + 7) / 8)) ∧ Below w.heap.size w wr) (fun y _ _ _ => (intOf y + 1).toNat)
  case atStart =>
    refine ⟨m, Nat.le_refl _, rfl, ?_, (Below.refl _ _).alloc (Nat.le_refl _) _⟩
    rw [hiB_top, ← rowB_all, ← rowB_zero]
    exact Whole.made _ _ _
  case round =>
    obtain ⟨i, hi, rfl, hw, hb⟩ := hrel
    have HW := Lib.hid (And.intro hw hb)
    clear hw hb
    by_cases hlt : 0 < i
    · obtain ⟨i, rfl⟩ : ∃ k, i = k + 1 := ⟨i - 1, by omega⟩
      obtain ⟨R, o, hA, hR, hcell⟩ := H.out.at_ (by omega)
      have hc := (HW.out.2.cell (p := ⟨R, o + i, none⟩) hR).trans (hcell i (by omega))
      have hbt : (M % 2 ^ m).testBit i = M.testBit i := by
        rw [Nat.testBit_mod_two_pow]; simp; omega
      have HBT := Lib.hid hbt
      have HA := Lib.hid hA
      clear hcell hA hbt
      obtain rfl := HA.out
      rw [show ((i + 1 : Nat) : Int) - 1 = i by omega]
      cases hbit : M.testBit i with
      | true =>
        rw [hbit] at hc
        have HB := Lib.hid hbit
        clear hbit
        obtain ⟨wo, rfl⟩ : ∃ wo : World, wo = wr := ⟨_, rfl⟩
        go_wp2
        go_loop [5, 6] (fun x y => ∃ k : Nat, k ≤ i % 8 ∧ y = .int .i64 k ∧ x = .int .i64 (2 ^ k : Nat)) (fun _ y => 8 - (intOf y).toNat)
        case atStart => exact ⟨0, by omega, rfl, rfl⟩
        case round =>
          obtain ⟨k, hk, rfl, rfl⟩ := hrel
          have h128 : 2 ^ k ≤ 2 ^ 7 := Nat.pow_le_pow_right (by omega) (by omega)
          by_cases hk8 : k < i % 8
          · have hk9 : decide ((k : Int) < (i : Int) % 8) = true := by rw [decide_eq_true_iff]; omega
            have hpw : 2 ^ (k + 1) = 2 * 2 ^ k := by rw [Nat.pow_succ, Nat.mul_comm]
            have HP := Lib.hid hpw
            clear hpw
            generalize 2 ^ k = z at *
            go_wp2
            go_round
            case rel => exact ⟨k + 1, by omega, by go_num, by rw [HP.out]; exact congrArg (Value.int .i64) (by omega)⟩
            case measure => simp [intOf]; omega
          · obtain rfl : k = i % 8 := by omega
            have hk9 : decide (((i % 8 : Nat) : Int) < (i : Int) % 8) = false := by rw [decide_eq_false_iff_not]; omega
            obtain ⟨hp1, hp2⟩ := hi_put (M % 2 ^ m) i (by rw [HBT.out]; exact HB.out)
            have hd1 := digit_lt (hiB (M % 2 ^ m) i) (i / 8)
            have cg : wo.cell? ⟨w.heap.size, i / 8, none⟩ = some (.int .u8 (digit (hiB (M % 2 ^ m) (i + 1)) (i / 8))) := by
              rw [HW.out.1.reads, rowB_at _ _ _ _ (by omega), if_pos (by omega)]
            have fg := HW.out.1.thawed (i / 8)
            have HP := Lib.hid (And.intro hp1 hp2)
            rw [hp1] at hd1
            clear hp1 hp2
            generalize 2 ^ (i % 8) = z at *
            generalize digit (hiB (M % 2 ^ m) (i + 1)) (i / 8) = y at *
            go_wp2
            go_roundw
            case rel =>
              refine ⟨i, by omega, rfl, ?_, HW.out.2.setCell (by simp) _⟩
              have hset := HW.out.1.set (i / 8) (.int .u8 (digit (hiB (M % 2 ^ m) i) (i / 8)))
              rw [rowB_put _ (hiB (M % 2 ^ m) i) _ _ HP.out.2, HP.out.1] at hset
              have e : ((y + z : Nat) : Int) = (y : Int) + z := by omega
              rw [← e]
              exact hset
            case measure => simp [intOf]
      | false =>
        rw [hbit] at hc
        have HB := Lib.hid hbit
        clear hbit
        go_wp2
        go_roundw
        case rel =>
          refine ⟨i, by omega, rfl, ?_, HW.out.2⟩
          have e : hiB (M % 2 ^ m) i = hiB (M % 2 ^ m) (i + 1) := by
            rw [hiB_step, HBT.out, HB.out]; simp
          rw [e]; exact HW.out.1
        case measure => simp [intOf]
    · obtain rfl : i = 0 := by omega
      go_wp2
      go_ret
      refine ⟨_, rfl, Nat.le_refl _, ?_, HW.out.2⟩
      have := HW.out.1
      rwa [hiB_low] at this
theorem Bls.zero (w : World) (A : Option Addr) (c N : Nat) (hc : c ≤ 9223372036854775807) : Bls w A 0 c N := ⟨Nat.zero_le _, hc, fun h => absurd h (by omega)⟩
end Go.Proofs.Ytpcofdhhnfichaa
