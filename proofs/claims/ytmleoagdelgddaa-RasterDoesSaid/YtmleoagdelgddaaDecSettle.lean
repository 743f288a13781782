/- The walk of dec's settle: the noughts behind are struck (a loop over math/bits.Div64); the answer is the decimal of v / 10^s, or ErrOver. -/
import Derived.Test.YtmleoagdelgddaaDecDiv
import Derived.Test.YtmleoagdelgddaaShelf
namespace Go.Proofs.Ytmleoagdelgddaa
open Go.RowKit Dec

theorem lz10 : Hid (∀ w, Calls Try.prog 97 #[.int .u64 10] w fun e w' => e = .returned (.int .i64 60) ∧ w = w') := fun w =>
  (Try.bits_LeadingZeros64 10 w (by decide) (by decide)).mono fun e w' h => ⟨h.1.trans (by rw [show Lib.bitLen (10 : Int).toNat = 4 from by decide]; rfl), h.2.symm⟩

/-- What settle leaves: the decimal of v / 10^t as a value, or ErrOver. -/
def IsTold (v : Int) (t : Nat) (w : World) (e : Ending) (w' : World) : Prop :=
  ∃ M S E : Int, e = .returned (.tuple #[.agg #[.int .i64 M, .int .i64 S], .int .i64 E]) ∧ Denotes v t M S E ∧ Below w.heap.size w w'

theorem div64_at (H L : Nat) (w : World) (hL : L < 18446744073709551616) :
    Calls Try.prog 96 #[.int .u64 ((H : Int) % 10), .int .u64 L, .int .u64 10] w fun e w' => e = .returned (.tuple #[.int .u64 (((H % 10 * 18446744073709551616 + L) / 10 : Nat) : Int), .int .u64 (((H % 10 * 18446744073709551616 + L) % 10 : Nat) : Int)]) ∧ ∃ n, w' = w.drewN n := by
  have h := div64_any (H % 10) L w (by omega) hL lz10
  rwa [Int.natCast_emod] at h

theorem st_mod (H L : Nat) : (H * 18446744073709551616 + L) % 10 = (H % 10 * 18446744073709551616 + L) % 10 := by omega
theorem st_quo (H L : Nat) : (H * 18446744073709551616 + L) / 10 = H / 10 * 18446744073709551616 + (H % 10 * 18446744073709551616 + L) / 10 := by omega
theorem vint {k : IntKind} {a b : Int} (h : a = b) : Value.int k a = Value.int k b := by rw [h]
theorem leaf_ok {v m : Int} {s k H L hi lo : Nat} (hv : v.natAbs = hi * 18446744073709551616 + lo) (hst : strip s (hi * 18446744073709551616 + lo) = (H * 18446744073709551616 + L, k)) (hm : m.natAbs = L)
    (hsg : (v ≤ 0 ∧ m ≤ 0) ∨ (0 ≤ v ∧ 0 ≤ m)) (hH : H = 0) (hL : L ≤ 999999999999999999) (hk : k ≤ 9) : Denotes v s m k 0 := by
  refine den_strip hv ?_ hsg (by rw [hst]) (by omega) hk
  rw [hst, hH]; omega
theorem leaf_over {v : Int} {s k H L hi lo : Nat} (hv : v.natAbs = hi * 18446744073709551616 + lo) (hst : strip s (hi * 18446744073709551616 + lo) = (H * 18446744073709551616 + L, k)) (h : 0 < H ∨ 999999999999999999 < L ∨ 9 < k) : Denotes v s 0 0 5 := by
  refine den_over hv ?_
  rw [hst]
  show 999999999999999999 < H * 18446744073709551616 + L ∨ 9 < k
  omega
theorem below_cell {w : World} (T : Nat) (n : Nat) (x y : Value) : Below w.heap.size w ((((w.alloc (.cells #[.int .i64 0, .int .i64 0] T)).drewN n).setCell ⟨w.heap.size, 0, none⟩ x).setCell ⟨w.heap.size, 1, none⟩ y) :=
  ((bdrewN ((Below.refl _ _).alloc (Nat.le_refl _) _) n).setCell (Nat.le_refl _) _).setCell (Nat.le_refl _) _

set_option maxHeartbeats 1000000 in
theorem settle_any (neg : Bool) (hi lo s : Nat) (v : Int) (w : World) (hhi : hi < 18446744073709551616) (hlo : lo < 18446744073709551616) (hs : s ≤ 1000) (hv : v.natAbs = hi * 18446744073709551616 + lo)
    (hn1 : neg = true → v ≤ 0) (hn0 : neg = false → 0 ≤ v) :
    Calls Try.prog 88 #[.bool neg, .int .u64 hi, .int .u64 lo, .int .i64 s] w (IsTold v s w) := by
  have HV := Lib.hid hv
  have HN1 := Lib.hid hn1
  have HN0 := Lib.hid hn0
  clear hv hn1 hn0
  go_enter Try.func88, Try.ntmps88
  go_wp2
  go_loopw [1, 2, 3] (fun h l t wr => ∃ H L k n : Nat, h = .int .u64 H ∧ l = .int .u64 L ∧ t = .int .i64 k ∧ k ≤ s ∧ Hid (H < 18446744073709551616) ∧ Hid (L < 18446744073709551616) ∧ Hid (strip s (hi * 18446744073709551616 + lo) = strip k (H * 18446744073709551616 + L)) ∧ wr = (w.alloc (.cells #[.int .i64 0, .int .i64 0] 40)).drewN n) (fun _ _ t _ => (intOf t).toNat)
  case atStart => exact ⟨hi, lo, s, 0, rfl, rfl, rfl, Nat.le_refl _, hhi, hlo, rfl, by simp [World.drewN_zero]⟩
  case round =>
    obtain ⟨H, L, k, n, rfl, rfl, rfl, hk, hH, hL, hst, rfl⟩ := hrel
    have hH1 : (H : Int) ≤ 18446744073709551615 := by have := hH.out; omega
    have hL1 : (L : Int) ≤ 18446744073709551615 := by have := hL.out; omega
    by_cases hgo : 0 < k ∧ (H % 10 * 18446744073709551616 + L) % 10 = 0
    · have hk1 : 0 < (k : Int) := by omega
      have hb : (((H : Int) % 10 * 18446744073709551616 + L) % 10 != 0) = false := by rw [bne_eq_false_iff_eq]; omega
      have HG := Lib.hid hgo
      clear hgo
      go_wp2_with (go_at_call 96; refine (div64_at H L _ hL.out).mono ?_; rintro e w' ⟨rfl, n1, rfl⟩)
      obtain ⟨L', eL⟩ : ∃ L', L' = (H % 10 * 18446744073709551616 + L) / 10 := ⟨_, rfl⟩
      have e1 : (H : Int) / 10 = ((H / 10 : Nat) : Int) := by omega
      have e2 : ((H : Int) % 10 * 18446744073709551616 + L) / 10 = (L' : Int) := by omega
      have e3 : (k : Int) - 1 = ((k - 1 : Nat) : Int) := by omega
      refine ⟨⟨H / 10, L', k - 1, _, vint e1, vint e2, vint e3, Nat.le_trans (Nat.sub_le _ _) hk, ?_, ?_, ?_, rfl⟩, ?_⟩
      · have := hH.out; show H / 10 < 18446744073709551616; omega
      · have := hL.out; show L' < 18446744073709551616; omega
      · show strip s (hi * 18446744073709551616 + lo) = strip (k - 1) (H / 10 * 18446744073709551616 + L')
        obtain ⟨g1, g2⟩ := HG.out
        obtain ⟨k', rfl⟩ : ∃ k', k = k' + 1 := ⟨k - 1, by omega⟩
        have hm : (H * 18446744073709551616 + L) % 10 = 0 := (st_mod H L).trans g2
        have hq : (H * 18446744073709551616 + L) / 10 = H / 10 * 18446744073709551616 + L' := by rw [eL]; exact st_quo H L
        rw [hst.out, strip_go _ _ hm, Nat.add_sub_cancel, hq]
      · simp [intOf]; omega
    · have hst' : Hid (strip s (hi * 18446744073709551616 + lo) = (H * 18446744073709551616 + L, k)) := by
        show strip s (hi * 18446744073709551616 + lo) = (H * 18446744073709551616 + L, k)
        rw [hst.out]
        cases k with
        | zero => rfl
        | succ k =>
          have hm : (H * 18446744073709551616 + L) % 10 ≠ 0 := fun h => hgo ⟨Nat.succ_pos _, (st_mod H L).symm.trans h⟩
          exact strip_stop _ _ hm
      clear hst
      by_cases hk0 : k = 0
      · have hk1 : ¬ (0 < (k : Int)) := by omega
        have hk9 : ¬ (9 < (k : Int)) := by omega
        have HG := Lib.hid hk0
        clear hk0 hgo
        go_wp2
        all_goals first
          | exact bodyPost_ret (v := .tuple #[.agg #[.int .i64 (-(L : Int)), .int .i64 k], .int .i64 0]) (by simp [results, Try.results88, go_sem]) rfl ⟨-(L : Int), k, 0, rfl, leaf_ok HV.out hst'.out (by omega) (.inl ⟨HN1.out (by assumption), by omega⟩) (by omega) (by omega) (by omega), below_cell _ _ _ _⟩
          | exact bodyPost_ret (v := .tuple #[.agg #[.int .i64 L, .int .i64 k], .int .i64 0]) (by simp [results, Try.results88, go_sem]) rfl ⟨L, k, 0, rfl, leaf_ok HV.out hst'.out (by omega) (.inr ⟨HN0.out (by assumption), by omega⟩) (by omega) (by omega) (by omega), below_cell _ _ _ _⟩
          | exact bodyPost_ret (v := .tuple #[.agg #[.int .i64 0, .int .i64 0], .int .i64 5]) (by simp [results, Try.results88, go_sem]) rfl ⟨0, 0, 5, rfl, leaf_over HV.out hst'.out (by omega), below_cell _ _ _ _⟩
      · have hk1 : 0 < (k : Int) := by omega
        have hb : (((H : Int) % 10 * 18446744073709551616 + L) % 10 != 0) = true := by rw [bne_iff_ne]; omega
        have HG := Lib.hid hgo
        clear hk0 hgo
        go_wp2_with (go_at_call 96; refine (div64_at H L _ hL.out).mono ?_; rintro e w' ⟨rfl, n1, rfl⟩)
        all_goals first
          | exact bodyPost_ret (v := .tuple #[.agg #[.int .i64 (-(L : Int)), .int .i64 k], .int .i64 0]) (by simp [results, Try.results88, go_sem]) rfl ⟨-(L : Int), k, 0, rfl, leaf_ok HV.out hst'.out (by omega) (.inl ⟨HN1.out (by assumption), by omega⟩) (by omega) (by omega) (by omega), below_cell _ _ _ _⟩
          | exact bodyPost_ret (v := .tuple #[.agg #[.int .i64 L, .int .i64 k], .int .i64 0]) (by simp [results, Try.results88, go_sem]) rfl ⟨L, k, 0, rfl, leaf_ok HV.out hst'.out (by omega) (.inr ⟨HN0.out (by assumption), by omega⟩) (by omega) (by omega) (by omega), below_cell _ _ _ _⟩
          | exact bodyPost_ret (v := .tuple #[.agg #[.int .i64 0, .int .i64 0], .int .i64 5]) (by simp [results, Try.results88, go_sem]) rfl ⟨0, 0, 5, rfl, leaf_over HV.out hst'.out (by omega), below_cell _ _ _ _⟩
end Go.Proofs.Ytmleoagdelgddaa
