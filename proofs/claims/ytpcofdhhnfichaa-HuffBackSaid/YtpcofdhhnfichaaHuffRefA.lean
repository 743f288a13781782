/- The reference of huff: power, Share, Codes, Make. -/
import Derived.Test.YtpcofdhhnfichaaHuffCodesW
import Derived.Test.YtpcofdhhnfichaaHuffMake
import Derived.Test.YtpcofdhhnfichaaHuffInts
namespace Go.Proofs.Ytpcofdhhnfichaa
open Go.RowKit

def pow2 (n : Nat) : Nat := 2 ^ n
theorem pow2_le {n : Nat} (h : n ≤ 15) : pow2 n ≤ 32768 := Nat.pow_le_pow_right (n := 2) (by decide) h
set_option maxRecDepth 100000 in
set_option maxHeartbeats 4000000 in
theorem power_any (n : Nat) (w : World) (hn : n ≤ 15) : Calls Try.prog 38 #[.int .i64 n] w fun e w' => e = .returned (.int .i64 (pow2 n : Int)) ∧ w' = w := by
  go_enter Try.func38, Try.ntmps38
  go_wp2_with fail
  go_loop [3, 4] (fun p i => ∃ k : Nat, k ≤ n ∧ i = .int .i64 k ∧ p = .int .i64 (pow2 k : Int)) (fun _ i => n - (intOf i).toNat)
  case atStart => exact ⟨0, by omega, rfl, rfl⟩
  case round =>
    obtain ⟨k, hk, rfl, rfl⟩ := hrel
    have hz : pow2 k ≤ 32768 := pow2_le (by omega)
    have hs : pow2 (k + 1) = 2 * pow2 k := by unfold pow2; rw [Nat.pow_succ]; omega
    by_cases hlt : k < n
    · have HS := Lib.hid hs
      clear hs
      generalize pow2 k = z at *
      go_wp2_with fail
      refine ⟨⟨k + 1, by omega, by go_num, by rw [HS.out]; go_num⟩, by simp [intOf]; omega⟩
    · obtain rfl : k = n := by omega
      clear hs
      generalize hzz : pow2 k = z at *
      have HZ := Lib.hid hzz
      clear hzz
      go_wp2
      go_ret
      exact ⟨by rw [HZ.out]; rfl, rfl⟩
theorem share_part (x : Nat) (h : x ≤ 15) : 32768 / 2 ^ x = pow2 (15 - x) := by
  rcases (by omega : x = 0 ∨ x = 1 ∨ x = 2 ∨ x = 3 ∨ x = 4 ∨ x = 5 ∨ x = 6 ∨ x = 7 ∨ x = 8 ∨ x = 9 ∨ x = 10 ∨ x = 11 ∨ x = 12 ∨ x = 13 ∨ x = 14 ∨ x = 15) with rfl | rfl | rfl | rfl | rfl | rfl | rfl | rfl | rfl | rfl | rfl | rfl | rfl | rfl | rfl | rfl <;> rfl
set_option maxRecDepth 100000 in
set_option maxHeartbeats 4000000 in
theorem share_any (A : Option Addr) (n c : Nat) (l : List Int) (w : World) (h : IntsAt w A n c l) :
    Calls Try.prog 30 #[.slice A n c] w fun e w' => w' = w ∧ ((¬ lensOk l ∧ e = .returned (.int .i64 (-1))) ∨ (lensOk l ∧ e = .returned (.int .i64 (share (natsOf l) l.length : Int)))) := by
  have hl := h.len
  subst hl
  have hcap := h.cap
  have htop := h.top
  have H := Lib.hid h
  clear h
  by_cases hn : 320 < l.length
  · go_enter Try.func30, Try.ntmps30
    go_wp2
    go_ret
    exact ⟨rfl, .inl ⟨fun h => absurd h.1 (by omega), rfl⟩⟩
  have hn : l.length ≤ 320 := by omega
  go_enter Try.func30, Try.ntmps30
  go_wp2_with fail
  go_loop [3, 4] (fun x y => ∃ i : Nat, i ≤ l.length ∧ y = .int .i64 i ∧ x = .int .i64 (share (natsOf l) i : Int) ∧ Hid (∀ j x, j < i → l[j]? = some x → 0 ≤ x ∧ x ≤ 15)) (fun _ y => l.length - (intOf y).toNat)
  case atStart => exact ⟨0, by omega, rfl, by rw [share_zero]; rfl, Lib.hid (fun j x h => absurd h (by omega))⟩
  case round =>
    obtain ⟨i, hi, rfl, rfl, HR⟩ := hrel
    have hsh := share_le (natsOf l) i
    by_cases hlt : i < l.length
    · obtain ⟨R, o, hA, hR, hcell⟩ := H.out.at_ (by omega)
      obtain ⟨x, hx⟩ : ∃ x, l[i]? = some x := ⟨l[i], List.getElem?_eq_getElem hlt⟩
      have hc1 := hcell i x hx
      have HX := Lib.hid hx
      have HA := Lib.hid hA
      clear hx hcell hA
      obtain rfl := HA.out
      by_cases hbad : x < 0 ∨ 15 < x
      · have hnot : Hid (¬ lensOk l) := by
          intro h
          have := h.2 x (List.mem_of_getElem? HX.out)
          omega
        rcases hbad with hlo | hhi
        all_goals
          go_wp2_with fail
          go_ret
          exact ⟨rfl, .inl ⟨hnot.out, rfl⟩⟩
      · obtain ⟨k, rfl⟩ : ∃ k : Nat, x = k := ⟨x.toNat, by omega⟩
        have hk15 : k ≤ 15 := by omega
        clear hbad
        have hxk : (natsOf l)[i]? = some k := by have := natsOf_at HX.out; simpa using this
        have hss := share_succ hxk
        rw [share_part k hk15] at hss
        have HSS := Lib.hid hss
        clear hxk hss
        have hrel : ∀ (j : Nat) (x : Int), j < i + 1 → l[j]? = some x → 0 ≤ x ∧ x ≤ 15 := fun j x hj hx => by
          rcases Nat.lt_or_ge j i with h | h
          · exact HR.out j x h hx
          · obtain rfl : j = i := by omega
            rw [HX.out] at hx
            injection hx with hx
            omega
        have HQ := Lib.hid hrel
        clear hrel
        by_cases hk0 : k = 0
        · subst hk0
          go_wp2_with fail
          exact ⟨⟨i + 1, by omega, by go_num, by rw [HSS.out]; simp, HQ⟩, by simp [intOf]; omega⟩
        · have hk1 : 0 < k := by omega
          have h15 : ((15 - k : Nat) : Int) = 15 - (k : Int) := by omega
          go_wp2_with fail
          rw [← h15]
          refine (power_any (15 - k) _ (by omega)).mono ?_
          rintro e w1 ⟨rfl, rfl⟩
          have hp : pow2 (15 - k) ≤ 32768 := pow2_le (by omega)
          have hss2 := HSS.out
          rw [if_pos hk1] at hss2
          have HS2 := Lib.hid hss2
          clear hss2 h15
          generalize pow2 (15 - k) = z at *
          go_wp2_with fail
          exact ⟨⟨i + 1, by omega, by go_num, by rw [HS2.out]; go_num, HQ⟩, by simp [intOf]; omega⟩
    · obtain rfl : i = l.length := by omega
      go_wp2
      go_ret
      exact ⟨rfl, .inr ⟨⟨hn, fun x hx => by
        obtain ⟨j, hj, rfl⟩ := List.getElem_of_mem hx
        exact HR.out j _ hj (List.getElem?_eq_getElem hj)⟩, rfl⟩⟩
end Go.Proofs.Ytpcofdhhnfichaa
