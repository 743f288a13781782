/- ascii's reference: Hex. -/
import Derived.Test.YtbbckpdpahkfkaaAscRb
import Derived.Deep.QuietTactic
import Derived.BigQuiet
namespace Go.Proofs.Ytbbckpdpahkfkaa
open Go.RowKit

theorem bdrewN {B : Nat} {a w : World} (h : Below B a w) (n : Nat) : Below B a (w.drewN n) := h.trans ⟨rfl, rfl, rfl, Nat.le_refl _, fun _ _ => rfl⟩
theorem hexCut (k : Nat) (hk : k < 16) (w : World) : (Instr.sliceAt 9 (.string ⟨#[48, 49, 50, 51, 52, 53, 54, 55, 56, 57, 65, 66, 67, 68, 69, 70]⟩) (some (.int .u8 (k : Int))) (some (.int .u8 ((k : Int) + 1))) none).run Try.prog w = .ok (.string (strB [hexD k])) w := by
  rcases (by omega : k = 0 ∨ k = 1 ∨ k = 2 ∨ k = 3 ∨ k = 4 ∨ k = 5 ∨ k = 6 ∨ k = 7 ∨ k = 8 ∨ k = 9 ∨ k = 10 ∨ k = 11 ∨ k = 12 ∨ k = 13 ∨ k = 14 ∨ k = 15) with rfl | rfl | rfl | rfl | rfl | rfl | rfl | rfl | rfl | rfl | rfl | rfl | rfl | rfl | rfl | rfl <;> kernel_rfl
set_option maxRecDepth 100000 in
set_option maxHeartbeats 4000000 in
theorem hex_ref (A : Option Addr) (n c : Nat) (bs : List Nat) (w : World) (h : Bytes w A n c bs) (hn : n ≤ 100000) :
    Calls Try.prog 11 #[.slice A n c] w fun e w' => e = .returned (.string (strB (hexS bs ++ [62]))) ∧ Below w.heap.size w w' := by
  obtain rfl := h.len
  have H := Lib.hid h
  clear h
  go_enter Try.func11, Try.ntmps11
  go_wp2
  go_loopw [4, 5] (fun s4 s5 wr => ∃ k j : Nat, k ≤ bs.length ∧ s4 = .string (strB (hexS (bs.take k))) ∧ s5 = .int .i64 (k : Int) ∧ wr = w.drewN j) (fun _ s5 _ => bs.length - (intOf s5).toNat)
  case atStart => exact ⟨0, 0, by omega, rfl, rfl, rfl⟩
  case round =>
    obtain ⟨k, j, hk, rfl, rfl, rfl⟩ := hrel
    have hzS : (strB (hexS (bs.take k))).size = 2 * k := by rw [strB_size, hexS_len, List.length_take]; omega
    by_cases hkn : k < bs.length
    · have hbb := H.out
      obtain ⟨R, q, rfl, hR, hcell⟩ := hbb.at_ (by omega)
      obtain ⟨x, hx⟩ : ∃ x, bs.getD k 0 = x := ⟨_, rfl⟩
      have hx2 : bs[k]? = some x := by rw [← hx, List.getD_eq_getElem?_getD, List.getElem?_eq_getElem hkn]; rfl
      have hc := hcell k x hx2
      have hx9 : x < 256 := hbb.byte x (List.mem_of_getElem? hx2)
      obtain ⟨q1, hq1⟩ : ∃ y, x / 16 = y := ⟨_, rfl⟩
      obtain ⟨q2, hq2⟩ : ∃ y, x % 16 = y := ⟨_, rfl⟩
      have HT : strB (hexS (bs.take k)) ++ strB [hexD q1] ++ strB [hexD q2] = strB (hexS (bs.take (k + 1))) := by
        rw [take_snoc hkn, hx, hexS_snoc, strB_app, strB_app, hq1, hq2]
        simp
      have i1 := hexCut q1 (by omega)
      have i2 := hexCut q2 (by omega)
      have w1 : IntKind.u8.wrap ((x : Int) / 16) = (q1 : Int) := by show _ % 256 = _; omega
      have w2 : (x : Int).tmod 16 = (q2 : Int) := by rw [Int.tmod_eq_emod_of_nonneg (by omega)]; omega
      have w3 : IntKind.u8.wrap ((q1 : Int) + 1) = (q1 : Int) + 1 := by show _ % 256 = _; omega
      have w4 : IntKind.u8.wrap ((q2 : Int) + 1) = (q2 : Int) + 1 := by show _ % 256 = _; omega
      have z1 : (strB [hexD q1]).size = 1 := by rw [strB_size]; rfl
      have z2 : (strB [hexD q2]).size = 1 := by rw [strB_size]; rfl
      have HH := Lib.hid (And.intro HT (And.intro hq1 hq2))
      clear hcell hx hx2 hbb HT hq1 hq2
      generalize strB [hexD q1] = S1 at *
      generalize strB [hexD q2] = S2 at *
      generalize strB (hexS (bs.take k)) = S at *
      go_wp2
      go_quiet (fail)
      go_wp2
      try rw [HH.out.1]
      go_roundw
      case rel => exact ⟨k + 1, _, by omega, rfl, by go_num, rfl⟩
      case measure => simp [intOf]; omega
    · obtain rfl : k = bs.length := by omega
      rw [List.take_length]
      have hcat : strB (hexS bs) ++ ⟨#[62]⟩ = strB (hexS bs ++ [62]) := by
        rw [show (⟨#[62]⟩ : ByteArray) = strB [62] from rfl, strB_app]
      rw [List.take_length] at hzS
      have HC := Lib.hid hcat
      clear hcat
      generalize strB (hexS bs) = S at *
      go_wp2
      go_ret
      exact ⟨by rw [HC.out]; rfl, bdrewN (Below.refl w.heap.size w) _⟩
end Go.Proofs.Ytbbckpdpahkfkaa
