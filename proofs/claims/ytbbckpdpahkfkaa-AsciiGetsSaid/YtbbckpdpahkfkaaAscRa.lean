/- ascii's reference: Own and the five signs of a number. -/
import Derived.Test.YtbbckpdpahkfkaaAscNt0
namespace Go.Proofs.Ytbbckpdpahkfkaa
open Go.RowKit

set_option maxRecDepth 100000 in
set_option maxHeartbeats 2000000 in
theorem own_any (bs : List Nat) (n c : Nat) (A : Option Addr) (w : World) (h : Bytes w A n c bs) (hn : n ≤ 100000) :
    Calls Try.prog 8 #[.slice A n c] w fun e w' => ∃ A' c', e = .returned (.slice A' n c') ∧ Bytes w' A' n c' bs ∧ Below w.heap.size w w' := by
  have hl := h.len
  have hby := h.byte
  have H := Lib.hid h
  have HB := Lib.hid hby
  clear h hby
  go_enter Try.func8, Try.ntmps8
  go_wp2_with (refine wpList_app (o := ⟨some 6, _, _, _, _, _⟩) rfl (.tmp 4) (.tmp 5) rfl w.heap.size 0 n c (.slice none 0 0) [] bs A ?h1 ?h2 ?h3 ?h4 ?h5 ?h6 ?h7)
  case h1 => rfl
  case h2 => rfl
  case h3 => exact ⟨rfl, .inl ⟨rfl, rfl⟩⟩
  case h4 => exact H.out
  case h5 => omega
  case h6 => exact Nat.le_refl _
  intro v4 w4 hown4 hgrow4
  have hb4 : Below w.heap.size w w4 := (Below.refl _ _).grown hgrow4 (Nat.le_refl _) (fun j e => by cases e)
  obtain ⟨A4, c4, rfl, hy4⟩ := own_bytes hown4 (fun x hx => HB.out x (by simpa using hx))
  have H4 := Lib.hid (And.intro hy4 hb4)
  clear hown4 hgrow4 hy4 hb4
  go_wp2
  go_ret
  exact ⟨A4, c4, by simp, by simpa using H4.out.1, H4.out.2⟩
def fiveL (n : Nat) : Nat → List Nat
  | 0 => []
  | i + 1 => (33 + n / 85 ^ i % 85) :: fiveL n i
theorem fiveL_five (n : Nat) : fiveL n 5 = fiveD n := by
  show [33 + n / 85 ^ 4 % 85, 33 + n / 85 ^ 3 % 85, 33 + n / 85 ^ 2 % 85, 33 + n / 85 ^ 1 % 85, 33 + n / 85 ^ 0 % 85] = fiveD n
  simp [fiveD]
theorem fiveL_len (n i : Nat) : (fiveL n i).length = i := by
  induction i with
  | zero => rfl
  | succ i ih => rw [fiveL, List.length_cons, ih]
theorem one_str (w : World) (x : Nat) (hx : x < 256) : (convert 22 9 (.slice (some ⟨w.heap.size, 0, none⟩) 1 1)).run Try.prog (w.alloc (.cells #[.int .u8 (x : Int)] 5)) = .ok (.string (strB [x])) (w.alloc (.cells #[.int .u8 (x : Int)] 5)) := (one_byte w x hx).str
set_option maxRecDepth 100000 in
set_option maxHeartbeats 2000000 in
theorem five_ref (n : Nat) (w : World) (hn : n < 4294967296) : Calls Try.prog 21 #[.int .i64 (n : Int)] w fun e w' => e = .returned (.string (strB (fiveD n))) ∧ Below w.heap.size w w' := by
  go_enter Try.func21, Try.ntmps21
  go_wp2
  go_loopw [0, 3, 4] (fun s0 s3 s4 wr => ∃ i N : Nat, i ≤ 5 ∧ n / 85 ^ i = N ∧ s0 = .int .i64 N ∧ s3 = .string (strB (fiveL n i)) ∧ s4 = .int .i64 i ∧ Below w.heap.size w wr) (fun _ _ s4 _ => 5 - (intOf s4).toNat)
  case atStart => exact ⟨0, n, by omega, by simp, rfl, rfl, rfl, Below.refl _ _⟩
  case round =>
    obtain ⟨i, N, hi, hN, rfl, rfl, rfl, hb⟩ := hrel
    have hNn : N ≤ n := by rw [← hN]; exact Nat.div_le_self ..
    by_cases hlt : i < 5
    · obtain ⟨d, hd⟩ : ∃ d, 33 + N % 85 = d := ⟨_, rfl⟩
      have hd9 : d < 256 := by omega
      have cv := one_str wr d hd9
      have hadd : strB [d] ++ strB (fiveL n i) = strB (fiveL n (i + 1)) := by rw [strB_app, ← hd, ← hN]; rfl
      have hdiv : n / 85 ^ (i + 1) = N / 85 := by rw [Nat.pow_succ, ← Nat.div_div_eq_div_mul, hN]
      have HB := Lib.hid (And.intro hb (And.intro hdiv (And.intro hN hd)))
      have hw1 : IntKind.u8.wrap (33 + (N : Int) % 85) = (d : Int) := by show _ % 256 = _; omega
      clear hb hdiv hN hd
      have z1 : (strB [d]).size = 1 := by rw [strB_size]; rfl
      have z2 : (strB (fiveL n i)).size = i := by rw [strB_size, fiveL_len]
      go_wp2
      go_roundw
      case rel => exact ⟨i + 1, N / 85, by omega, HB.out.2.1, by go_num, rfl, by go_num, HB.out.1.alloc HB.out.1.size _⟩
      case measure => simp [intOf]; omega
    · obtain rfl : i = 5 := by omega
      rw [fiveL_five]
      have HB := Lib.hid hb
      clear hb
      go_wp2
      go_ret
      exact ⟨rfl, HB.out⟩
end Go.Proofs.Ytbbckpdpahkfkaa
