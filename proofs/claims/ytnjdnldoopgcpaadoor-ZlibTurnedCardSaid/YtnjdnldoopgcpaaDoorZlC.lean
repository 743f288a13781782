/- zlib: the bytes of a number; two rows compared; the head. -/
import Derived.Test.YtnjdnldoopgcpaaDoorZlB
namespace Go.Proofs.YtnjdnldoopgcpaaDoor
open Go.RowKit

def bigE (n : Nat) : List Nat := [n / 16777216 % 256, n / 65536 % 256, n / 256 % 256, n % 256]
theorem bigE_byte (n : Nat) : ∀ x ∈ bigE n, x < 256 := by
  intro x hx
  simp [bigE] at hx
  omega
set_option maxRecDepth 100000 in
set_option maxHeartbeats 2000000 in
theorem big_any (n : Nat) (w : World) (hn : n < 4294967296) :
    Calls Tryd.prog 33 #[.int .i64 (n : Int)] w fun e w' => e = .returned (.slice (some ⟨w.heap.size, 0, none⟩) 4 4) ∧ Whole w' w.heap.size 5 (bvs (bigE n)).toArray ∧ Below w.heap.size w w' := by
  go_enter Tryd.func33, Tryd.ntmps33
  go_wp2_with fail
  go_ret
  have e : (#[.int .u8 ((n : Int) / 16777216), .int .u8 ((n : Int) / 65536 % 256), .int .u8 ((n : Int) / 256 % 256), .int .u8 ((n : Int) % 256)] : Array Value) = (bvs (bigE n)).toArray := by
    simp [bvs, bigE]
    omega
  refine ⟨rfl, ?_, (Below.refl _ _).alloc (Nat.le_refl _) _⟩
  rw [e]
  exact Whole.made _ _ _
set_option maxRecDepth 100000 in
set_option maxHeartbeats 2000000 in
theorem head_any (w : World) : Calls Tryd.prog 34 #[.int .i64 120, .int .i64 1] w fun e w' => e = .returned (.bool true) ∧ Below w.heap.size w w' := by
  go_enter Tryd.func34, Tryd.ntmps34
  go_wp2_with fail
  go_ret
  exact ⟨rfl, Below.refl _ _⟩
theorem take_eq {x y : List Nat} {i a b : Nat} (h : x.take i = y.take i) (hx : x[i]? = some a) (hy : y[i]? = some b) (e : a = b) : x.take (i + 1) = y.take (i + 1) := by
  rw [List.take_add_one, List.take_add_one, h, hx, hy, e]
set_option maxRecDepth 100000 in
set_option maxHeartbeats 2000000 in
theorem equal_any (A : Option Addr) (n c : Nat) (x : List Nat) (A2 : Option Addr) (c2 : Nat) (y : List Nat) (w : World) (h : Bytes w A n c x) (h2 : Bytes w A2 n c2 y) :
    Calls Tryd.prog 35 #[.slice A n c, .slice A2 n c2] w fun e w' => e = .returned (.bool (decide (x = y))) ∧ Below w.heap.size w w' := by
  have hl := h.len
  have hl2 := h2.len
  have hcap := h.cap
  have htop := h.top
  have d0 : ((n : Int) != (n : Int)) = false := by simp
  have H1 := Lib.hid h
  have H2 := Lib.hid h2
  clear h h2
  go_enter Tryd.func35, Tryd.ntmps35
  go_wp2_with fail
  clear d0
  go_loopw [13] (fun s13 wr => ∃ i : Nat, s13 = .int .i64 (i : Int) ∧ i ≤ n ∧ Hid (x.take i = y.take i ∧ Below w.heap.size w wr)) (fun s13 _ => n - (intOf s13).toNat)
  case atStart => exact ⟨0, rfl, by omega, Lib.hid ⟨rfl, Below.refl _ _⟩⟩
  case round =>
    obtain ⟨i, rfl, hi, HR⟩ := hrel
    by_cases hlt : i < n
    · have d1 : decide ((i : Int) < (n : Int)) = true := decide_eq_true (by omega)
      obtain ⟨p, hp⟩ : ∃ p, x[i]? = some p := ⟨_, List.getElem?_eq_getElem (by omega)⟩
      obtain ⟨q, hq⟩ : ∃ q, y[i]? = some q := ⟨_, List.getElem?_eq_getElem (by omega)⟩
      obtain ⟨R, o, rfl, hR, hc⟩ := (H1.out.below HR.out.2).at_ (by omega)
      obtain ⟨R2, o2, rfl, hR2, hc2⟩ := (H2.out.below HR.out.2).at_ (by omega)
      have k0 := hc i p hp
      have k1 := hc2 i q hq
      have b1 : (0 : Int) ≤ (i : Int) := by omega
      have b2 : (i : Int) < (n : Int) := by omega
      by_cases hpq : p = q
      · have d2 : ((p : Int) != (q : Int)) = false := by simp [hpq]
        have HN := Lib.hid (take_eq HR.out.1 hp hq hpq)
        clear hp hq hc hc2 hpq
        go_wp2_with fail
        go_region
        all_goals
          go_wp2_with fail
          go_roundw
          case rel => exact ⟨i + 1, by go_num, by omega, Lib.hid ⟨HN.out, HR.out.2.drew⟩⟩
          case measure => simp [intOf]; omega
      · have d2 : ((p : Int) != (q : Int)) = true := by simp; omega
        have HN := Lib.hid (show decide (x = y) = false from decide_eq_false (fun e => by
          rw [e, hq] at hp
          injection hp with hp
          exact hpq hp.symm))
        clear hp hq hc hc2 hpq
        go_wp2_with fail
        go_region
        all_goals
          go_wp2_with fail
          go_ret
          exact ⟨by rw [HN.out]; rfl, HR.out.2.drew⟩
    · obtain rfl : i = n := by omega
      have d1 : decide ((i : Int) < (i : Int)) = false := by simp
      have HN := Lib.hid (show decide (x = y) = true from decide_eq_true (by
        have := HR.out.1
        rwa [List.take_of_length_le (by omega), List.take_of_length_le (by omega)] at this))
      go_wp2_with fail
      go_ret
      exact ⟨by rw [HN.out]; rfl, HR.out.2⟩
end Go.Proofs.YtnjdnldoopgcpaaDoor
