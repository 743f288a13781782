/- cmap's reference: the bytes of one sign, a pair of bytes. -/
import Derived.Test.YtldhkhaciflmoaaFontDh
namespace Go.Proofs.Ytldhkhaciflmoaa
open Go.RowKit

theorem bytes_cells (w : World) (bs : List Nat) (hb : ∀ b ∈ bs, b < 256) (hl : bs.length ≤ 100000000) : Bytes (w.alloc (.cells (bvs bs).toArray 5)) (some ⟨w.heap.size, 0, none⟩) bs.length bs.length bs :=
  ⟨rfl, Nat.le_refl _, by omega, hb, fun _ => ⟨w.heap.size, 0, rfl, by simp, fun i b hi => by
    rw [(Whole.made w 5 (bvs bs).toArray).reads]
    simp [bvs, hi]⟩⟩
theorem rhalf_any (u : ByteArray) (k : Nat) (w : World) (h : k + 1 < u.size) (hs : u.size ≤ 140737488355327) :
    Calls Try.prog 41 #[.string u, .int .i64 k] w fun e w' => e = .returned (.int .i64 (hiU (u.data.toList.drop k) : Nat)) ∧ ∃ n, w' = w.drewN n := by
  have h0 : k < u.size := by omega
  have h0' : (k : Int) < (u.size : Int) := by omega
  have h1' : (k : Int) + 1 < (u.size : Int) := by omega
  have HU : Hid (hiU (u.data.toList.drop k) = 256 * u[k].toNat + u[k + 1].toNat) := Lib.hid (hiU_at (a := u[k]) (b := u[k + 1]) (by
    rw [List.getElem?_eq_getElem (by simpa using h0)]
    rfl) (by
    rw [List.getElem?_eq_getElem (by simpa using h)]
    rfl))
  have b0 := u[k].toNat_lt
  have b1 := u[k + 1].toNat_lt
  have j1 : IntKind.i64.wrap ((k : Int) + 1) = (k : Int) + 1 := by rw [IntWalk.i64_in _ (by omega)]
  have j2 : (0 : Int) ≤ (k : Int) + 1 := by omega
  have j3 : ((k : Int) + 1).toNat = k + 1 := by omega
  go_enter Try.func41, Try.ntmps41
  go_wp2_with fail
  go_quiet (fail)
  go_wp2_with fail
  go_ret
  exact ⟨by rw [HU.out, Int.natCast_add, Int.natCast_mul]; rfl, _, rfl⟩
set_option maxRecDepth 100000 in
set_option maxHeartbeats 4000000 in
theorem rput_any (n : Nat) (w : World) (h : n < 1114112) :
    Calls Try.prog 42 #[.int .i64 n] w fun e w' => e = .returned (.string (strB (putU n))) ∧ Below w.heap.size w w' := by
  have HC := (bytes_cells w (putU n) (putU_lt h) (by have := putU_length n; omega)).str
  by_cases h1 : n < 128
  · have e : putU n = [n] := by unfold putU; rw [if_pos h1]
    rw [e] at HC ⊢
    simp only [bvs, List.map_cons, List.map_nil, List.length_cons, List.length_nil, Nat.zero_add] at HC
    have d : decide ((n : Int) < 128) = true := by simp; omega
    go_enter Try.func42, Try.ntmps42
    go_wp2_with fail
    go_ret
    exact ⟨rfl, (Below.refl _ _).alloc (Nat.le_refl _) _⟩
  by_cases h2 : n < 2048
  · have e : putU n = [192 + n / 64, 128 + n % 64] := by unfold putU; rw [if_neg h1, if_pos h2]
    rw [e] at HC ⊢
    simp only [bvs, List.map_cons, List.map_nil, List.length_cons, List.length_nil, Nat.zero_add, Nat.reduceAdd, Int.natCast_add, Int.natCast_ediv, Int.natCast_emod, Int.cast_ofNat_Int] at HC
    have d : decide ((n : Int) < 128) = false := by simp; omega
    have d2 : decide ((n : Int) < 2048) = true := by simp; omega
    go_enter Try.func42, Try.ntmps42
    go_wp2_with fail
    go_ret
    exact ⟨rfl, (Below.refl _ _).alloc (Nat.le_refl _) _⟩
  by_cases h3 : n < 65536
  · have e : putU n = [224 + n / 4096, 128 + n / 64 % 64, 128 + n % 64] := by unfold putU; rw [if_neg h1, if_neg h2, if_pos h3]
    rw [e] at HC ⊢
    simp only [bvs, List.map_cons, List.map_nil, List.length_cons, List.length_nil, Nat.zero_add, Nat.reduceAdd, Int.natCast_add, Int.natCast_ediv, Int.natCast_emod, Int.cast_ofNat_Int] at HC
    have d : decide ((n : Int) < 128) = false := by simp; omega
    have d2 : decide ((n : Int) < 2048) = false := by simp; omega
    have d3 : decide ((n : Int) < 65536) = true := by simp; omega
    go_enter Try.func42, Try.ntmps42
    go_wp2_with fail
    go_ret
    exact ⟨rfl, (Below.refl _ _).alloc (Nat.le_refl _) _⟩
  · have e : putU n = [240 + n / 262144, 128 + n / 4096 % 64, 128 + n / 64 % 64, 128 + n % 64] := by unfold putU; rw [if_neg h1, if_neg h2, if_neg h3]
    rw [e] at HC ⊢
    simp only [bvs, List.map_cons, List.map_nil, List.length_cons, List.length_nil, Nat.zero_add, Nat.reduceAdd, Int.natCast_add, Int.natCast_ediv, Int.natCast_emod, Int.cast_ofNat_Int] at HC
    have d : decide ((n : Int) < 128) = false := by simp; omega
    have d2 : decide ((n : Int) < 2048) = false := by simp; omega
    have d3 : decide ((n : Int) < 65536) = false := by simp; omega
    go_enter Try.func42, Try.ntmps42
    go_wp2_with fail
    go_ret
    exact ⟨rfl, (Below.refl _ _).alloc (Nat.le_refl _) _⟩
end Go.Proofs.Ytldhkhaciflmoaa
