/- ascii's reference: Put. -/
import Derived.Test.YtbbckpdpahkfkaaAscRa
namespace Go.Proofs.Ytbbckpdpahkfkaa
open Go.RowKit

/-- The number of the first k of four bytes from a place. -/
def numK (bs : List Nat) (p : Nat) : Nat → Nat
  | 0 => 0
  | k + 1 => numK bs p k * 256 + bs.getD (p + k) 0
theorem numK_four (bs : List Nat) (m : Nat) : numK bs (4 * m) 4 = num4 (rowM bs 4 m) := by
  have h : ∀ k, k < 4 → (rowM bs 4 m).getD k 0 = bs.getD (4 * m + k) 0 := fun k hk => by
    unfold rowM
    rw [List.getD_eq_getElem?_getD, List.getD_eq_getElem?_getD, List.getElem?_take, if_pos hk, List.getElem?_drop, show m * 4 + k = 4 * m + k by omega]
  unfold num4
  rw [h 0 (by omega), h 1 (by omega), h 2 (by omega), h 3 (by omega)]
  simp [numK]
theorem numK_lt (bs : List Nat) (p : Nat) (hb : ∀ x ∈ bs, x < 256) : ∀ k, numK bs p k < 256 ^ k
  | 0 => by simp [numK]
  | k + 1 => by
    have h1 := numK_lt bs p hb k
    have h2 : bs.getD (p + k) 0 < 256 := by
      rw [List.getD_eq_getElem?_getD]
      cases e : bs[p + k]? with
      | none => simp
      | some x => exact hb x (List.mem_of_getElem? e)
    rw [numK, Nat.pow_succ]
    omega
theorem numK_small (bs : List Nat) (p : Nat) (hb : ∀ x ∈ bs, x < 256) (k : Nat) (hk : k ≤ 4) : numK bs p k < 4294967296 := by
  have h1 := numK_lt bs p hb k
  have h2 : 256 ^ k ≤ 256 ^ 4 := Nat.pow_le_pow_right (by omega) hk
  omega
set_option maxRecDepth 100000 in
set_option maxHeartbeats 4000000 in
theorem put_ref (A : Option Addr) (n c : Nat) (bs : List Nat) (w : World) (h : Bytes w A n c bs) (hn : n ≤ 100000) :
    Calls Try.prog 13 #[.slice A n c] w fun e w' => e = .returned (.string (strB (putS bs ++ [126, 62]))) ∧ Below w.heap.size w w' := by
  obtain rfl := h.len
  have H := Lib.hid h
  have hby := h.byte
  clear h
  have HBY := Lib.hid hby
  obtain ⟨N, hN⟩ : ∃ N, bs.length = N := ⟨_, rfl⟩
  have HN := Lib.hid hN
  have HP := Lib.hid (putN_both bs)
  go_enter Try.func13, Try.ntmps13
  go_wp2
  go_loopw [3, 4] (fun s3 s4 wr => ∃ m : Nat, 4 * m ≤ bs.length + 3 ∧ s3 = .string (strB (putN bs m)) ∧ s4 = .int .i64 ((4 * m : Nat) : Int) ∧ Below w.heap.size w wr) (fun _ s4 _ => bs.length + 3 - (intOf s4).toNat)
  case atStart => exact ⟨0, by omega, rfl, rfl, Below.refl _ _⟩
  case round =>
    obtain ⟨m, hm, rfl, rfl, hb⟩ := hrel
    obtain ⟨p, hp⟩ : ∃ p, 4 * m = p := ⟨_, rfl⟩
    rw [hp]
    have HB := Lib.hid (And.intro hb hp)
    clear hb
    by_cases hlt : p < bs.length
    · obtain ⟨g, hg⟩ : ∃ g, min (bs.length - p) 4 = g := ⟨_, rfl⟩
      have hif : min ((bs.length : Int) - (p : Int)) 4 = (g : Int) := by omega
      have hg4 : g ≤ 4 ∧ 1 ≤ g := by omega
      go_wp2
      go_loopw [5, 6] (fun s5 s6 wx => ∃ k : Nat, k ≤ 4 ∧ s5 = .int .i64 (numK bs p k : Nat) ∧ s6 = .int .i64 k ∧ Below w.heap.size w wx) (fun _ s6 _ => 4 - (intOf s6).toNat)
      case atStart => exact ⟨0, by omega, rfl, rfl, HB.out.1⟩
      case round =>
        obtain ⟨k, hk, rfl, rfl, hb⟩ := hrel
        obtain ⟨x, hx⟩ : ∃ x, numK bs p k = x := ⟨_, rfl⟩
        have hx9 : x < 4294967296 := by rw [← hx]; exact numK_small bs p hby k hk
        rw [hx]
        have HX := Lib.hid (And.intro hx hb)
        clear hb
        by_cases hk4 : k < 4
        · have hnx : numK bs p (k + 1) = x * 256 + bs.getD (p + k) 0 := by rw [numK, hx]
          have hnx9 := numK_small bs p hby (k + 1) (by omega)
          by_cases hin : p + k < bs.length
          · have hbb := H.out.below HX.out.2
            obtain ⟨R, q, rfl, hR, hcell⟩ := hbb.at_ (by omega)
            obtain ⟨y, hy⟩ : ∃ y, bs.getD (p + k) 0 = y := ⟨_, rfl⟩
            have hy2 : bs[p + k]? = some y := by rw [← hy, List.getD_eq_getElem?_getD, List.getElem?_eq_getElem hin]; rfl
            have hc := hcell _ y hy2
            rw [hy] at hnx
            rw [hnx] at hnx9
            have HNX := Lib.hid hnx
            clear hcell hy hy2 hnx hx hN
            go_wp2
            go_roundw
            case rel => exact ⟨k + 1, by omega, by rw [HNX.out]; go_num, by go_num, HX.out.2⟩
            case measure => simp [intOf]; omega
          · have hz : bs.getD (p + k) 0 = 0 := by rw [List.getD_eq_getElem?_getD, List.getElem?_eq_none (by omega)]; rfl
            rw [hz] at hnx
            rw [hnx] at hnx9
            have HNX := Lib.hid hnx
            clear hnx hx hN hz
            go_wp2
            go_roundw
            case rel => exact ⟨k + 1, by omega, by rw [HNX.out]; go_num, by go_num, HX.out.2⟩
            case measure => simp [intOf]; omega
        · obtain rfl : k = 4 := by omega
          have hrow : (rowM bs 4 m).length = g := by unfold rowM; rw [List.length_take, List.length_drop]; omega
          have hx4 : num4 (rowM bs 4 m) = x := by rw [← numK_four, hp, hx]
          have hzP : (strB (putN bs m)).size ≤ 600000 := by
            rw [strB_size]
            rcases Nat.lt_or_ge bs.length (4 * m) with h | h
            · omega
            · have := (HP.out m h).2; omega
          by_cases hz : x = 0 ∧ g = 4
          · have hcat : strB (putN bs m) ++ ⟨#[122]⟩ = strB (putN bs (m + 1)) := by
              rw [show (⟨#[122]⟩ : ByteArray) = strB [122] from rfl, strB_app, putN]
              unfold putG
              rw [hrow, hx4, if_pos hz]
            have e1 : ((x : Int) == 0) = true := by simp; omega
            have e2 : ((g : Int) == 4) = true := by simp; omega
            have HC := Lib.hid hcat
            have HZ := Lib.hid hz
            clear hcat hz hx hx4 hrow hN hp hg
            generalize strB (putN bs m) = S at *
            go_wp2
            rw [HC.out]
            go_roundw
            case rel => exact ⟨m + 1, by have := HB.out.2; omega, rfl, by have := HB.out.2; go_num, HX.out.2⟩
            case measure => simp [intOf]; omega
          · have hcat : strB (putN bs m) ++ (strB (fiveD x)).extract 0 (g + 1) = strB (putN bs (m + 1)) := by
              rw [strB_take, strB_app, putN]
              unfold putG
              rw [hrow, hx4, if_neg hz]
            have z6 : (strB (fiveD x)).size = 5 := by rw [strB_size]; rfl
            have z5 : ((strB (fiveD x)).extract 0 (g + 1)).size ≤ 5 := by rw [strB_take, strB_size, List.length_take]; exact Nat.min_le_right ..
            have hfv := fun w => five_ref x w hx9
            have HC := Lib.hid hcat
            have HF := Lib.hid hfv
            clear hcat hx hx4 hrow hN hp hg hfv
            generalize strB (putN bs m) = S at *
            by_cases hx0 : x = 0
            · have e1 : ((x : Int) == 0) = true := by simp; omega
              have e2 : ((g : Int) == 4) = false := by simp; omega
              have HZ := Lib.hid hz
              have HZ0 := Lib.hid hx0
              clear hz hx0
              go_wp2_with fail
              refine (HF.out _).mono ?_
              rintro e wf ⟨rfl, hbf⟩
              have H5 := Lib.hid (HX.out.2.trans (hbf.mono HX.out.2.size))
              clear hbf
              go_wp2
              rw [HC.out]
              go_roundw
              case rel => exact ⟨m + 1, by have := HB.out.2; omega, rfl, by have := HB.out.2; go_num, H5.out⟩
              case measure => simp [intOf]; omega
            · have e1 : ((x : Int) == 0) = false := by simp; omega
              have HZ := Lib.hid hz
              have HZ0 := Lib.hid hx0
              clear hz hx0
              go_wp2_with fail
              refine (HF.out _).mono ?_
              rintro e wf ⟨rfl, hbf⟩
              have H5 := Lib.hid (HX.out.2.trans (hbf.mono HX.out.2.size))
              clear hbf
              go_wp2
              rw [HC.out]
              go_roundw
              case rel => exact ⟨m + 1, by have := HB.out.2; omega, rfl, by have := HB.out.2; go_num, H5.out⟩
              case measure => simp [intOf]; omega
    · have hme : m = (bs.length + 3) / 4 := by have := HB.out.2; omega
      have hcat : strB (putN bs m) ++ ⟨#[126, 62]⟩ = strB (putS bs ++ [126, 62]) := by
        rw [show (⟨#[126, 62]⟩ : ByteArray) = strB [126, 62] from rfl, strB_app, hme]
        rfl
      have hzP : (strB (putN bs m)).size ≤ 600000 := by
        rw [strB_size]
        have := HB.out.2
        have h2 := (putN_both bs (m - 1) (by omega)).2
        rcases Nat.eq_zero_or_pos m with h0 | h0
        · rw [h0]; simp [putN]
        · obtain ⟨m', rfl⟩ : ∃ m', m = m' + 1 := ⟨m - 1, by omega⟩
          rw [Nat.add_sub_cancel] at h2
          have h3 : (putG (rowM bs 4 m')).length ≤ 5 := by
            unfold putG
            split
            · simp
            · rw [List.length_take]; simp [fiveD]; omega
          rw [putN, List.length_append]
          omega
      have HC := Lib.hid hcat
      clear hcat hme hN hp
      generalize strB (putN bs m) = S at *
      go_wp2
      go_ret
      exact ⟨by rw [HC.out]; rfl, HB.out.1⟩
end Go.Proofs.Ytbbckpdpahkfkaa
