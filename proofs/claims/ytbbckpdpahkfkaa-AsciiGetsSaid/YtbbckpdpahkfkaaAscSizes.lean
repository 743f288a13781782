/- AsciiSizes: its walk. -/
import Derived.Test.YtbbckpdpahkfkaaAscO
namespace Go.Proofs.Ytbbckpdpahkfkaa
open Go.RowKit

theorem putG_one {g : List Nat} (h : g.length = 4) : 1 ≤ (putG g).length ∧ (putG g).length ≤ 5 := by
  unfold putG
  split
  · simp
  · rw [List.length_take, h]; simp [fiveD]
theorem putG_last {g : List Nat} (h : g.length ≤ 3) : (putG g).length = g.length + 1 := by
  unfold putG
  rw [if_neg (by omega), List.length_take]
  simp [fiveD]
  omega
theorem putN_both (bs : List Nat) : ∀ m, 4 * m ≤ bs.length → m ≤ (putN bs m).length ∧ (putN bs m).length ≤ 5 * m
  | 0, _ => by simp [putN]
  | m + 1, h => by
    have h1 := putN_both bs m (by omega)
    have h2 := putG_one (g := rowM bs 4 m) (by unfold rowM; rw [List.length_take, List.length_drop]; omega)
    rw [putN, List.length_append]
    omega
def leftN (n : Nat) : Nat := if 0 < n % 4 then n % 4 + 1 else 0
theorem putS_both (bs : List Nat) : bs.length / 4 + leftN bs.length ≤ (putS bs).length ∧ (putS bs).length ≤ bs.length / 4 * 5 + leftN bs.length := by
  have h1 := putN_both bs (bs.length / 4) (by omega)
  unfold putS leftN
  by_cases h : 0 < bs.length % 4
  · have h2 := putG_last (g := rowM bs 4 (bs.length / 4)) (by unfold rowM; rw [List.length_take, List.length_drop]; omega)
    have h3 : (rowM bs 4 (bs.length / 4)).length = bs.length % 4 := by unfold rowM; rw [List.length_take, List.length_drop]; omega
    rw [if_pos h, show (bs.length + 3) / 4 = bs.length / 4 + 1 by omega, putN, List.length_append]
    omega
  · rw [if_neg h, show (bs.length + 3) / 4 = bs.length / 4 by omega]
    omega
set_option maxRecDepth 100000 in
set_option maxHeartbeats 4000000 in
set_option pp.deepTerms true in
set_option pp.maxSteps 1000000 in
theorem sizes_law (A : Option Addr) (n c : Nat) (bs : List Nat) (most : Int) (w : World) (h : Bytes w A n c bs) (hM : MX w) :
    Calls Try.prog 6 #[.slice A n c, .int .i64 most] w (True_ w) := by
  obtain rfl := h.len
  by_cases g1 : 500 < bs.length
  · go_enter Try.func6, Try.ntmps6
    go_wp2
    go_ret
    exact ⟨rfl, Below.refl _ _⟩
  have d1 : decide ((500 : Int) < (bs.length : Int)) = false := by simp; omega
  by_cases g2 : most < 0
  · go_enter Try.func6, Try.ntmps6
    go_wp2
    go_ret
    exact ⟨rfl, Below.refl _ _⟩
  have d2 : decide (most < 0) = false := by simp; omega
  by_cases g3 : 1048576 < most
  · go_enter Try.func6, Try.ntmps6
    go_wp2
    go_ret
    exact ⟨rfl, Below.refl _ _⟩
  have d3 : decide (1048576 < most) = false := by simp; omega
  have hr1 : unhexR (hexS bs ++ [62]) most = if most < (bs.length : Int) then (2, []) else (0, bs) := by
    have := unhexR_hex (bs := bs) (a := hexS bs) (ws := []) (b := []) (rest := []) (most := most) h.byte (by simp) (by simp)
    rw [if_neg (by omega)] at this
    simpa using this
  have hr2 : getR (putS bs ++ [126, 62]) most = if most < (bs.length : Int) then (2, []) else (0, bs) := by
    have := getR_put (bs := bs) (a := putS bs) (ws := []) (b := []) (rest := []) (most := most) h.byte (by simp) (by simp)
    rw [if_neg (by omega)] at this
    simpa using this
  have hx : ∀ x ∈ hexS bs ++ [62], x < 256 := fun x hx => by
    rcases List.mem_append.1 hx with h1 | h1
    · exact hexS_byte h.byte x h1
    · simp at h1; omega
  have hy : ∀ x ∈ putS bs ++ [126, 62], x < 256 := fun x hx => by
    rcases List.mem_append.1 hx with h1 | h1
    · have := putS_ok bs x h1; omega
    · simp at h1; omega
  obtain ⟨hb1, hb2⟩ := putS_both bs
  have hxl : (hexS bs ++ [62]).length = 2 * bs.length + 1 := by rw [List.length_append, hexS_len]; rfl
  have hyl : (putS bs ++ [126, 62]).length = (putS bs).length + 2 := by rw [List.length_append]; rfl
  have hzx : (strB (hexS bs ++ [62])).size = 2 * bs.length + 1 := by rw [strB_size, hxl]
  obtain ⟨P, hP⟩ : ∃ P, (putS bs).length = P := ⟨_, rfl⟩
  have hzy : (strB (putS bs ++ [126, 62])).size = P + 2 := by rw [strB_size, hyl, hP]
  rw [hP] at hb1 hb2 hyl
  have hP9 : P ≤ 2700 := by
    have : leftN bs.length ≤ 4 := by unfold leftN; split <;> omega
    omega
  obtain ⟨X, hX⟩ : ∃ X, hexS bs ++ [62] = X := ⟨_, rfl⟩
  obtain ⟨Y, hY⟩ : ∃ Y, putS bs ++ [126, 62] = Y := ⟨_, rfl⟩
  have hhex := hex_any A bs.length c bs w h (by omega)
  have hput := fun w h => put_any A bs.length c bs w h (by omega)
  rw [hX] at hr1 hx hxl hzx hhex
  rw [hY] at hr2 hy hyl hzy hput
  obtain ⟨E, L, hEL⟩ : ∃ E L, (if most < (bs.length : Int) then ((2 : Int), ([] : List Nat)) else (0, bs)) = (E, L) := ⟨_, _, rfl⟩
  rw [hEL] at hr1 hr2
  obtain ⟨sx, hsx⟩ : ∃ s, strB X = s := ⟨_, rfl⟩
  obtain ⟨sy, hsy⟩ : ∃ s, strB Y = s := ⟨_, rfl⟩
  have hun := fun w hM => unhex_any X most w hx (by omega) hM
  have hge := fun w hM => get_any Y most w hy (by omega) hM
  rw [hsx] at hzx hhex hun
  rw [hsy] at hzy hput hge
  rw [hr1] at hun
  rw [hr2] at hge
  have HHEX := Lib.hid hhex
  have HPUT := Lib.hid hput
  have HUN := Lib.hid hun
  have HGE := Lib.hid hge
  have hE : (most < (bs.length : Int) ∧ (E == 0) = false ∧ decide ((bs.length : Int) ≤ most) = false) ∨ (¬ most < (bs.length : Int) ∧ (E == 0) = true ∧ decide ((bs.length : Int) ≤ most) = true) := by
    by_cases hg : most < (bs.length : Int)
    · rw [if_pos hg] at hEL
      injection hEL with e1 _
      subst e1
      exact .inl ⟨hg, rfl, by simp; omega⟩
    · rw [if_neg hg] at hEL
      injection hEL with e1 _
      subst e1
      exact .inr ⟨hg, rfl, by simp; omega⟩
  have HE := Lib.hid hE
  have H := Lib.hid h
  have HM := Lib.hid hM
  have hlf : (0 < bs.length % 4 ∧ leftN bs.length = bs.length % 4 + 1) ∨ (bs.length % 4 = 0 ∧ leftN bs.length = 0) := by
    unfold leftN; split <;> omega
  have HLF := Lib.hid (And.intro hlf (And.intro hb1 hb2))
  clear hhex hput hun hge hr1 hr2 hx hy hEL h hxl hyl hX hY hsx hsy hE hM hP hlf hb1 hb2
  generalize bs.length = N at *
  have h500 : N ≤ 500 := by omega
  have hlf := HLF.out
  rcases hlf with ⟨⟨hr, hle⟩ | ⟨hr, hle⟩, hb1, hb2⟩
  · rw [hle] at hb1 hb2
    have d0 : decide ((0 : Int) < (N : Int) % 4) = true := by simp; omega
    have d4 : decide (((P : Int) + 2) ≤ (N : Int) / 4 * 5 + ((N : Int) % 4 + 1) + 2) = true := by simp; omega
    have d5 : decide ((N : Int) / 4 + ((N : Int) % 4 + 1) + 2 ≤ ((P : Int) + 2)) = true := by simp; omega
    have d4' : decide ((P : Int) ≤ (N : Int) / 4 * 5 + ((N : Int) % 4 + 1)) = true := by simp; omega
    have d5' : decide ((N : Int) / 4 + ((N : Int) % 4 + 1) ≤ (P : Int)) = true := by simp; omega
    have HL := Lib.hid (And.intro hr (And.intro hle (And.intro hb1 hb2)))
    clear hr hle hb1 hb2
    go_enter Try.func6, Try.ntmps6
    go_wp2_with fail
    refine HHEX.out.mono ?_
    rintro e w1 ⟨rfl, hb1⟩
    have H1 := Lib.hid hb1
    clear hb1
    go_wp2_with fail
    refine (HPUT.out w1 (H.out.below H1.out)).mono ?_
    rintro e w2 ⟨rfl, hb2⟩
    have H2 := Lib.hid (H1.out.trans (hb2.mono H1.out.size))
    clear hb2
    go_wp2_with fail
    refine (HUN.out _ (HM.out.below H2.out HM.out.1)).mono ?_
    rintro e w3 ⟨A3, c3, rfl, hy3, hb3⟩
    have H3 := Lib.hid (H2.out.trans (hb3.mono H2.out.size))
    clear hy3 hb3
    go_wp2_with fail
    refine (HGE.out _ (HM.out.below H3.out HM.out.1)).mono ?_
    rintro e w4 ⟨A4, c4, rfl, hy4, hb4⟩
    have H4 := Lib.hid (H3.out.trans (hb4.mono H3.out.size))
    clear hy4 hb4
    go_wp2_with fail
    refine (awake_any _ (HM.out.below H4.out HM.out.1)).mono ?_
    rintro e w5 ⟨rfl, hb5⟩
    have H5 := Lib.hid (H4.out.trans (hb5.mono H4.out.size))
    clear hb5
    rcases HE.out with ⟨-, e1, e2⟩ | ⟨-, e1, e2⟩
    · clear HE HL HLF HHEX HPUT HUN HGE HM H H1 H2 H3 H4
      go_wp2_with fail
      go_ret
      exact ⟨rfl, H5.out⟩
    · clear HE HL HLF HHEX HPUT HUN HGE HM H H1 H2 H3 H4
      go_wp2_with fail
      go_ret
      exact ⟨rfl, H5.out⟩
  · rw [hle] at hb1 hb2
    have d0 : decide ((0 : Int) < (N : Int) % 4) = false := by simp; omega
    have d4 : decide (((P : Int) + 2) ≤ (N : Int) / 4 * 5 + ((N : Int) % 4) + 2) = true := by simp; omega
    have d5 : decide ((N : Int) / 4 + ((N : Int) % 4) + 2 ≤ ((P : Int) + 2)) = true := by simp; omega
    have d4' : decide ((P : Int) ≤ (N : Int) / 4 * 5 + ((N : Int) % 4)) = true := by simp; omega
    have d5' : decide ((N : Int) / 4 + ((N : Int) % 4) ≤ (P : Int)) = true := by simp; omega
    have HL := Lib.hid (And.intro hr (And.intro hle (And.intro hb1 hb2)))
    clear hr hle hb1 hb2
    go_enter Try.func6, Try.ntmps6
    go_wp2_with fail
    refine HHEX.out.mono ?_
    rintro e w1 ⟨rfl, hb1⟩
    have H1 := Lib.hid hb1
    clear hb1
    go_wp2_with fail
    refine (HPUT.out w1 (H.out.below H1.out)).mono ?_
    rintro e w2 ⟨rfl, hb2⟩
    have H2 := Lib.hid (H1.out.trans (hb2.mono H1.out.size))
    clear hb2
    go_wp2_with fail
    refine (HUN.out _ (HM.out.below H2.out HM.out.1)).mono ?_
    rintro e w3 ⟨A3, c3, rfl, hy3, hb3⟩
    have H3 := Lib.hid (H2.out.trans (hb3.mono H2.out.size))
    clear hy3 hb3
    go_wp2_with fail
    refine (HGE.out _ (HM.out.below H3.out HM.out.1)).mono ?_
    rintro e w4 ⟨A4, c4, rfl, hy4, hb4⟩
    have H4 := Lib.hid (H3.out.trans (hb4.mono H3.out.size))
    clear hy4 hb4
    go_wp2_with fail
    refine (awake_any _ (HM.out.below H4.out HM.out.1)).mono ?_
    rintro e w5 ⟨rfl, hb5⟩
    have H5 := Lib.hid (H4.out.trans (hb5.mono H4.out.size))
    clear hb5
    rcases HE.out with ⟨-, e1, e2⟩ | ⟨-, e1, e2⟩
    · clear HE HL HLF HHEX HPUT HUN HGE HM H H1 H2 H3 H4
      go_wp2_with fail
      go_ret
      exact ⟨rfl, H5.out⟩
    · clear HE HL HLF HHEX HPUT HUN HGE HM H H1 H2 H3 H4
      go_wp2_with fail
      go_ret
      exact ⟨rfl, H5.out⟩
end Go.Proofs.Ytbbckpdpahkfkaa
