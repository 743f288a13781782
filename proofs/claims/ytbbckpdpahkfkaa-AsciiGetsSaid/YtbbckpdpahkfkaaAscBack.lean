/- AsciiBack: its walk. -/
import Derived.Test.YtbbckpdpahkfkaaAscSizes
import Derived.Deep.RegionWith
namespace Go.Proofs.Ytbbckpdpahkfkaa
open Go.RowKit

theorem undrw {w w' : World} (h : Below w.drew.heap.size w.drew w') : Below w.heap.size w w' := (Below.refl _ _).drew.trans h
theorem strB_of (s : ByteArray) : ∃ l : List Nat, (∀ x ∈ l, x < 256) ∧ strB l = s ∧ l.length = s.size := by
  refine ⟨s.data.toList.map UInt8.toNat, ?_, ?_, ?_⟩
  · intro x hx
    obtain ⟨y, _, rfl⟩ := List.mem_map.1 hx
    exact y.toNat_lt
  · unfold strB
    apply ByteArray.ext
    simp [Function.comp_def]
  · show _ = s.data.size
    simp
theorem strB_take (l : List Nat) (i : Nat) : (strB l).extract 0 i = strB (l.take i) := by
  unfold strB
  apply ByteArray.ext
  simp [List.map_take]
theorem strB_drop (l : List Nat) (i : Nat) : (strB l).extract i (strB l).size = strB (l.drop i) := by
  rw [strB_size]
  unfold strB
  apply ByteArray.ext
  simp only [ByteArray.data_extract, List.extract_toArray, List.extract_eq_take_drop, List.map_drop]
  congr 1
  rw [List.take_of_length_le (by simp)]
theorem slice_h (l : List Nat) (i : Nat) (h : i ≤ l.length) (W : World) : (Instr.sliceAt 9 (.string (strB l)) none (some (.int .i64 (i : Int))) none).run Try.prog W = .ok (.string (strB (l.take i))) W := by
  rw [run_sliceAt_string (h := Try.underlying9), run_slice_string_h (ht := Try.underlying9) (h0 := by omega) (h2 := by rw [strB_size]; omega), Int.toNat_natCast, strB_take]
theorem slice_l (l : List Nat) (i : Nat) (h : i ≤ l.length) (W : World) : (Instr.sliceAt 9 (.string (strB l)) (some (.int .i64 (i : Int))) none none).run Try.prog W = .ok (.string (strB (l.drop i))) W := by
  rw [run_sliceAt_string (h := Try.underlying9), run_slice_string_l (ht := Try.underlying9) (h0 := by omega) (h1 := by rw [strB_size]; omega), Int.toNat_natCast, strB_drop]
set_option maxRecDepth 100000 in
set_option maxHeartbeats 4000000 in
theorem back_law (A : Option Addr) (n c : Nat) (bs : List Nat) (at_ : Int) (s : ByteArray) (w : World) (h : Bytes w A n c bs) (hM : MX w) :
    Calls Try.prog 5 #[.slice A n c, .int .i64 at_, .string s] w (True_ w) := by
  obtain rfl := h.len
  by_cases g1 : 500 < bs.length
  · go_enter Try.func5, Try.ntmps5
    go_wp2
    go_ret
    exact ⟨rfl, Below.refl _ _⟩
  have d1 : decide ((500 : Int) < (bs.length : Int)) = false := by simp; omega
  by_cases g2 : 300 < s.size
  · go_enter Try.func5, Try.ntmps5
    go_wp2
    go_ret
    exact ⟨rfl, Below.refl _ _⟩
  have d2 : decide ((300 : Int) < (s.size : Int)) = false := by simp; omega
  by_cases g3 : at_ < 0
  · go_enter Try.func5, Try.ntmps5
    go_wp2
    go_ret
    exact ⟨rfl, Below.refl _ _⟩
  have d3 : decide (at_ < 0) = false := by simp; omega
  obtain ⟨T, rfl⟩ : ∃ T : Nat, at_ = T := ⟨at_.toNat, by omega⟩
  obtain ⟨rest, hrb, hrs, hrl⟩ := strB_of s
  obtain ⟨X, hX⟩ : ∃ X, hexS bs = X := ⟨_, rfl⟩
  obtain ⟨Y, hY⟩ : ∃ Y, putS bs = Y := ⟨_, rfl⟩
  have hXl : X.length = 2 * bs.length := by rw [← hX, hexS_len]
  have hYl : Y.length ≤ 2600 := by
    have := (putS_both bs).2
    have h4 : leftN bs.length ≤ 4 := by unfold leftN; split <;> omega
    rw [← hY]; omega
  have hXb : ∀ x ∈ X, x < 256 := by rw [← hX]; exact hexS_byte h.byte
  have hYb : ∀ x ∈ Y, x < 256 := fun x hx => by rw [← hY] at hx; have := putS_ok bs x hx; omega
  obtain ⟨i, hi⟩ : ∃ i, T % (X.length + 1) = i := ⟨_, rfl⟩
  obtain ⟨k, hk⟩ : ∃ k, T % (Y.length + 1) = k := ⟨_, rfl⟩
  have hi9 : i ≤ X.length := by have := Nat.mod_lt T (show X.length + 1 > 0 by omega); omega
  have hk9 : k ≤ Y.length := by have := Nat.mod_lt T (show Y.length + 1 > 0 by omega); omega
  have hr1 : unhexR (X.take i ++ [32, 10] ++ X.drop i ++ 62 :: rest) 500 = (0, bs) := by
    rw [unhexR_hex (bs := bs) h.byte (by rw [hX, List.take_append_drop]) (by decide), if_neg (by omega), if_neg (by omega)]
  have hr2 : getR (Y.take k ++ [9] ++ Y.drop k ++ 126 :: 62 :: rest) 500 = (0, bs) := by
    rw [getR_put (bs := bs) h.byte (by rw [hY, List.take_append_drop]) (by decide), if_neg (by omega), if_neg (by omega)]
  have e1 : (X ++ [62]).take i = X.take i := List.take_append_of_le_length hi9
  have e2 : (X ++ [62]).drop i = X.drop i ++ [62] := List.drop_append_of_le_length hi9
  have e3 : (Y ++ [126, 62]).take k = Y.take k := List.take_append_of_le_length hk9
  have e4 : (Y ++ [126, 62]).drop k = Y.drop k ++ [126, 62] := List.drop_append_of_le_length hk9
  have s1 := slice_h (X ++ [62]) i (by rw [List.length_append]; omega)
  have s2 := slice_l (X ++ [62]) i (by rw [List.length_append]; omega)
  have s3 := slice_h (Y ++ [126, 62]) k (by rw [List.length_append]; omega)
  have s4 := slice_l (Y ++ [126, 62]) k (by rw [List.length_append]; omega)
  rw [e1] at s1
  rw [e2] at s2
  rw [e3] at s3
  rw [e4] at s4
  have c1 : strB (X.take i) ++ ⟨#[32, 10]⟩ ++ strB (X.drop i ++ [62]) ++ s = strB (X.take i ++ [32, 10] ++ X.drop i ++ 62 :: rest) := by
    rw [← hrs, show (⟨#[32, 10]⟩ : ByteArray) = strB [32, 10] from rfl, strB_app, strB_app, strB_app]
    congr 1
    simp
  have c2 : strB (Y.take k) ++ ⟨#[9]⟩ ++ strB (Y.drop k ++ [126, 62]) ++ s = strB (Y.take k ++ [9] ++ Y.drop k ++ 126 :: 62 :: rest) := by
    rw [← hrs, show (⟨#[9]⟩ : ByteArray) = strB [9] from rfl, strB_app, strB_app, strB_app]
    congr 1
    simp
  have hun := fun w hM => unhex_any (X.take i ++ [32, 10] ++ X.drop i ++ 62 :: rest) 500 w (fun x hx => by
    simp only [List.mem_append, List.mem_cons, List.not_mem_nil, or_false] at hx
    rcases hx with ((hx | hx) | hx) | hx
    · exact hXb x (List.mem_of_mem_take hx)
    · omega
    · exact hXb x (List.mem_of_mem_drop hx)
    · rcases hx with hx | hx
      · omega
      · exact hrb x hx) (by simp only [List.length_append, List.length_cons, List.length_nil, List.length_take, List.length_drop]; omega) hM
  have hge := fun w hM => get_any (Y.take k ++ [9] ++ Y.drop k ++ 126 :: 62 :: rest) 500 w (fun x hx => by
    simp only [List.mem_append, List.mem_cons, List.not_mem_nil, or_false] at hx
    rcases hx with ((hx | hx) | hx) | hx
    · exact hYb x (List.mem_of_mem_take hx)
    · omega
    · exact hYb x (List.mem_of_mem_drop hx)
    · rcases hx with hx | hx | hx
      · omega
      · omega
      · exact hrb x hx) (by simp only [List.length_append, List.length_cons, List.length_nil, List.length_take, List.length_drop]; omega) hM
  rw [hr1, ← c1] at hun
  rw [hr2, ← c2] at hge
  have hun : ∀ w, MX w → Calls Try.prog 14 #[.string (strB (X.take i) ++ ⟨#[32, 10]⟩ ++ strB (X.drop i ++ [62]) ++ s), .int .i64 500] w (fun e w' => ∃ A c, e = .returned (.tuple #[.slice A bs.length c, .int .i64 0]) ∧ Bytes w' A bs.length c bs ∧ Below w.heap.size w w') := fun w hM => hun w hM
  have hge : ∀ w, MX w → Calls Try.prog 16 #[.string (strB (Y.take k) ++ ⟨#[9]⟩ ++ strB (Y.drop k ++ [126, 62]) ++ s), .int .i64 500] w (fun e w' => ∃ A c, e = .returned (.tuple #[.slice A bs.length c, .int .i64 0]) ∧ Bytes w' A bs.length c bs ∧ Below w.heap.size w w') := fun w hM => hge w hM
  have hhex := hex_any A bs.length c bs w h (by omega)
  have hput := fun w h => put_any A bs.length c bs w h (by omega)
  rw [hX] at hhex
  rw [hY] at hput
  have z1 : (strB (X ++ [62])).size = 2 * bs.length + 1 := by rw [strB_size, List.length_append, hXl]; rfl
  have z2 : (strB (Y ++ [126, 62])).size = Y.length + 2 := by rw [strB_size, List.length_append]; rfl
  have z3 : (strB (X.take i)).size ≤ 1000 := by rw [strB_size, List.length_take]; omega
  have z4 : (strB (X.drop i ++ [62])).size ≤ 1001 := by rw [strB_size, List.length_append, List.length_drop]; simp; omega
  have z5 : (strB (Y.take k)).size ≤ 3000 := by rw [strB_size, List.length_take]; omega
  have z6 : (strB (Y.drop k ++ [126, 62])).size ≤ 3002 := by rw [strB_size, List.length_append, List.length_drop]; simp; omega
  have m1 : (T : Int) % (2 * (bs.length : Int) + 1) = (i : Int) := by rw [← hi, hXl, Int.natCast_emod]; rfl
  obtain ⟨yl, hyl⟩ : ∃ y, Y.length = y := ⟨_, rfl⟩
  rw [hyl] at z2 hYl hk
  have m2 : (T : Int) % ((yl : Int) + 2 - 1) = (k : Int) := by rw [← hk, Int.natCast_emod, show (yl : Int) + 2 - 1 = ((yl + 1 : Nat) : Int) by omega]
  generalize strB (X ++ [62]) = x1 at *
  generalize strB (Y ++ [126, 62]) = y1 at *
  generalize strB (X.take i) = xa at *
  generalize strB (X.drop i ++ [62]) = xb at *
  generalize strB (Y.take k) = ya at *
  generalize strB (Y.drop k ++ [126, 62]) = yb at *
  have HHEX := Lib.hid hhex
  have HPUT := Lib.hid hput
  have HUN := Lib.hid hun
  have HGE := Lib.hid hge
  have H := Lib.hid h
  have HM := Lib.hid hM
  have hi8 : i ≤ 1000 := by omega
  have hk8 : k ≤ 2600 := by omega
  clear hhex hput hun hge hr1 hr2 e1 e2 e3 e4 c1 c2 hrb hrs hrl hX hY hXl hXb hYb hi hk hi9 hk9 h hM hyl
  generalize bs.length = N at *
  go_enter Try.func5, Try.ntmps5
  go_wp2_with fail
  refine HHEX.out.mono ?_
  rintro e w1 ⟨rfl, hb1⟩
  have H1 := Lib.hid hb1
  clear hb1
  go_wp2_with fail
  refine (HPUT.out w1 (H.out.below H1.out)).mono ?_
  rintro e w2 ⟨rfl, hb2⟩
  have H2 := Lib.hid (H1.out.trans (hb2.mono H1.out.size))
  clear hb2
  go_wp2_with fail
  rw [m1, m2]
  have HMa := Lib.hid (HM.out.below H2.out HM.out.1)
  go_cut [11, 12] from 48 to 62 (fun s11 s12 wx => ∃ (A3 : Option Addr) (c3 : Nat), s11 = .slice A3 N c3 ∧ s12 = .int .i64 0 ∧ Hid (Bytes wx A3 N c3 bs ∧ Below w.heap.size w wx))
  case first =>
    have hmd : MX w2.drew := HMa.out
    go_region_with (go_at_call 14; (with_reducible refine (HUN.out _ hmd).mono ?_); rintro e w3 ⟨A3, c3, rfl, hy3, hb3⟩; have hb3 := undrw hb3; have H3 := Lib.hid (And.intro hy3 hb3); clear hy3 hb3)
    all_goals
      go_wp2_with fail
      go_meet
      exact ⟨_, _, rfl, rfl, Lib.hid ⟨H3.out.1, H2.out.trans (H3.out.2.mono H2.out.size)⟩⟩
  case rest =>
    obtain ⟨A3, c3, rfl, rfl, H3⟩ := hcut
    clear HMa
    go_wp2_with fail
    have HMa := Lib.hid (HM.out.below H3.out.2 HM.out.1)
    go_cut [13, 14] from 62 to 76 (fun s13 s14 wx => ∃ (A4 : Option Addr) (c4 : Nat), s13 = .slice A4 N c4 ∧ s14 = .int .i64 0 ∧ Hid (Bytes wx A3 N c3 bs ∧ Bytes wx A4 N c4 bs ∧ Below w.heap.size w wx))
    case first =>
      have hmd : MX wc.drew := HMa.out
      go_region_with (go_at_call 16; (with_reducible refine (HGE.out _ hmd).mono ?_); rintro e w4 ⟨A4, c4, rfl, hy4, hb4⟩; have hb4 := undrw hb4; have H4 := Lib.hid (And.intro hy4 hb4); clear hy4 hb4)
      all_goals
        go_wp2_with fail
        go_meet
        exact ⟨_, _, rfl, rfl, Lib.hid ⟨H3.out.1.below H4.out.2, H4.out.1, H3.out.2.trans (H4.out.2.mono H3.out.2.size)⟩⟩
    case rest =>
      obtain ⟨A4, c4, rfl, rfl, H4⟩ := hcut
      clear HMa
      go_wp2_with fail
      have HMa := Lib.hid (HM.out.below H4.out.2.2 HM.out.1)
      refine (awake_any _ HMa.out).mono ?_
      rintro e w5 ⟨rfl, hb5⟩
      have cA := (H4.out.1.below hb5).str
      have cB := (H4.out.2.1.below hb5).str
      have hb6 := H4.out.2.2.trans (hb5.mono H4.out.2.2.size)
      have cC := (H.out.below hb6).str
      have H6 := Lib.hid hb6
      clear HHEX HPUT HUN HGE HM H H1 H2 H3 H4 hb5 hb6
      go_wp2_with fail
      go_ret
      exact ⟨rfl, H6.out⟩
end Go.Proofs.Ytbbckpdpahkfkaa
