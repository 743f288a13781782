/- inflate: the codes for lengths. -/
import Derived.Test.YtnjdnldoopgcpaaDoorInfL
namespace Go.Proofs.YtnjdnldoopgcpaaDoor
open Go.RowKit

/-- The variables of the package: order and repeats. -/
def Env (w : World) : Prop := 2 ≤ w.heap.size ∧ (∀ (i v : Nat), orderT[i]? = some v → w.cell? ⟨0, i, none⟩ = some (.int .i64 (v : Int))) ∧
  (∀ s : Nat, 16 ≤ s → s ≤ 18 → w.cell? ⟨1, (s - 16) * 2, none⟩ = some (.int .i64 (repB s : Int)) ∧ w.cell? ⟨1, (s - 16) * 2 + 1, none⟩ = some (.int .i64 (repL s : Int)))
theorem Env.kept {w w' : World} {B : Nat} (h : Env w) (hb : Below B w w') (hB : 2 ≤ B) : Env w' := by
  refine ⟨Nat.le_trans h.1 hb.size, fun i v hv => (hb.cell (p := ⟨0, i, none⟩) (by show 0 < B; omega)).trans (h.2.1 i v hv), fun s h1 h2 => ⟨(hb.cell (p := ⟨1, (s - 16) * 2, none⟩) (by show 1 < B; omega)).trans (h.2.2 s h1 h2).1, (hb.cell (p := ⟨1, (s - 16) * 2 + 1, none⟩) (by show 1 < B; omega)).trans (h.2.2 s h1 h2).2⟩⟩
theorem Env.here {w w' : World} (h : Env w) (hb : Below w.heap.size w w') : Env w' := h.kept hb h.1
theorem orderT_len : orderT.length = 19 := rfl
theorem orderT_lt {i v : Nat} (h : orderT[i]? = some v) : v < 19 := by
  have h2 : ∀ v ∈ orderT, v < 19 := by decide
  exact h2 v (List.mem_of_getElem? h)
theorem placeL_len (told : List Nat) : ∀ i, (placeL told i).length = 19
  | 0 => rfl
  | i + 1 => by rw [placeL, List.length_set, placeL_len told i]
theorem placeL_step {told : List Nat} {i o v : Nat} (ho : orderT[i]? = some o) (hv : told[i]? = some v) : (iiv (placeL told i)).toArray.setIfInBounds o (.int .i64 (v : Int)) = (iiv (placeL told (i + 1))).toArray := by
  rw [placeL, List.getD_eq_getElem?_getD, ho, List.getD_eq_getElem?_getD, hv, List.setIfInBounds_toArray]
  unfold iiv
  rw [List.map_set]
  rfl
/-- What codeLengthCodes answers. -/
def LcIs (x : Cx) (p3 p4 : Value) (a : Acc) (N L k : Nat) (w : World) (e : Ending) (w' : World) : Prop :=
  ∃ (p : Option Nat) (E : Int), e = .returned (.tuple #[.pointer (p.map fun P => ⟨P, 0, none⟩), .int .i64 E]) ∧ Fl x w w' ∧
    ((E = 0 ∧ ∃ N' L' cl P, lenCodesP k N L = .ok (cl, N', L') ∧ L' ≤ L ∧ p = some P ∧ cl.length = 19 ∧ TabAt w' P cl ∧ DecS x w' p3 p4 a N' L') ∨ (E ≠ 0 ∧ p = none ∧ lenCodesP k N L = .error E))
set_option maxRecDepth 100000 in
set_option maxHeartbeats 2000000 in
theorem lenCodes_any (x : Cx) (p3 p4 : Value) (a : Acc) (N L k : Nat) (w : World) (h : DecS x w p3 p4 a N L) (hE : Env w) (hb2 : 2 ≤ x.base) (hk1 : 1 ≤ k) (hk : k ≤ 19) :
    Calls Tryd.prog 73 #[.pointer (some ⟨x.D, 0, none⟩), .int .i64 (k : Int)] w (LcIs x p3 p4 a N L k w) := by
  have hmk : ∀ W, (Instr.makeSlice 74 (.int .i64 19) (.int .i64 19)).run Tryd.prog W = .ok (.slice (some ⟨W.heap.size, 0, none⟩) 19 19) (W.alloc (.cells (madeCells #[.int .i64 0] 19) 3)) := fun W => run_make_row' (P := Tryd.prog) 74 3 (.int .i64 0) 8 Tryd.underlying74 (by kernel_rfl) rfl .i64 .i64 19 (by omega) (by omega) W
  obtain ⟨w4, hw4⟩ : ∃ w4, w.alloc (.cells #[.int .i64 3] 3) = w4 := ⟨_, rfl⟩
  have hb4 : Below w.heap.size w w4 := by rw [← hw4]; exact (Below.refl _ _).alloc (Nat.le_refl _) _
  have hwf : Whole w4 w.heap.size 3 (iiv [3]).toArray := by rw [← hw4]; exact Whole.made _ _ _
  have HRP := Lib.hid (repeat_any (some ⟨w.heap.size, 0, none⟩) 1 3 k w4 (IntsAt.of_whole hwf (by decide)) hk1 (by omega))
  have H4 := Lib.hid (And.intro (h.later hb4) (Fl.new (x := x) hb4))
  have HEN := Lib.hid hE
  have HLOW := Lib.hid h.low
  clear h hE hb4 hwf
  go_enter Tryd.func73, Tryd.ntmps73
  go_wp2_with fail
  refine HRP.out.mono ?_
  rintro e w5 ⟨G5, rfl, hG5, hw5, hb⟩
  have H5 := Lib.hid (And.intro (H4.out.1.later hb) (H4.out.2.trans (Fl.new hb)))
  have hi5 : IntsAt w5 (some ⟨G5, 0, none⟩) k k ((List.replicate k 3).map Int.ofNat) := by
    have := IntsAt.of_whole hw5 (by rw [List.length_replicate]; omega)
    rw [List.length_replicate] at this
    rw [List.map_replicate]
    exact this
  have HFI := Lib.hid (fields_any x p3 p4 a N L (some ⟨G5, 0, none⟩) k k (List.replicate k 3) w5 H5.out.1 hi5 (fun R o e => by
    injection e with e
    injection e with e
    obtain ⟨rc, hrw⟩ := H5.out.1.rd.whole
    rw [← e]
    exact hw5.apart hrw (by decide)) (fun z hz => by rw [List.eq_of_mem_replicate hz]; decide) (by omega))
  clear hi5 hw5 hb hG5 HRP
  go_wp2_with fail
  refine HFI.out.mono ?_
  rintro e w6 ⟨A6, c6, vs, E, rfl, hf, hv⟩
  have HF6 := Lib.hid (H5.out.2.trans (Fl.ofB hf))
  rcases hv with ⟨rfl, N1, L1, G6, hp, hvl, hL, hr, rfl, hG6, rfl, hw6, hlt⟩ | ⟨hE, rfl, hp⟩
  rotate_left
  · have d1 : (E != 0) = true := by simp [hE]
    have HZ := Lib.hid (show lenCodesP k N L = .error E by unfold lenCodesP; rw [bnd_er hp])
    clear hp hf
    go_wp2_with fail
    go_ret2
    exact ⟨none, E, rfl, HF6.out, .inr ⟨hE, rfl, HZ.out⟩⟩
  rw [List.length_replicate] at hvl
  have H6 := Lib.hid (And.intro (H5.out.1.keep hf hr hL) (And.intro HF6.out hw6))
  have HP := Lib.hid (And.intro hp hlt)
  have HEN6 := Lib.hid (HEN.out.kept (HF6.out.below HLOW.out) hb2)
  obtain ⟨wA, hwA⟩ : ∃ wA, w6.alloc (.cells (madeCells #[.int .i64 0] 19) 3) = wA := ⟨_, rfl⟩
  have hbA : Below w6.heap.size w6 wA := by rw [← hwA]; exact (Below.refl _ _).alloc (Nat.le_refl _) _
  have HA := Lib.hid (And.intro (H6.out.1.later hbA) (And.intro (HF6.out.trans (Fl.new hbA)) (H6.out.2.2.here hbA)))
  have HG := Lib.hid (show Whole wA w6.heap.size 3 (iiv (placeL vs 0)).toArray by rw [← hwA, show (iiv (placeL vs 0)).toArray = madeCells #[.int .i64 0] 19 by rw [repL2_zero 0 19]; rfl]; exact Whole.made _ _ _)
  have HBA := Lib.hid hbA
  have HENA := Lib.hid (HEN6.out.here hbA)
  have hG6l := hw6.lt
  clear hp hf hr hw6 hlt hbA hL HFI
  go_wp2_with fail
  go_loopw [25] (fun s25 wr => ∃ i : Nat, s25 = .int .i64 (i : Int) ∧ i ≤ vs.length ∧ Hid (Whole wr w6.heap.size 3 (iiv (placeL vs i)).toArray ∧ Below w6.heap.size wA wr)) (fun s25 _ => vs.length - (intOf s25).toNat)
  case atStart => exact ⟨0, rfl, by omega, Lib.hid ⟨HG.out, Below.refl _ _⟩⟩
  case round =>
    obtain ⟨i, rfl, hi, HR⟩ := hrel
    by_cases hlt : i < vs.length
    · have d3 : decide ((i : Int) < (vs.length : Int)) = true := decide_eq_true (by omega)
      obtain ⟨v, hv⟩ : ∃ v, vs[i]? = some v := ⟨_, List.getElem?_eq_getElem hlt⟩
      obtain ⟨o, ho⟩ : ∃ o, orderT[i]? = some o := ⟨_, List.getElem?_eq_getElem (by rw [orderT_len]; omega)⟩
      have ho19 := orderT_lt ho
      have c0 : wr.cell? ⟨0, i, none⟩ = some (.int .i64 (o : Int)) := (HENA.out.kept HR.out.2 (by have := HEN6.out.1; omega)).2.1 i o ho
      have hwv := HA.out.2.2.later HR.out.2 hG6l
      have c1 : wr.cell? ⟨G6, i, none⟩ = some (.int .i64 (v : Int)) := by
        rw [hwv.reads i, fillA_full]
        unfold iiv
        simp [hv]
      have c2 : ∃ u, wr.cell? ⟨w6.heap.size, o, none⟩ = some u := ⟨_, (HR.out.1.reads o).trans (Array.getElem?_eq_getElem (by rw [List.size_toArray, iiv_length, placeL_len]; exact ho19))⟩
      obtain ⟨u, hu⟩ := c2
      have ft := HR.out.1.thawed o
      have lG := HR.out.1.lt
      have hset := HR.out.1.set o (.int .i64 (v : Int))
      rw [placeL_step ho hv] at hset
      have HS := Lib.hid (And.intro hset (HR.out.2.setCell (p := ⟨w6.heap.size, o, none⟩) (Nat.le_refl _) (.int .i64 (v : Int))))
      have b1 : (0 : Int) ≤ (i : Int) := by omega
      have b2 : (i : Int) < (vs.length : Int) := by omega
      have b3 : (i : Int) < 19 := by omega
      have b4 : (0 : Int) ≤ (o : Int) := by omega
      have b5 : (o : Int) < 19 := by omega
      have l0 : 0 < wr.heap.size := by omega
      have l6 := hwv.lt
      clear hv ho hwv hset
      go_wp2_with fail
      go_roundw
      case rel => exact ⟨i + 1, by go_num, by omega, HS⟩
      case measure => simp [intOf]; omega
    · obtain rfl : i = vs.length := by omega
      have d3 : decide ((vs.length : Int) < (vs.length : Int)) = false := by simp
      have hb6 : Below w6.heap.size w6 wr := HBA.out.trans HR.out.2
      have H7 := Lib.hid (And.intro (H6.out.1.later hb6) (HF6.out.trans (Fl.new hb6)))
      have hi7 := IntsAt.of_whole HR.out.1 (by rw [placeL_len]; decide)
      rw [placeL_len] at hi7
      have HM := Lib.hid (make_is (some ⟨w6.heap.size, 0, none⟩) 19 19 (placeL vs vs.length) wr hi7)
      have HPL := Lib.hid (show lenCodesP k N L = (bnd (makeP (placeL vs vs.length)) fun _ => rtn (placeL vs vs.length) : Ps (List Int)) N1 L1 by unfold lenCodesP; rw [bnd_ok HP.out.1, hvl])
      have hL1 : L1 ≤ L := by have := fieldsP_len _ HP.out.1; omega
      clear hb6 hi7
      go_wp2_with fail
      refine HM.out.mono ?_
      rintro e w8 ⟨p, E, rfl, hb, hv⟩
      have H8 := Lib.hid (And.intro (H7.out.1.later hb) (H7.out.2.trans (Fl.new hb)))
      rcases hv with ⟨rfl, hp, P, rfl, ht⟩ | ⟨hE, rfl, hp⟩
      · have HT := Lib.hid ht
        have HZ := Lib.hid (show lenCodesP k N L = .ok (placeL vs vs.length, N1, L1) by rw [HPL.out, hp]; rfl)
        clear hb ht hp
        go_wp2_with fail
        go_ret2
        exact ⟨some P, 0, rfl, H8.out.2, .inl ⟨rfl, N1, L1, placeL vs vs.length, P, HZ.out, hL1, rfl, placeL_len _ _, HT.out, H8.out.1⟩⟩
      · have HZ := Lib.hid (show lenCodesP k N L = .error E by rw [HPL.out, hp]; rfl)
        clear hb hp
        go_wp2_with fail
        go_ret2
        exact ⟨none, E, rfl, H8.out.2, .inr ⟨hE, rfl, HZ.out⟩⟩
end Go.Proofs.YtnjdnldoopgcpaaDoor
