/- raster's reference: Pack of as many samples as wanted. Written by gen_dh.py. -/
import Derived.Test.YtmleoagdelgddaaRasDg
import Derived.StillTailTactics
import Derived.Deep.CutRange
namespace Go.Proofs.Ytmleoagdelgddaa
open Go.RowKit Dec

set_option maxRecDepth 100000 in
set_option maxHeartbeats 8000000 in
theorem rpack_go (W H B C P S N : Nat) (A : Option Addr) (n c : Nat) (A2 : Option Addr) (c2 : Nat) (l : List Int) (w : World) (hF : fmtB (W : Int) (H : Int) (B : Int) (C : Int) = true) (hf : FmtN (W : Int) (H : Int) (B : Int) (C : Int) W H B C P S) (hN : H * P = N) (hl : IntsAt w A2 N c2 l) :
    Calls Try.prog 13 #[.agg #[.int .i64 (W : Int), .int .i64 (H : Int), .int .i64 (B : Int), .int .i64 (C : Int), .slice A n c], .slice A2 N c2] w fun e w' => ((∀ v ∈ l, goodV B v) ∧ RPackGo W H B C P S N l w e w') ∨ ((¬ ∀ v ∈ l, goodV B v) ∧ NoImg w e w') := by
  have hP := hf.p
  have hwh := hf.wh
  have hN2 : N ≤ 262144 := by rw [← hN]; exact hf.n2
  have HS := Lib.hid (fun w => shape_any (W : Int) (H : Int) (B : Int) (C : Int) A n c w)
  rw [hF] at HS
  obtain ⟨M, hM⟩ : ∃ M, W * H = M := ⟨_, rfl⟩
  have hMN : M * C = N := by rw [← hM, ← hN, ← hP, Nat.mul_comm W H, Nat.mul_assoc]
  rw [hM] at hwh
  have e1 : IntKind.i64.wrap ((W : Int) * (H : Int)) = (M : Int) := by rw [← Int.natCast_mul, hM, IntKind.wrap_i64]; omega
  have e2 : IntKind.i64.wrap ((M : Int) * (C : Int)) = (N : Int) := by rw [← Int.natCast_mul, hMN, IntKind.wrap_i64]; omega
  have HRO := Lib.hid (fun w => rrow_any (H : Int) W B C A n c P S w hf.p hf.s (by have := hf.pb; omega) (by have := hf.p2; omega))
  have hB16 : B ≤ 16 := by have := hf.b; omega
  have hH9 : H ≤ 262144 := Nat.le_trans (Nat.le_mul_of_pos_right H hf.p0) hf.n2
  have hB0 : 0 < B := by have := hf.b; omega
  have hP2 := hf.p2
  have hPB := hf.pb
  have hPS := hf.s
  have hHS := hf.hs
  have eP : IntKind.i64.wrap ((W : Int) * (C : Int)) = (P : Int) := by rw [← Int.natCast_mul, hf.p, IntKind.wrap_i64]; omega
  have HPW := Lib.hid (fun w => rpow_any B w (by omega))
  have HF := Lib.hid hf
  have HL := Lib.hid hl
  have HNN := Lib.hid hN
  obtain ⟨T, hT⟩ : ∃ T, 2 ^ B = T := ⟨_, rfl⟩
  rw [hT] at HPW
  have HT := Lib.hid hT
  obtain ⟨ln, hln⟩ : ∃ ln, l.map Int.toNat = ln := ⟨_, rfl⟩
  have HLN := Lib.hid hln
  clear hf hl hF hP hwh hM hMN hT hln
  obtain ⟨hI, hO, hB⟩ := start_img w (.int .i64 (W : Int)) (.int .i64 (H : Int)) (.int .i64 (B : Int)) (.int .i64 (C : Int)) (.slice A n c)
  have HI := Lib.hid hI
  have HO0 := Lib.hid hO
  have HB0 := Lib.hid hB
  clear hI hO hB
  go_enter Try.func13, Try.ntmps13
  go_wp2_with fail
  generalize hW0 : (w.alloc (.cells #[.int .i64 (W : Int), .int .i64 (H : Int), .int .i64 (B : Int), .int .i64 (C : Int), .slice A n c] 24)).alloc (.cells #[.int .i64 0, .int .i64 0, .int .i64 0, .int .i64 0, .slice none 0 0] 24) = W0 at *
  clear hW0
  have i3 := img_cells HI.out
  have i4 := HI.out.lt
  go_wp2_with fail
  refine (HS.out _).mono ?_
  rintro e V ⟨rfl, kk⟩
  have HO := Lib.hid (HO0.out.here kk)
  have HIV := Lib.hid (HI.out.here kk)
  have HB := Lib.hid (HB0.out.trans (kk.mono HB0.out.size))
  have lI := HIV.out.lt
  have lO := HO.out.lt
  clear kk HI HO0 HB0 i3 i4
  obtain ⟨i0, i1, i2⟩ := five_facts HIV.out
  go_wp2_with fail
  have HS0 : Hid (RkSt w (V.alloc (.cells #[.int .i64 (W : Int), .int .i64 (H : Int), .int .i64 (B : Int), .int .i64 (C : Int), .slice none 0 0] 24)) V.heap.size W H B C A n c (.slice none 0 0) 0 []) := Lib.hid (by
    refine ⟨HIV.out.old _, HO.out.old _, Whole.made V 24 _, World.ownsRow_nil _ _ _ _, HB.out.alloc HB.out.size _, ?_, by simp⟩
    have := HB.out.size
    omega)
  obtain ⟨Q, hQ⟩ : ∃ q, V.heap.size = q := ⟨_, rfl⟩
  rw [hQ] at HS0 lI lO ⊢
  generalize (V.alloc (.cells #[.int .i64 (W : Int), .int .i64 (H : Int), .int .i64 (B : Int), .int .i64 (C : Int), .slice none 0 0] 24)) = V1 at *
  clear hQ HIV HO HB i0 i1 i2 HS
  go_loopw [8] (fun s8 wr => ∃ y : Nat, y ≤ H ∧ s8 = .int .i64 (y : Int) ∧ Hid (∃ v ob, RkSt w wr Q W H B C A n c v (y * S) ob ∧ Outs ln B P S y ob ∧ ∀ x ∈ l.take (y * P), goodV B x)) (fun s8 _ => H - (intOf s8).toNat)
  case atStart => exact ⟨0, by omega, rfl, Lib.hid ⟨_, _, by rw [Nat.zero_mul]; exact HS0.out, Outs.zero _ _ _ _, fun x hx => by simp at hx⟩⟩
  case round =>
    obtain ⟨y, hy, rfl, HQ⟩ := hrel
    obtain ⟨v, ob, hq1, hq2, hq3⟩ := HQ.out
    obtain ⟨a5, c5, rfl⟩ := own_sl' hq1.own
    have HR := Lib.hid hq1
    have HU := Lib.hid hq2
    have HG := Lib.hid hq3
    clear hq1 hq2 hq3 HQ HS0
    have lQ := HR.out.low
    by_cases hly : y < H
    · have d1 : decide ((y : Int) < (H : Int)) = true := decide_eq_true (by omega)
      have hmk : ∀ V : World, (Instr.makeSlice 22 (.int .i64 (S : Int)) (.int .i64 (S : Int))).run Try.prog V = .ok (.slice (some ⟨V.heap.size, 0, none⟩) S S) (V.alloc (.cells (bvs (List.replicate S 0)).toArray 5)) := fun V => make_u8 S (by omega) V
      have q1 : (y + 1) * S ≤ H * S := Nat.mul_le_mul_right _ hly
      have q2 : (y + 1) * S = y * S + S := Nat.succ_mul ..
      have q3 : (y + 1) * P ≤ H * P := Nat.mul_le_mul_right _ hly
      have q4 : (y + 1) * P = y * P + P := Nat.succ_mul ..
      have q5 := HNN.out
      obtain ⟨yP, hyP⟩ : ∃ q, y * P = q := ⟨_, rfl⟩
      have u1 : IntKind.i64.wrap ((y : Int) * (P : Int)) = (yP : Int) := by rw [← Int.natCast_mul, hyP, IntKind.wrap_i64]; omega
      have hyN : yP + P ≤ N := by omega
      have hySm : y * S + S ≤ 1000000 := by omega
      have HYP := Lib.hid hyP
      obtain ⟨i0, i1, i2⟩ := five_facts HR.out.im
      clear q1 q2 q3 q4 q5 hyP
      go_wp2_with fail
      refine (HRO.out _).mono ?_
      rintro e V2 ⟨rfl, kk⟩
      have HR2 := Lib.hid (HR.out.call kk)
      clear kk i0 i1 i2 HR
      go_wp2_with fail
      have HK0 := Lib.hid (And.intro ((Below.refl V2.heap.size V2).alloc (Nat.le_refl _) (.cells (bvs (List.replicate S 0)).toArray 5)) (Whole.made V2 5 (bvs (List.replicate S 0)).toArray))
      obtain ⟨RB, hRB⟩ : ∃ q, V2.heap.size = q := ⟨_, rfl⟩
      have HRB := Lib.hid hRB
      rw [hRB] at HK0 ⊢
      generalize V2.alloc (.cells (bvs (List.replicate S 0)).toArray 5) = V3 at *
      clear hRB hmk
      go_loopw [10] (fun s10 wr2 => ∃ i : Nat, i ≤ P ∧ s10 = .int .i64 (i : Int) ∧ Hid (Below RB V2 wr2 ∧ ∃ rb, Part ln B P S y i 0 rb ∧ Whole wr2 RB 5 (bvs rb).toArray) ∧ Hid (∀ x ∈ l.take (yP + i), goodV B x)) (fun s10 _ => P - (intOf s10).toNat)
      case atStart => exact ⟨0, by omega, rfl, Lib.hid ⟨HK0.out.1, _, Part.zero _ _ _ _ _, HK0.out.2⟩, Lib.hid (by rw [← HYP.out]; exact HG.out)⟩
      case round =>
        obtain ⟨i, hi, rfl, HI2, HG2⟩ := hrel
        have HRW := Lib.hid (HR2.out.call (by rw [HRB.out]; exact HI2.out.1))
        have hlow := HRW.out.low
        obtain ⟨i0, i1, i2⟩ := five_facts HRW.out.im
        by_cases hli : i < P
        · have d2 : decide ((i : Int) < (P : Int)) = true := decide_eq_true (by omega)
          obtain ⟨jj, hjj⟩ : ∃ q, yP + i = q := ⟨_, rfl⟩
          have u2 : IntKind.i64.wrap ((yP : Int) + (i : Int)) = (jj : Int) := by rw [IntKind.wrap_i64]; omega
          have hjN : jj < N := by omega
          obtain ⟨v0, hv⟩ : ∃ v, l[jj]? = some v := ⟨_, List.getElem?_eq_getElem (by rw [HL.out.len]; exact hjN)⟩
          obtain ⟨R2, o2, rfl, hR2, hcell⟩ := (HL.out.below HRW.out.below).at_ (by omega)
          have hc0 := hcell jj v0 hv
          have b0 : (0 : Int) ≤ (jj : Int) := by omega
          have b1 : (jj : Int) < (N : Int) := by omega
          have HV := Lib.hid hv
          have HJJ := Lib.hid hjj
          clear hcell hv hjj
          by_cases h0 : v0 < 0
          · have d3 : decide (v0 < 0) = true := decide_eq_true h0
            have HN := Lib.hid (show ¬ ∀ x ∈ l, goodV B x from fun k => by have := (k v0 (List.mem_of_getElem? HV.out)).1; omega)
            have HO := Lib.hid HRW.out.res
            have HB := Lib.hid HRW.out.below
            obtain ⟨p1, p2, p3⟩ := five_facts HO.out
            clear h0
            go_wp2_with fail
            refine ret_img (E := 1) (g := w.heap.size + 1) (five_set HO.out) (fun V hV => by have rv := hV.reads; simp [results, Try.results13, go_sem, rv]) rfl ?_
            exact .inr ⟨HN.out, rfl, five_below HB.out (by omega) _ _ _ _ _⟩
          · have d3 : decide (v0 < 0) = false := decide_eq_false h0
            obtain ⟨x, rfl⟩ : ∃ x : Nat, v0 = (x : Int) := ⟨v0.toNat, by omega⟩
            by_cases hx : T ≤ x
            · have d4 : decide ((T : Int) ≤ (x : Int)) = true := decide_eq_true (by omega)
              have d5 : decide (T ≤ x) = true := decide_eq_true (by omega)
              have HN := Lib.hid (show ¬ ∀ x ∈ l, goodV B x from fun k => by have := (k _ (List.mem_of_getElem? HV.out)).2; have := HT.out; omega)
              have HO := Lib.hid HRW.out.res
              have HB := Lib.hid HRW.out.below
              obtain ⟨p1, p2, p3⟩ := five_facts HO.out
              go_wp2_with fail
              refine (HPW.out _).mono ?_
              rintro e w7 ⟨rfl, rfl⟩
              clear h0
              go_wp2_with fail
              refine ret_img (E := 1) (g := w.heap.size + 1) (five_set HO.out) (fun V hV => by have rv := hV.reads; simp [results, Try.results13, go_sem, rv]) rfl ?_
              exact .inr ⟨HN.out, rfl, five_below HB.out (by omega) _ _ _ _ _⟩
            · have d4 : decide ((T : Int) ≤ (x : Int)) = false := decide_eq_false (by omega)
              have d5 : decide (T ≤ x) = false := decide_eq_false (by omega)
              have hgv : goodV B (x : Int) := ⟨by omega, by have := HT.out; omega⟩
              have HGN := Lib.hid (show ∀ z ∈ l.take (yP + (i + 1)), goodV B z from fun z hz => by
                rw [← Nat.add_assoc, HJJ.out, List.take_add_one, HV.out] at hz
                rcases List.mem_append.1 hz with hz | hz
                · exact HG2.out z (by rw [HJJ.out]; exact hz)
                · simp at hz; subst hz; exact hgv)
              have hT16 : T ≤ 65536 := by
                have : 2 ^ B ≤ 2 ^ 16 := Nat.pow_le_pow_right (by omega) hB16
                have := HT.out
                omega
              have HX := Lib.hid (show ln.getD (y * P + i) 0 = x by
                rw [HYP.out, HJJ.out, ← HLN.out, List.getD_eq_getElem?_getD, List.getElem?_map, HV.out]
                rfl)
              have hx16 : x < 65536 := by omega
              have u3 : IntKind.i64.wrap ((B : Int) - 1) = (B : Int) - 1 := by rw [IntKind.wrap_i64]; omega
              have h3 : i * B + B ≤ P * B := by rw [← Nat.succ_mul]; exact Nat.mul_le_mul_right _ hli
              obtain ⟨iB, hiB⟩ : ∃ q, i * B = q := ⟨_, rfl⟩
              have u4 : IntKind.i64.wrap ((i : Int) * (B : Int)) = (iB : Int) := by rw [← Int.natCast_mul, hiB, IntKind.wrap_i64]; omega
              rw [hiB] at h3
              have HIB := Lib.hid hiB
              clear hx h0 hgv hiB
              go_wp2_with fail
              refine (HPW.out _).mono ?_
              rintro e w7 ⟨rfl, rfl⟩
              go_wp2_with fail
              clear i0 i1 i2 hc0 HRW hR2
              go_loopw [11, 12] (fun s11 s12 wr3 => ∃ j : Nat, j ≤ B ∧ s12 = .int .i64 ((B : Int) - 1 - (j : Int)) ∧ s11 = .int .i64 ((x / 2 ^ j : Nat) : Int) ∧ Hid (Below RB V2 wr3 ∧ ∃ rb, Part ln B P S y i j rb ∧ Whole wr3 RB 5 (bvs rb).toArray)) (fun _ s12 _ => (1 + intOf s12).toNat)
              case atStart => exact ⟨0, by omega, by go_num, by rw [Nat.pow_zero, Nat.div_one], HI2⟩
              case round =>
                obtain ⟨j, hj, rfl, rfl, HI3⟩ := hrel
                have HRW := Lib.hid (HR2.out.call (by rw [HRB.out]; exact HI3.out.1))
                have hlow := HRW.out.low
                by_cases hlj : j < B
                · obtain ⟨k, hk⟩ : ∃ k, B - 1 - j = k := ⟨_, rfl⟩
                  rw [show (B : Int) - 1 - (j : Int) = (k : Int) by omega]
                  have d6 : decide ((0 : Int) ≤ (k : Int)) = true := decide_eq_true (by omega)
                  obtain ⟨rb, hpt, hwl⟩ := HI3.out.2
                  obtain ⟨q, hq⟩ : ∃ q, iB + k = q := ⟨_, rfl⟩
                  have hst := hpt.step (q := q) HF.out.s hli hlj (by rw [HIB.out, hk, hq])
                  rw [HX.out] at hst
                  obtain ⟨hs1, hs2, hs3⟩ := hst
                  obtain ⟨p, hp⟩ : ∃ p, q / 8 = p := ⟨_, rfl⟩
                  obtain ⟨r, hr⟩ : ∃ r, q % 8 = r := ⟨_, rfl⟩
                  have hr8 : r < 8 := by omega
                  rw [hp] at hs1 hs2 hs3
                  rw [hr] at hs2 hs3
                  obtain ⟨z, hz⟩ : ∃ z, x / 2 ^ j = z := ⟨_, rfl⟩
                  have hz9 : z ≤ x := by rw [← hz]; exact Nat.div_le_self _ _
                  have HZ2 := Lib.hid (show z / 2 = x / 2 ^ (j + 1) by rw [← hz, div_pow_step])
                  rw [hz] at hs2 hs3 ⊢
                  obtain ⟨d, hd⟩ : ∃ d, z % 2 = d := ⟨_, rfl⟩
                  have hd2 : d < 2 := by omega
                  rw [hd] at hs2 hs3
                  have hu7 : 2 ^ (7 - r) ≤ 2 ^ 7 := Nat.pow_le_pow_right (by omega) (by omega)
                  have HP7 := Lib.hid (rpow_any (7 - r))
                  obtain ⟨g7, hg7⟩ : ∃ g, 2 ^ (7 - r) = g := ⟨_, rfl⟩
                  rw [hg7] at hs2 hs3 hu7
                  have hg128 : g7 ≤ 128 := hu7
                  obtain ⟨t7, ht7⟩ : ∃ t, 7 - r = t := ⟨_, rfl⟩
                  have hdg : d * g7 ≤ 128 := by
                    have : d * g7 ≤ 1 * g7 := Nat.mul_le_mul_right _ (by omega)
                    omega
                  obtain ⟨dg, hdge⟩ : ∃ q, d * g7 = q := ⟨_, rfl⟩
                  have hold : ∃ old, rb.getD p 0 = old := ⟨_, rfl⟩
                  obtain ⟨old, hold⟩ := hold
                  rw [hdge, hold] at hs2 hs3
                  have hc0 : wr.cell? ⟨RB, p, none⟩ = some (.int .u8 (old : Int)) := by
                    rw [hwl.reads, List.getElem?_toArray]
                    have : rb[p]? = some old := by
                      rw [← hold, List.getD_eq_getElem?_getD, List.getElem?_eq_getElem (by rw [hpt.len]; exact hs1)]
                      rfl
                    simp [bvs, this]
                  have hc1 := hwl.thawed p
                  have hlR := hwl.lt
                  have f1 : (q : Int).tdiv 8 = (p : Int) := by rw [Int.tdiv_eq_ediv_of_nonneg (by omega)]; omega
                  have f2 : (q : Int).tmod 8 = (r : Int) := by rw [Int.tmod_eq_emod_of_nonneg (by omega)]; omega
                  have f3 : (z : Int).tmod 2 = (d : Int) := by rw [Int.tmod_eq_emod_of_nonneg (by omega)]; omega
                  have f4 : (z : Int).tdiv 2 = ((z / 2 : Nat) : Int) := by rw [Int.tdiv_eq_ediv_of_nonneg (by omega)]; rfl
                  obtain ⟨z2, hz2⟩ : ∃ q, z / 2 = q := ⟨_, rfl⟩
                  rw [hz2] at f4 HZ2
                  have f5 : (q : Int) / 8 = (p : Int) := by omega
                  have f6 : (q : Int) % 8 = (r : Int) := by omega
                  have f7 : (z : Int) % 2 = (d : Int) := by omega
                  have f8 : (z : Int) / 2 = (z2 : Int) := by omega
                  have w1 : IntKind.i64.wrap (p : Int) = (p : Int) := by rw [IntKind.wrap_i64]; omega
                  have w2 : IntKind.i64.wrap (r : Int) = (r : Int) := by rw [IntKind.wrap_i64]; omega
                  have w3 : IntKind.i64.wrap (d : Int) = (d : Int) := by rw [IntKind.wrap_i64]; omega
                  have w4 : IntKind.i64.wrap (z2 : Int) = (z2 : Int) := by rw [IntKind.wrap_i64]; omega
                  have w5 : IntKind.i64.wrap (7 - (r : Int)) = (t7 : Int) := by rw [IntKind.wrap_i64]; omega
                  have w6 : IntKind.i64.wrap ((d : Int) * (g7 : Int)) = (dg : Int) := by rw [← Int.natCast_mul, hdge, IntKind.wrap_i64]; omega
                  have w7 : IntKind.u8.wrap (dg : Int) = (dg : Int) := by rw [IntKind.wrap_u8]; omega
                  have w8 : IntKind.u8.wrap ((old : Int) + (dg : Int)) = ((old + dg : Nat) : Int) := by rw [IntKind.wrap_u8]; omega
                  obtain ⟨nw, hnw⟩ : ∃ q, old + dg = q := ⟨_, rfl⟩
                  rw [hnw] at w8 hs2 hs3
                  have w9 : IntKind.i64.wrap ((iB : Int) + (k : Int)) = (q : Int) := by rw [IntKind.wrap_i64]; omega
                  have w10 : IntKind.i64.wrap ((k : Int) - 1) = (B : Int) - 1 - ((j + 1 : Nat) : Int) := by rw [IntKind.wrap_i64]; omega
                  have b2 : (0 : Int) ≤ (p : Int) := by omega
                  have b3 : (p : Int) < (S : Int) := by omega
                  have HP8 : Hid (∀ w : World, Calls Try.prog 34 #[.int .i64 (t7 : Int)] w fun e w' => e = .returned (.int .i64 (g7 : Int)) ∧ w' = w) := Lib.hid (fun w => by
                    have := HP7.out w (by omega)
                    rw [hg7, ht7] at this
                    exact this)
                  have HNX := Lib.hid (show Below RB V2 (wr.drew.setCell ⟨RB, p, none⟩ (.int .u8 (nw : Int))) ∧ ∃ rb, Part ln B P S y i (j + 1) rb ∧ Whole (wr.drew.setCell ⟨RB, p, none⟩ (.int .u8 (nw : Int))) RB 5 (bvs rb).toArray from
                    ⟨(HI3.out.1.drew).setCell (p := ⟨RB, p, none⟩) (Nat.le_refl _) _, _, hs3, by have := hwl.drawn1.set p (.int .u8 (nw : Int)); rwa [bvs_set] at this⟩)
                  obtain ⟨i0, i1, i2⟩ := five_facts HRW.out.im
                  clear hpt hwl hs3 hz hz9 hd hu7 HP7 hg7 ht7 hdg hdge hold hp hr hz2 hnw hq hs2
                  go_wp2_with fail
                  go_still_tail 18, (by kernel_rfl)
                  still_call (HP8.out _)
                  repeat still_step
                  refine wpStill_nil ?_
                  change wpList _ _ _ _ _ wr.drew
                  have hc0' : wr.drew.cell? ⟨RB, p, none⟩ = some (.int .u8 (old : Int)) := hc0
                  have hc1' : wr.drew.frozen? ⟨RB, p, none⟩ = false := hc1
                  have hlR' : RB < wr.drew.heap.size := hlR
                  obtain ⟨j0, j1, j2⟩ := five_facts (HRW.out.im.drawn1)
                  clear hc0 hc1 hlR i0 i1 i2
                  generalize wr.drew = w8 at *
                  go_wp2_with fail
                  go_roundw
                  case rel => exact ⟨j + 1, by omega, by go_num, by rw [← HZ2.out], HNX⟩
                  case measure => simp [intOf]; omega
                · obtain rfl : j = B := by omega
                  have d6 : decide ((0 : Int) ≤ (j : Int) - 1 - (j : Int)) = false := decide_eq_false (by omega)
                  have d7 : (j : Int) - 1 - (j : Int) = -1 := by omega
                  rw [d7]
                  have HNX := Lib.hid (show Below RB V2 wr ∧ ∃ rb, Part ln j P S y (i + 1) 0 rb ∧ Whole wr RB 5 (bvs rb).toArray from ⟨HI3.out.1, by
                    obtain ⟨rb, h1, h2⟩ := HI3.out.2
                    exact ⟨rb, h1.next hB0, h2⟩⟩)
                  clear d6 d7
                  go_wp2_with fail
                  go_roundw
                  case rel => exact ⟨i + 1, by omega, by go_num, HNX, HGN⟩
                  case measure => simp [intOf]; omega
        · obtain rfl : i = P := by omega
          have d2 : decide ((i : Int) < (i : Int)) = false := by simp
          obtain ⟨rb, hpt, hwl⟩ := HI2.out.2
          have HPT := Lib.hid hpt
          have HBY := Lib.hid (show Bytes wr (some ⟨RB, 0, none⟩) S S rb from ⟨hpt.len, Nat.le_refl _, by omega, hpt.byte, fun _ => ⟨RB, 0, rfl, hwl.lt, fun q b hb => by
            rw [hwl.reads, Nat.zero_add, List.getElem?_toArray]
            simp [bvs, hb]⟩⟩)
          obtain ⟨o0, o1, o2⟩ := five_facts HRW.out.out
          clear hpt hwl i0 i1 i2
          go_wp2_with (at_builtin; refine wpList_app rfl _ _ rfl (Q + 1) (y * S) S S _ ob rb (some ⟨RB, 0, none⟩) rfl rfl HRW.out.own HBY.out (by omega) hlow.2 ?_)
          intro v' w6 hown' hgrow
          obtain ⟨a6, c6, rfl⟩ := own_sl' hown'
          obtain ⟨hq6, ha6⟩ := HRW.out.app hown' hgrow
          have HA6 := Lib.hid ha6
          obtain ⟨e0, e1, e2⟩ := five_facts hq6
          have HNX := Lib.hid (show ∃ v ob, RkSt w (w6.setCell ⟨Q, 4, none⟩ (.slice a6 (y * S + S) c6)) Q W H B C A n c v ((y + 1) * S) ob ∧ Outs ln B i S (y + 1) ob ∧ ∀ x ∈ l.take ((y + 1) * i), goodV B x from
            ⟨_, ob ++ rb, by rw [Nat.succ_mul]; exact HA6.out, HU.out.next HPT.out, by rw [Nat.succ_mul, HYP.out]; exact HG2.out⟩)
          clear hown' hgrow hq6 ha6 o0 o1 o2 HA6
          go_wp2_with fail
          go_roundw
          case rel => exact ⟨y + 1, by omega, by go_num, HNX⟩
          case measure => simp [intOf]; omega
    · obtain rfl : y = H := by omega
      have d1 : decide ((y : Int) < (y : Int)) = false := by simp
      have HO := Lib.hid HR.out.res
      have HB := Lib.hid HR.out.below
      have HOW := Lib.hid HR.out.own
      obtain ⟨p1, p2, p3⟩ := five_facts HO.out
      obtain ⟨o0, o1, o2⟩ := five_facts HR.out.out
      have hne := HR.out.low
      have HGA := Lib.hid (show ∀ v ∈ l, goodV B v by
        have := HG.out
        rwa [HNN.out, List.take_of_length_le (by rw [HL.out.len]; exact Nat.le_refl _)] at this)
      have hpk := HU.out.done HF.out.b HF.out.s HF.out.p0 (fun j hj => by
        have hj2 : j < l.length := by rw [HL.out.len, ← HNN.out]; exact hj
        rw [← HLN.out, List.getD_eq_getElem?_getD, List.getElem?_map, List.getElem?_eq_getElem hj2]
        have h9 := HGA.out l[j] (List.getElem_mem hj2)
        show l[j].toNat < 2 ^ B
        have := h9.1
        have := h9.2
        omega)
      have HPK := Lib.hid hpk
      have HBT := Lib.hid HU.out.byte
      obtain ⟨i0, i1, i2⟩ := five_facts HR.out.im
      clear hpk
      go_wp2_with fail
      refine ret_img (E := 0) (g := w.heap.size + 1) (five_set HO.out) (fun V hV => by have rv := hV.reads; simp [results, Try.results13, go_sem, rv]) rfl ?_
      have lw : w.heap.size ≤ Q + 1 := by omega
      refine .inl ⟨HGA.out, _, rfl, ?_, ?_, five_below HB.out (by omega) _ _ _ _ _⟩
      · rw [HLN.out, ← HNN.out, ← HPK.out]
        exact own_down (own_five (g := w.heap.size + 1) HOW.out (by omega) _ _ _ _ _) lw
      · rw [HLN.out, ← HNN.out, ← HPK.out]
        exact HBT.out
end Go.Proofs.Ytmleoagdelgddaa
