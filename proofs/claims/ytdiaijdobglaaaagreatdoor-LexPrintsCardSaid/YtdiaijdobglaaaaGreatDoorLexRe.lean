/- lex's reference: Print. Written by gen_lexre.py. -/
import Derived.Test.YtdiaijdobglaaaaGreatDoorLexRd
import Derived.Test.YtdiaijdobglaaaaGreatDoorRefPrintL
import Derived.Test.YtdiaijdobglaaaaGreatDoorLexT
namespace Go.Proofs.YtdiaijdobglaaaaGreatDoor
open Go.RowKit

theorem one_at (x : ByteArray) (k : Nat) (h : k < x.size) : x.extract k (k + 1) = strB [x[k].toNat] := by
  rw [← strB_nats (x.extract k (k + 1))]
  congr 1
  apply List.ext_getElem?
  intro i
  have hsz : (x.extract k (k + 1)).size = 1 := by rw [ByteArray.size_extract]; omega
  by_cases hi : i = 0
  · subst hi
    rw [nats_at (x.extract k (k + 1)) (by omega)]
    simp [ByteArray.getElem_extract]
  · rw [List.getElem?_eq_none (by rw [nats_len]; omega), List.getElem?_eq_none (by simp; omega)]
theorem cut_one (x : ByteArray) (k : Nat) (h : k < x.size) (w : World) : (Instr.sliceAt 9 (.string x) (some (.int .i64 (k : Int))) (some (.int .i64 ((k : Int) + 1))) none).run Tryz.prog w = .ok (.string (strB [x[k].toNat])) w := by
  rw [run_sliceAt_string (h := Tryz.underlying9), run_slice_string (h := Tryz.underlying9) (h0 := by omega) (h1 := by omega) (h2 := by omega), Int.toNat_natCast, show ((k : Int) + 1).toNat = k + 1 by omega, one_at x k h]
set_option maxRecDepth 100000 in
set_option maxHeartbeats 16000000 in
theorem print_ref (kd m s : Int) (x : ByteArray) (w : World) (hs : x.size ≤ 600) :
    Calls Tryz.prog 10 #[.agg #[.int .i64 kd, .int .i64 m, .int .i64 s, .string x]] w (PrintSaid (printI ⟨kd, m, s, natsOf x⟩) w) := by
  have HB := Lib.hid (((Below.refl w.heap.size w).alloc (Nat.le_refl _) (.cells #[.int .i64 kd, .int .i64 m, .int .i64 s, .string x] 27)))
  have HWH := Lib.hid (Whole.made w 27 #[.int .i64 kd, .int .i64 m, .int .i64 s, .string x])
  have HV := Lib.hid (right_ref kd m s x (w.alloc (.cells #[.int .i64 kd, .int .i64 m, .int .i64 s, .string x] 27)) hs)
  cases hv : validB ⟨kd, m, s, natsOf x⟩
  · have HR := Lib.hid (show printI ⟨kd, m, s, natsOf x⟩ = (1, []) by unfold printI; rw [hv]; rfl)
    rw [hv] at HV
    clear hv
    go_enter Tryz.func10, Tryz.ntmps10
    go_wp2_with fail
    refine HV.out.mono ?_
    rintro e w1 ⟨rfl, hb⟩
    have rd := (HWH.out.here hb).reads
    have lW := (HWH.out.here hb).lt
    have HB1 := Lib.hid (HB.out.trans (hb.mono HB.out.size))
    have HS0 := Lib.hid (And.intro HB1.out (HWH.out.here hb))
    clear hb
    go_wp2_with fail
    go_ret2
    rw [HR.out]
    exact ⟨rfl, HB1.out⟩
  · have HR := Lib.hid (show printI ⟨kd, m, s, natsOf x⟩ = (0, printT DN ⟨kd, m, s, natsOf x⟩) by unfold printI; rw [if_pos hv])
    have hrange : 0 ≤ kd ∧ kd ≤ 8 := valid_range hv
    have HVV := Lib.hid hv
    rw [hv] at HV
    obtain ⟨r0, r8⟩ := hrange
    clear hv
    rcases (by omega : kd = 0 ∨ kd = 1 ∨ kd = 2 ∨ kd = 3 ∨ kd = 4 ∨ kd = 5 ∨ kd = 6 ∨ kd = 7 ∨ kd = 8) with rfl | rfl | rfl | rfl | rfl | rfl | rfl | rfl | rfl
    · have HP : Hid (printT DN ⟨0, m, s, natsOf x⟩ = []) := Lib.hid (by rfl)
      clear r0 r8
      go_enter Tryz.func10, Tryz.ntmps10
      go_wp2_with fail
      refine HV.out.mono ?_
      rintro e w1 ⟨rfl, hb⟩
      have rd := (HWH.out.here hb).reads
      have lW := (HWH.out.here hb).lt
      have HB1 := Lib.hid (HB.out.trans (hb.mono HB.out.size))
      have HS0 := Lib.hid (And.intro HB1.out (HWH.out.here hb))
      clear hb
      go_wp2_with fail
      go_ret2
      rw [HR.out, HP.out]
      exact ⟨rfl, by (repeat (first | with_reducible refine Below.drew ?_ | with_reducible refine bdrewN ?_ _ | (with_reducible refine Below.setCell ?_ ?_ _; rotate_left; focus (first | exact Nat.le_refl _ | omega | (simp; omega) | (simp; done))) | (with_reducible refine Below.alloc ?_ ?_ _; rotate_left; focus (first | exact Nat.le_refl _ | omega | (simp; omega) | (simp; done))))); with_reducible exact HB1.out⟩
    · have HP : Hid (printT DN ⟨1, m, s, natsOf x⟩ = DN m s) := Lib.hid (by rfl)
      obtain ⟨hval, -⟩ := valid_num HVV.out
      have hs0 : ((s.toNat : Nat) : Int) = s := by have := hval.2.2.1; omega
      have HD : Hid (∀ w, Calls Tryz.prog 25 #[.agg #[.int .i64 m, .int .i64 s]] w (IsText (printL m s.toNat) w)) := Lib.hid (fun w => by
        have := refprint_is m s.toNat w (by rw [hs0]; exact hval)
        rwa [hs0] at this)
      clear r0 r8 hval hs0
      go_enter Tryz.func10, Tryz.ntmps10
      go_wp2_with fail
      refine HV.out.mono ?_
      rintro e w1 ⟨rfl, hb⟩
      have rd := (HWH.out.here hb).reads
      have lW := (HWH.out.here hb).lt
      have HB1 := Lib.hid (HB.out.trans (hb.mono HB.out.size))
      have HS0 := Lib.hid (And.intro HB1.out (HWH.out.here hb))
      clear hb
      go_wp2_with fail
      refine (HD.out _).mono ?_
      rintro e w2 ⟨r, rfl, hr, hb⟩
      have HB2 := Lib.hid (HB1.out.trans (hb.mono HB1.out.size))
      have HRR := Lib.hid (text_nats hr)
      clear hb hr
      go_wp2_with fail
      go_ret2
      rw [HR.out, HP.out]
      exact ⟨by rw [HRR.out]; rfl, HB2.out⟩
    · have HP : Hid (printT DN ⟨2, m, s, natsOf x⟩ = 47 :: nameE (natsOf x)) := Lib.hid (by rfl)
      clear r0 r8
      go_enter Tryz.func10, Tryz.ntmps10
      go_wp2_with fail
      refine HV.out.mono ?_
      rintro e w1 ⟨rfl, hb⟩
      have rd := (HWH.out.here hb).reads
      have lW := (HWH.out.here hb).lt
      have HB1 := Lib.hid (HB.out.trans (hb.mono HB.out.size))
      have HS0 := Lib.hid (And.intro HB1.out (HWH.out.here hb))
      clear hb
      go_wp2_with fail
      go_loopg [4, 5] x.size (fun g v i wr => ∃ k : Nat, g + k = x.size ∧ i = .int .i64 (k : Int) ∧ v = .string (strB (47 :: nameE ((natsOf x).take k))) ∧ Hid (Below w.heap.size w wr ∧ Whole wr w.heap.size 27 #[.int .i64 2, .int .i64 m, .int .i64 s, .string x]))
      case atStart => exact ⟨0, by omega, rfl, by simp [nameE]; rfl, HS0⟩
      case round =>
        obtain ⟨k, hgk, rfl, rfl, HS⟩ := hrel
        have rd := HS.out.2.reads
        have lW := HS.out.2.lt
        by_cases hlt : k < x.size
        · have d2 : decide ((k : Int) < (x.size : Int)) = true := decide_eq_true (by omega)
          have d3 : decide (k < x.size) = true := decide_eq_true hlt
          have hx9 := x[k].toNat_lt
          obtain ⟨acc, hacc⟩ : ∃ acc, 47 :: nameE ((natsOf x).take k) = acc := ⟨_, rfl⟩
          have HT := Lib.hid (show (47 :: nameE ((natsOf x).take (k + 1))) = acc ++ encN x[k].toNat by rw [take_at (nats_at x hlt), nameE_snoc, ← hacc]; rfl)
          have la : acc.length ≤ 3 * k + 1 := by rw [← hacc]; have := nameE_len ((natsOf x).take k); simp only [List.length_cons, List.length_take] at this ⊢; omega
          have hsz : (strB acc).size ≤ 5000 := by rw [strB_len]; omega
          rw [hacc]
          clear hacc la
          have hc1 := cut_one x k hlt
          have hs1 : (strB [x[k].toNat]).size = 1 := strB_len _
          have hs2 : (strB [dig16 (x[k].toNat / 16), dig16 (x[k].toNat % 16)]).size = 2 := strB_len _
          have HC35 := Lib.hid (strB_cat acc [35])
          cases hsf : selfB x[k].toNat
          · have HT2 := Lib.hid (show (47 :: nameE ((natsOf x).take (k + 1))) = acc ++ [35] ++ [dig16 (x[k].toNat / 16), dig16 (x[k].toNat % 16)] by rw [HT.out]; unfold encN; rw [if_neg (by rw [hsf]; decide)]; simp)
            have HC2 := Lib.hid (strB_cat (acc ++ [35]) [dig16 (x[k].toNat / 16), dig16 (x[k].toNat % 16)])
            have hself : selfB x[k].toNat = (rgB x[k].toNat && (x[k].toNat != 35 && (decide (33 ≤ x[k].toNat) && decide (x[k].toNat ≤ 126)))) := rfl
            have HSE := Lib.hid (hself.symm.trans hsf)
            clear hself hsf
            have key : (rgB x[k].toNat = false) ∨ (rgB x[k].toNat = true ∧ ((x[k].toNat : Int) == 35) = true) ∨ (rgB x[k].toNat = true ∧ ((x[k].toNat : Int) == 35) = false ∧ decide ((x[k].toNat : Int) < 33) = true) ∨ (rgB x[k].toNat = true ∧ ((x[k].toNat : Int) == 35) = false ∧ decide ((x[k].toNat : Int) < 33) = false ∧ decide ((126 : Int) < (x[k].toNat : Int)) = true) := by
              have h := HSE.out
              cases hr : rgB x[k].toNat
              · exact .inl rfl
              · rw [hr, Bool.true_and] at h
                by_cases h35 : x[k].toNat = 35
                · exact .inr (.inl ⟨rfl, by simp; omega⟩)
                · by_cases h33 : 33 ≤ x[k].toNat
                  · refine .inr (.inr (.inr ⟨rfl, by simp; omega, by simp; omega, ?_⟩))
                    simp [h35, h33] at h
                    simp
                    omega
                  · exact .inr (.inr (.inl ⟨rfl, by simp; omega, by simp; omega⟩))
            rcases key with hr | ⟨hr, h1⟩ | ⟨hr, h1, h2⟩ | ⟨hr, h1, h2, h3⟩
            all_goals
              have HRR := Lib.hid hr
              clear hr
              go_wp2_with fail
              refine (other_ref x[k].toNat _).mono ?_
              rw [HRR.out]
              rintro e w2 ⟨rfl, rfl⟩
              go_wp2_with fail
              refine (two_ref x[k].toNat hx9 _).mono ?_
              rintro e w2 ⟨rfl, j, rfl⟩
              go_wp2_with fail
              go_roundg (x.size - (k + 1))
              case measure => omega
              case rel => exact ⟨k + 1, by omega, by go_num, by rw [HT2.out, ← HC2.out, ← HC35.out]; rfl, Lib.hid ⟨bdrewN HS.out.1 _, HS.out.2.drawn _⟩⟩
          · have HT2 := Lib.hid (show (47 :: nameE ((natsOf x).take (k + 1))) = acc ++ [x[k].toNat] by rw [HT.out]; unfold encN; rw [if_pos hsf])
            have HC2 := Lib.hid (strB_cat acc [x[k].toNat])
            obtain ⟨hr, h35, h33, h126⟩ := self_in hsf
            have HRR := Lib.hid hr
            have h2 : ((x[k].toNat : Int) == 35) = false := by simp; omega
            have h3 : decide ((x[k].toNat : Int) < 33) = false := decide_eq_false (by omega)
            have h4 : decide ((126 : Int) < (x[k].toNat : Int)) = false := decide_eq_false (by omega)
            clear hsf hr h35 h33 h126
            go_wp2_with fail
            refine (other_ref x[k].toNat _).mono ?_
            rw [HRR.out]
            rintro e w2 ⟨rfl, rfl⟩
            go_wp2_with fail
            go_roundg (x.size - (k + 1))
            case measure => omega
            case rel => exact ⟨k + 1, by omega, by go_num, by rw [HT2.out, ← HC2.out], HS⟩
        · obtain rfl : k = x.size := by omega
          have d2 : decide ((x.size : Int) < (x.size : Int)) = false := by simp
          have d3 : decide (x.size < x.size) = false := by simp
          have HT := Lib.hid (show (natsOf x).take x.size = natsOf x from List.take_of_length_le (by rw [nats_len]; exact Nat.le_refl _))
          go_wp2_with fail
          go_ret2
          rw [HR.out, HP.out]
          exact ⟨by rw [HT.out]; rfl, HS.out.1⟩
    · have HP : Hid (printT DN ⟨3, m, s, natsOf x⟩ = 60 :: (textE (natsOf x) ++ [62])) := Lib.hid (by rfl)
      clear r0 r8
      go_enter Tryz.func10, Tryz.ntmps10
      go_wp2_with fail
      refine HV.out.mono ?_
      rintro e w1 ⟨rfl, hb⟩
      have rd := (HWH.out.here hb).reads
      have lW := (HWH.out.here hb).lt
      have HB1 := Lib.hid (HB.out.trans (hb.mono HB.out.size))
      have HS0 := Lib.hid (And.intro HB1.out (HWH.out.here hb))
      clear hb
      go_wp2_with fail
      go_loopg [4, 7] x.size (fun g v i wr => ∃ k : Nat, g + k = x.size ∧ i = .int .i64 (k : Int) ∧ v = .string (strB (60 :: textE ((natsOf x).take k))) ∧ Hid (Below w.heap.size w wr ∧ Whole wr w.heap.size 27 #[.int .i64 3, .int .i64 m, .int .i64 s, .string x]))
      case atStart => exact ⟨0, by omega, rfl, by simp [textE]; rfl, HS0⟩
      case round =>
        obtain ⟨k, hgk, rfl, rfl, HS⟩ := hrel
        have rd := HS.out.2.reads
        have lW := HS.out.2.lt
        by_cases hlt : k < x.size
        · have d2 : decide ((k : Int) < (x.size : Int)) = true := decide_eq_true (by omega)
          have d3 : decide (k < x.size) = true := decide_eq_true hlt
          have hx9 := x[k].toNat_lt
          obtain ⟨acc, hacc⟩ : ∃ acc, 60 :: textE ((natsOf x).take k) = acc := ⟨_, rfl⟩
          have HT2 := Lib.hid (show (60 :: textE ((natsOf x).take (k + 1))) = acc ++ [dig16 (x[k].toNat / 16), dig16 (x[k].toNat % 16)] by rw [take_at (nats_at x hlt), textE_snoc, ← hacc]; rfl)
          have HC2 := Lib.hid (strB_cat acc [dig16 (x[k].toNat / 16), dig16 (x[k].toNat % 16)])
          have la : acc.length ≤ 2 * k + 1 := by rw [← hacc]; have := textE_len ((natsOf x).take k); simp only [List.length_cons, List.length_take] at this ⊢; omega
          have hsz : (strB acc).size ≤ 5000 := by rw [strB_len]; omega
          rw [hacc]
          clear hacc la
          have hs2 : (strB [dig16 (x[k].toNat / 16), dig16 (x[k].toNat % 16)]).size = 2 := strB_len _
          go_wp2_with fail
          refine (two_ref x[k].toNat hx9 _).mono ?_
          rintro e w2 ⟨rfl, j, rfl⟩
          go_wp2_with fail
          go_roundg (x.size - (k + 1))
          case measure => omega
          case rel => exact ⟨k + 1, by omega, by go_num, by rw [HT2.out, ← HC2.out], Lib.hid ⟨bdrewN HS.out.1 _, HS.out.2.drawn _⟩⟩
        · obtain rfl : k = x.size := by omega
          have d2 : decide ((x.size : Int) < (x.size : Int)) = false := by simp
          have d3 : decide (x.size < x.size) = false := by simp
          have HT := Lib.hid (show (natsOf x).take x.size = natsOf x from List.take_of_length_le (by rw [nats_len]; exact Nat.le_refl _))
          have HC2 := Lib.hid (strB_cat (60 :: textE (natsOf x)) [62])
          have hsz : (strB (60 :: textE ((natsOf x).take x.size))).size ≤ 5000 := by rw [strB_len]; have := textE_len ((natsOf x).take x.size); simp only [List.length_cons, List.length_take] at this ⊢; omega
          go_wp2_with fail
          go_ret2
          rw [HR.out, HP.out]
          exact ⟨by rw [HT.out]; rw [show (60 :: (textE (natsOf x) ++ [62])) = (60 :: textE (natsOf x)) ++ [62] from rfl, ← HC2.out]; rfl, HS.out.1⟩
    · have HP : Hid (printT DN ⟨4, m, s, natsOf x⟩ = natsOf x) := Lib.hid (by rfl)
      clear r0 r8
      go_enter Tryz.func10, Tryz.ntmps10
      go_wp2_with fail
      refine HV.out.mono ?_
      rintro e w1 ⟨rfl, hb⟩
      have rd := (HWH.out.here hb).reads
      have lW := (HWH.out.here hb).lt
      have HB1 := Lib.hid (HB.out.trans (hb.mono HB.out.size))
      have HS0 := Lib.hid (And.intro HB1.out (HWH.out.here hb))
      clear hb
      go_wp2_with fail
      go_ret2
      rw [HR.out, HP.out]
      exact ⟨by rw [strB_nats]; rfl, HB1.out⟩
    · have HP : Hid (printT DN ⟨5, m, s, natsOf x⟩ = [91]) := Lib.hid (by rfl)
      clear r0 r8
      go_enter Tryz.func10, Tryz.ntmps10
      go_wp2_with fail
      refine HV.out.mono ?_
      rintro e w1 ⟨rfl, hb⟩
      have rd := (HWH.out.here hb).reads
      have lW := (HWH.out.here hb).lt
      have HB1 := Lib.hid (HB.out.trans (hb.mono HB.out.size))
      have HS0 := Lib.hid (And.intro HB1.out (HWH.out.here hb))
      clear hb
      go_wp2_with fail
      go_ret2
      rw [HR.out, HP.out]
      exact ⟨rfl, by (repeat (first | with_reducible refine Below.drew ?_ | with_reducible refine bdrewN ?_ _ | (with_reducible refine Below.setCell ?_ ?_ _; rotate_left; focus (first | exact Nat.le_refl _ | omega | (simp; omega) | (simp; done))) | (with_reducible refine Below.alloc ?_ ?_ _; rotate_left; focus (first | exact Nat.le_refl _ | omega | (simp; omega) | (simp; done))))); with_reducible exact HB1.out⟩
    · have HP : Hid (printT DN ⟨6, m, s, natsOf x⟩ = [93]) := Lib.hid (by rfl)
      clear r0 r8
      go_enter Tryz.func10, Tryz.ntmps10
      go_wp2_with fail
      refine HV.out.mono ?_
      rintro e w1 ⟨rfl, hb⟩
      have rd := (HWH.out.here hb).reads
      have lW := (HWH.out.here hb).lt
      have HB1 := Lib.hid (HB.out.trans (hb.mono HB.out.size))
      have HS0 := Lib.hid (And.intro HB1.out (HWH.out.here hb))
      clear hb
      go_wp2_with fail
      go_ret2
      rw [HR.out, HP.out]
      exact ⟨rfl, by (repeat (first | with_reducible refine Below.drew ?_ | with_reducible refine bdrewN ?_ _ | (with_reducible refine Below.setCell ?_ ?_ _; rotate_left; focus (first | exact Nat.le_refl _ | omega | (simp; omega) | (simp; done))) | (with_reducible refine Below.alloc ?_ ?_ _; rotate_left; focus (first | exact Nat.le_refl _ | omega | (simp; omega) | (simp; done))))); with_reducible exact HB1.out⟩
    · have HP : Hid (printT DN ⟨7, m, s, natsOf x⟩ = [60, 60]) := Lib.hid (by rfl)
      clear r0 r8
      go_enter Tryz.func10, Tryz.ntmps10
      go_wp2_with fail
      refine HV.out.mono ?_
      rintro e w1 ⟨rfl, hb⟩
      have rd := (HWH.out.here hb).reads
      have lW := (HWH.out.here hb).lt
      have HB1 := Lib.hid (HB.out.trans (hb.mono HB.out.size))
      have HS0 := Lib.hid (And.intro HB1.out (HWH.out.here hb))
      clear hb
      go_wp2_with fail
      go_ret2
      rw [HR.out, HP.out]
      exact ⟨rfl, by (repeat (first | with_reducible refine Below.drew ?_ | with_reducible refine bdrewN ?_ _ | (with_reducible refine Below.setCell ?_ ?_ _; rotate_left; focus (first | exact Nat.le_refl _ | omega | (simp; omega) | (simp; done))) | (with_reducible refine Below.alloc ?_ ?_ _; rotate_left; focus (first | exact Nat.le_refl _ | omega | (simp; omega) | (simp; done))))); with_reducible exact HB1.out⟩
    · have HP : Hid (printT DN ⟨8, m, s, natsOf x⟩ = [62, 62]) := Lib.hid (by rfl)
      clear r0 r8
      go_enter Tryz.func10, Tryz.ntmps10
      go_wp2_with fail
      refine HV.out.mono ?_
      rintro e w1 ⟨rfl, hb⟩
      have rd := (HWH.out.here hb).reads
      have lW := (HWH.out.here hb).lt
      have HB1 := Lib.hid (HB.out.trans (hb.mono HB.out.size))
      have HS0 := Lib.hid (And.intro HB1.out (HWH.out.here hb))
      clear hb
      go_wp2_with fail
      go_ret2
      rw [HR.out, HP.out]
      exact ⟨rfl, by (repeat (first | with_reducible refine Below.drew ?_ | with_reducible refine bdrewN ?_ _ | (with_reducible refine Below.setCell ?_ ?_ _; rotate_left; focus (first | exact Nat.le_refl _ | omega | (simp; omega) | (simp; done))) | (with_reducible refine Below.alloc ?_ ?_ _; rotate_left; focus (first | exact Nat.le_refl _ | omega | (simp; omega) | (simp; done))))); with_reducible exact HB1.out⟩
set_option maxRecDepth 100000 in
set_option maxHeartbeats 8000000 in
theorem prints_any (kd m s : Int) (x : ByteArray) (w : World) (hE : Env w) :
    Calls Tryz.prog 4 #[.agg #[.int .i64 kd, .int .i64 m, .int .i64 s, .string x]] w (True_ w) := by
  have hB := ((Below.refl w.heap.size w).alloc (Nat.le_refl _) (.cells #[.int .i64 kd, .int .i64 m, .int .i64 s, .string x] 27))
  have HB := Lib.hid hB
  have HWH := Lib.hid (Whole.made w 27 #[.int .i64 kd, .int .i64 m, .int .i64 s, .string x])
  have HE := Lib.hid (hE.below hB)
  clear hB hE
  by_cases hl : 500 < x.size
  · have d1 : decide ((500 : Int) < (x.size : Int)) = true := decide_eq_true (by omega)
    clear hl
    go_enter Tryz.func4, Tryz.ntmps4
    go_wp2_with fail
    go_ret
    exact ⟨rfl, HB.out⟩
  · have d1 : decide ((500 : Int) < (x.size : Int)) = false := decide_eq_false (by omega)
    obtain ⟨⟨E, l⟩, hE⟩ : ∃ z, printI ⟨kd, m, s, natsOf x⟩ = z := ⟨_, rfl⟩
    have HP := Lib.hid (fun w hE' => Print_any kd m s x w (by omega) hE')
    have HQ := Lib.hid (fun w => print_ref kd m s x w (by omega))
    rw [hE] at HP HQ
    clear hE hl
    go_enter Tryz.func4, Tryz.ntmps4
    go_wp2_with fail
    refine (HP.out _ HE.out).mono ?_
    rintro e w1 ⟨rfl, hb⟩
    have rd := (HWH.out.here hb).reads
    have lW := (HWH.out.here hb).lt
    have HB1 := Lib.hid (HB.out.trans (hb.mono HB.out.size))
    have HE1 := Lib.hid (HE.out.below hb)
    clear hb
    go_wp2_with fail
    refine (HQ.out _).mono ?_
    rintro e w2 ⟨rfl, hb⟩
    have HB2 := Lib.hid (HB1.out.trans (hb.mono HB1.out.size))
    have HE2 := Lib.hid (HE1.out.below hb)
    clear hb rd lW
    go_wp2_with fail
    refine (awake_any _ HE2.out).mono ?_
    rintro e w3 ⟨rfl, hb⟩
    have HB3 := Lib.hid (HB2.out.trans (hb.mono HB2.out.size))
    clear hb
    go_wp2_with fail
    go_ret
    exact ⟨rfl, HB3.out⟩
end Go.Proofs.YtdiaijdobglaaaaGreatDoor
