/- lex: Print. Written by gen_lexr.py. -/
import Derived.Test.YtdiaijdobglaaaaGreatDoorLexQ
namespace Go.Proofs.YtdiaijdobglaaaaGreatDoor
open Go.RowKit

def DN (m s : Int) : List Nat := (printL m s.toNat).map UInt8.toNat
/-- What Print answers: the error, the bytes. -/
def printI (t : TokV) : Int × List Nat := if validB t = true then (0, printT DN t) else (1, [])
def PrintSaid (x : Int × List Nat) (w : World) (e : Ending) (w' : World) : Prop := e = .returned (.tuple #[.string (strB x.2), .int .i64 x.1]) ∧ Below w.heap.size w w'
theorem valid_num {m s : Int} {l : List Nat} (h : validB ⟨1, m, s, l⟩ = true) : Dec.Valid m s ∧ l = [] := by
  have h2 : Dec.Valid m s ∧ l.length = 0 := of_decide_eq_true h
  exact ⟨h2.1, List.eq_nil_of_length_eq_zero h2.2⟩
theorem valid_range {t : TokV} (h : validB t = true) : 0 ≤ t.kind ∧ t.kind ≤ 8 := by
  unfold validB at h
  split at h
  · omega
  · rw [Bool.and_eq_true] at h
    obtain ⟨-, h⟩ := h
    split at h
    · omega
    · split at h
      · omega
      · split at h
        · omega
        · have h2 := of_decide_eq_true h
          exact ⟨h2.1, h2.2.1⟩
theorem text_nats {r : ByteArray} {m s : Int} (h : r.data.toList = printL m s.toNat) : r = strB (DN m s) := by
  rw [← strB_nats r]
  unfold natsOf DN
  rw [h]
set_option maxRecDepth 100000 in
set_option maxHeartbeats 8000000 in
theorem Print_any (kd m s : Int) (x : ByteArray) (w : World) (hs : x.size ≤ 1000000) (hE : Env w) :
    Calls Tryz.prog 9 #[.agg #[.int .i64 kd, .int .i64 m, .int .i64 s, .string x]] w (PrintSaid (printI ⟨kd, m, s, natsOf x⟩) w) := by
  have hB := ((Below.refl w.heap.size w).alloc (Nat.le_refl _) (.cells #[.int .i64 kd, .int .i64 m, .int .i64 s, .string x] 27))
  have hW := Whole.made w 27 #[.int .i64 kd, .int .i64 m, .int .i64 s, .string x]
  have HB := Lib.hid hB
  have HWH := Lib.hid hW
  have HV := Lib.hid (valid_any kd m s x _ hs (hE.below hB))
  have HE := Lib.hid (hE.below hB)
  clear hB hW hE
  cases hv : validB ⟨kd, m, s, natsOf x⟩
  · have HR := Lib.hid (show printI ⟨kd, m, s, natsOf x⟩ = (1, []) by unfold printI; rw [hv]; rfl)
    rw [hv] at HV
    clear hv
    go_enter Tryz.func9, Tryz.ntmps9
    go_wp2_with fail
    refine HV.out.mono ?_
    rintro e w1 ⟨rfl, hb⟩
    have HB1 := Lib.hid (HB.out.trans (hb.mono HB.out.size))
    clear hb
    go_wp2_with fail
    go_ret2
    rw [HR.out]
    exact ⟨rfl, HB1.out⟩
  · have HR := Lib.hid (show printI ⟨kd, m, s, natsOf x⟩ = (0, printT DN ⟨kd, m, s, natsOf x⟩) by unfold printI; rw [if_pos hv])
    have hrange : 0 ≤ kd ∧ kd ≤ 8 := valid_range hv
    have HVV := Lib.hid hv
    rw [hv] at HV
    obtain ⟨r0, r8⟩ := hrange
    clear hv
    rcases (by omega : kd = 0 ∨ kd = 1 ∨ kd = 2 ∨ kd = 3 ∨ kd = 4 ∨ kd = 5 ∨ kd = 6 ∨ kd = 7 ∨ kd = 8) with rfl | rfl | rfl | rfl | rfl | rfl | rfl | rfl | rfl
    · have HP : Hid (printT DN ⟨0, m, s, natsOf x⟩ = []) := Lib.hid (by rfl)
      clear r0 r8
      go_enter Tryz.func9, Tryz.ntmps9
      go_wp2_with fail
      refine HV.out.mono ?_
      rintro e w1 ⟨rfl, hb⟩
      have rd := (HWH.out.here hb).reads
      have lW := (HWH.out.here hb).lt
      have HB1 := Lib.hid (HB.out.trans (hb.mono HB.out.size))
      have HE1 := Lib.hid (HE.out.below hb)
      clear hb
      go_wp2_with fail
      go_ret2
      rw [HR.out, HP.out]
      exact ⟨rfl, HB1.out⟩
    · have HP : Hid (printT DN ⟨1, m, s, natsOf x⟩ = DN m s) := Lib.hid (by rfl)
      obtain ⟨hval, -⟩ := valid_num HVV.out
      have hs0 : ((s.toNat : Nat) : Int) = s := by have := hval.2.2.1; omega
      have HD : Hid (∀ w, Env w → Calls Tryz.prog 21 #[.agg #[.int .i64 m, .int .i64 s]] w (IsText (printL m s.toNat) w)) := Lib.hid (fun w hE => by
        have := print_ok m s.toNat w (by rw [hs0]; exact hval) hE.2
        rwa [hs0] at this)
      clear r0 r8 hval hs0
      go_enter Tryz.func9, Tryz.ntmps9
      go_wp2_with fail
      refine HV.out.mono ?_
      rintro e w1 ⟨rfl, hb⟩
      have rd := (HWH.out.here hb).reads
      have lW := (HWH.out.here hb).lt
      have HB1 := Lib.hid (HB.out.trans (hb.mono HB.out.size))
      have HE1 := Lib.hid (HE.out.below hb)
      clear hb
      go_wp2_with fail
      refine (HD.out _ HE1.out).mono ?_
      rintro e w2 ⟨r, rfl, hr, hb⟩
      have HB2 := Lib.hid (HB1.out.trans (hb.mono HB1.out.size))
      have HRR := Lib.hid (text_nats hr)
      clear hb hr
      go_wp2_with fail
      go_ret2
      rw [HR.out, HP.out]
      exact ⟨by rw [HRR.out]; rfl, HB2.out⟩
    · have HP : Hid (printT DN ⟨2, m, s, natsOf x⟩ = 47 :: nameE (natsOf x)) := Lib.hid (by rfl)
      clear r0 r8
      go_enter Tryz.func9, Tryz.ntmps9
      go_wp2_with fail
      refine HV.out.mono ?_
      rintro e w1 ⟨rfl, hb⟩
      have rd := (HWH.out.here hb).reads
      have lW := (HWH.out.here hb).lt
      have HB1 := Lib.hid (HB.out.trans (hb.mono HB.out.size))
      have HE1 := Lib.hid (HE.out.below hb)
      clear hb
      go_wp2_with fail
      refine (printName_any x _ hs).mono ?_
      rintro e w2 ⟨rfl, hb⟩
      have HB2 := Lib.hid (HB1.out.trans (hb.mono HB1.out.size))
      clear hb
      go_wp2_with fail
      go_ret2
      rw [HR.out, HP.out]
      exact ⟨rfl, HB2.out⟩
    · have HP : Hid (printT DN ⟨3, m, s, natsOf x⟩ = 60 :: (textE (natsOf x) ++ [62])) := Lib.hid (by rfl)
      clear r0 r8
      go_enter Tryz.func9, Tryz.ntmps9
      go_wp2_with fail
      refine HV.out.mono ?_
      rintro e w1 ⟨rfl, hb⟩
      have rd := (HWH.out.here hb).reads
      have lW := (HWH.out.here hb).lt
      have HB1 := Lib.hid (HB.out.trans (hb.mono HB.out.size))
      have HE1 := Lib.hid (HE.out.below hb)
      clear hb
      go_wp2_with fail
      refine (printText_any x _ hs).mono ?_
      rintro e w2 ⟨rfl, hb⟩
      have HB2 := Lib.hid (HB1.out.trans (hb.mono HB1.out.size))
      clear hb
      go_wp2_with fail
      go_ret2
      rw [HR.out, HP.out]
      exact ⟨rfl, HB2.out⟩
    · have HP : Hid (printT DN ⟨4, m, s, natsOf x⟩ = natsOf x) := Lib.hid (by rfl)
      clear r0 r8
      go_enter Tryz.func9, Tryz.ntmps9
      go_wp2_with fail
      refine HV.out.mono ?_
      rintro e w1 ⟨rfl, hb⟩
      have rd := (HWH.out.here hb).reads
      have lW := (HWH.out.here hb).lt
      have HB1 := Lib.hid (HB.out.trans (hb.mono HB.out.size))
      have HE1 := Lib.hid (HE.out.below hb)
      clear hb
      go_wp2_with fail
      go_ret2
      rw [HR.out, HP.out]
      exact ⟨by rw [strB_nats]; rfl, HB1.out⟩
    · have HP : Hid (printT DN ⟨5, m, s, natsOf x⟩ = [91]) := Lib.hid (by rfl)
      clear r0 r8
      go_enter Tryz.func9, Tryz.ntmps9
      go_wp2_with fail
      refine HV.out.mono ?_
      rintro e w1 ⟨rfl, hb⟩
      have rd := (HWH.out.here hb).reads
      have lW := (HWH.out.here hb).lt
      have HB1 := Lib.hid (HB.out.trans (hb.mono HB.out.size))
      have HE1 := Lib.hid (HE.out.below hb)
      clear hb
      go_wp2_with fail
      go_ret2
      rw [HR.out, HP.out]
      exact ⟨rfl, HB1.out⟩
    · have HP : Hid (printT DN ⟨6, m, s, natsOf x⟩ = [93]) := Lib.hid (by rfl)
      clear r0 r8
      go_enter Tryz.func9, Tryz.ntmps9
      go_wp2_with fail
      refine HV.out.mono ?_
      rintro e w1 ⟨rfl, hb⟩
      have rd := (HWH.out.here hb).reads
      have lW := (HWH.out.here hb).lt
      have HB1 := Lib.hid (HB.out.trans (hb.mono HB.out.size))
      have HE1 := Lib.hid (HE.out.below hb)
      clear hb
      go_wp2_with fail
      go_ret2
      rw [HR.out, HP.out]
      exact ⟨rfl, HB1.out⟩
    · have HP : Hid (printT DN ⟨7, m, s, natsOf x⟩ = [60, 60]) := Lib.hid (by rfl)
      clear r0 r8
      go_enter Tryz.func9, Tryz.ntmps9
      go_wp2_with fail
      refine HV.out.mono ?_
      rintro e w1 ⟨rfl, hb⟩
      have rd := (HWH.out.here hb).reads
      have lW := (HWH.out.here hb).lt
      have HB1 := Lib.hid (HB.out.trans (hb.mono HB.out.size))
      have HE1 := Lib.hid (HE.out.below hb)
      clear hb
      go_wp2_with fail
      go_ret2
      rw [HR.out, HP.out]
      exact ⟨rfl, HB1.out⟩
    · have HP : Hid (printT DN ⟨8, m, s, natsOf x⟩ = [62, 62]) := Lib.hid (by rfl)
      clear r0 r8
      go_enter Tryz.func9, Tryz.ntmps9
      go_wp2_with fail
      refine HV.out.mono ?_
      rintro e w1 ⟨rfl, hb⟩
      have rd := (HWH.out.here hb).reads
      have lW := (HWH.out.here hb).lt
      have HB1 := Lib.hid (HB.out.trans (hb.mono HB.out.size))
      have HE1 := Lib.hid (HE.out.below hb)
      clear hb
      go_wp2_with fail
      go_ret2
      rw [HR.out, HP.out]
      exact ⟨rfl, HB1.out⟩
end Go.Proofs.YtdiaijdobglaaaaGreatDoor
