/- lex: valid, Print. -/
import Derived.Test.YtdiaijdobglaaaaGreatDoorLexP
namespace Go.Proofs.YtdiaijdobglaaaaGreatDoor
open Go.RowKit

def validB (t : TokV) : Bool :=
  if t.kind = 1 then decide (Dec.Valid t.m t.s ∧ t.text.length = 0)
  else decide (t.m = 0 ∧ t.s = 0) && (if t.kind = 2 then decide (t.text.length ≤ 65535 ∧ ∀ c ∈ t.text, c ≠ 0) else if t.kind = 3 then decide (t.text.length ≤ 65535)
    else if t.kind = 4 then wordB t.text else decide (0 ≤ t.kind ∧ t.kind ≤ 8 ∧ t.text.length = 0))
theorem idx_zero : ∀ (l : List UInt8), (Lib.indexByte l 0 < 0) ↔ ∀ c ∈ l.map UInt8.toNat, c ≠ 0
  | [] => by simp [Lib.indexByte]
  | b :: l => by
    have ih := idx_zero l
    have hge := Lib.indexByte_ge l 0
    rw [Lib.indexByte]
    by_cases hb : b = 0
    · subst hb
      simp
    · have hb2 : (b == 0) = false := by simpa using hb
      rw [hb2]
      simp only [Bool.false_eq_true, if_false]
      have hbn : b.toNat ≠ 0 := fun e => hb (UInt8.toNat_inj.1 (by rw [e]; rfl))
      by_cases h1 : Lib.indexByte l 0 = -1
      · have := ih.1 (by omega)
        simp only [h1, beq_self_eq_true, if_true, List.map_cons, List.mem_cons, forall_eq_or_imp]
        exact ⟨fun _ => ⟨hbn, this⟩, fun _ => by decide⟩
      · have h2 : (Lib.indexByte l 0 == -1) = false := by simpa using h1
        rw [h2]
        simp only [Bool.false_eq_true, if_false, List.map_cons, List.mem_cons, forall_eq_or_imp]
        constructor
        · intro h; omega
        · rintro ⟨_, h⟩
          have := ih.2 h
          omega
set_option maxRecDepth 100000 in
set_option maxHeartbeats 8000000 in
theorem valid_any (kd m s : Int) (x : ByteArray) (w : World) (hs : x.size ≤ 1000000) (hE : Env w) :
    Calls Tryz.prog 20 #[.agg #[.int .i64 kd, .int .i64 m, .int .i64 s, .string x]] w fun e w' => e = .returned (.bool (validB ⟨kd, m, s, natsOf x⟩)) ∧ Below w.heap.size w w' := by
  have hl := nats_len x
  have hB := ((Below.refl w.heap.size w).alloc (Nat.le_refl _) (.cells #[.int .i64 kd, .int .i64 m, .int .i64 s, .string x] 27))
  have hW := Whole.made w 27 #[.int .i64 kd, .int .i64 m, .int .i64 s, .string x]
  have HB := Lib.hid hB
  have HWH := Lib.hid hW
  have HL := Lib.hid hl
  by_cases k1 : kd = 1
  · subst k1
    by_cases hv : Dec.Valid m s
    · have HV := Lib.hid hv
      by_cases h0 : x.size = 0
      · have e1 := empty_str h0
        have HR := Lib.hid (show validB ⟨1, m, s, natsOf x⟩ = true from decide_eq_true ⟨hv, by show (natsOf x).length = 0; omega⟩)
        clear hv h0 hl hB hW hE
        go_enter Tryz.func20, Tryz.ntmps20
        go_wp2_with fail
        refine (check_ok m s _ HV.out).mono ?_
        rintro e w1 ⟨rfl, hb⟩
        have rd := (HWH.out.here hb).reads
        have HB1 := Lib.hid (HB.out.trans (hb.mono HB.out.size))
        clear hb
        go_wp2_with fail
        go_ret
        exact ⟨ret_b HR.out.symm, HB1.out⟩
      · have e1 := full_str h0
        have HR := Lib.hid (show validB ⟨1, m, s, natsOf x⟩ = false from decide_eq_false (fun h => h0 (by have : (natsOf x).length = 0 := h.2; omega)))
        clear hv hl hB hW hE
        go_enter Tryz.func20, Tryz.ntmps20
        go_wp2_with fail
        refine (check_ok m s _ HV.out).mono ?_
        rintro e w1 ⟨rfl, hb⟩
        have rd := (HWH.out.here hb).reads
        have HB1 := Lib.hid (HB.out.trans (hb.mono HB.out.size))
        clear hb
        go_wp2_with fail
        go_ret
        exact ⟨ret_b HR.out.symm, HB1.out⟩
    · have HV := Lib.hid hv
      have HR := Lib.hid (show validB ⟨1, m, s, natsOf x⟩ = false from decide_eq_false (fun h => hv h.1))
      clear hv hl hB hW hE
      go_enter Tryz.func20, Tryz.ntmps20
      go_wp2_with fail
      refine (check_bad m s _ HV.out).mono ?_
      rintro e w1 ⟨rfl, hb⟩
      have rd := (HWH.out.here hb).reads
      have HB1 := Lib.hid (HB.out.trans (hb.mono HB.out.size))
      clear hb
      go_wp2_with fail
      go_ret
      exact ⟨ret_b HR.out.symm, HB1.out⟩
  · have t1 : (kd == 1) = false := by simpa using k1
    have u1 : (kd != 1) = true := by simpa using k1
    by_cases hz : m = 0 ∧ s = 0
    · obtain ⟨rfl, rfl⟩ := hz
      by_cases k2 : kd = 2
      · subst k2
        by_cases hlen : x.size ≤ 65535
        · have d1 : decide ((x.size : Int) ≤ 65535) = true := decide_eq_true (by omega)
          obtain ⟨I, hI⟩ : ∃ I, Lib.indexByte x.data.toList 0 = I := ⟨_, rfl⟩
          have hz := idx_zero x.data.toList
          rw [hI] at hz
          have HI := Lib.hid (show ∀ w : World, Calls Tryz.prog 43 #[.string x, .int .u8 0] w fun e w' => e = .returned (.int .i64 I) ∧ w' = w from fun w => by
            have := Tryz.strings_IndexByte x 0 w
            rw [show ((0 : Int).toNat.toUInt8) = (0 : UInt8) from rfl, hI] at this
            exact this)
          by_cases hneg : I < 0
          · have d2 : decide (I < 0) = true := decide_eq_true hneg
            have HR := Lib.hid (show validB ⟨2, 0, 0, natsOf x⟩ = true by
              unfold validB
              rw [if_neg k1, if_pos rfl, decide_eq_true (show (0 : Int) = 0 ∧ (0 : Int) = 0 from ⟨rfl, rfl⟩), Bool.true_and]
              exact decide_eq_true ⟨by show (natsOf x).length ≤ 65535; omega, hz.1 hneg⟩)
            clear hz hI hneg k1 hl hB hW hE
            go_enter Tryz.func20, Tryz.ntmps20
            go_wp2_with fail
            refine (HI.out _).mono ?_
            rintro e w1 ⟨rfl, rfl⟩
            go_wp2_with fail
            go_ret
            exact ⟨ret_b HR.out.symm, HB.out⟩
          · have d2 : decide (I < 0) = false := decide_eq_false hneg
            have HR := Lib.hid (show validB ⟨2, 0, 0, natsOf x⟩ = false by
              unfold validB
              rw [if_neg k1, if_pos rfl, decide_eq_true (show (0 : Int) = 0 ∧ (0 : Int) = 0 from ⟨rfl, rfl⟩), Bool.true_and]
              exact decide_eq_false (fun h => hneg (hz.2 h.2)))
            clear hz hI hneg k1 hl hB hW hE
            go_enter Tryz.func20, Tryz.ntmps20
            go_wp2_with fail
            refine (HI.out _).mono ?_
            rintro e w1 ⟨rfl, rfl⟩
            go_wp2_with fail
            go_ret
            exact ⟨ret_b HR.out.symm, HB.out⟩
        · have d1 : decide ((x.size : Int) ≤ 65535) = false := decide_eq_false (by omega)
          have HR := Lib.hid (show validB ⟨2, 0, 0, natsOf x⟩ = false by
            unfold validB
            rw [if_neg k1, if_pos rfl, decide_eq_true (show (0 : Int) = 0 ∧ (0 : Int) = 0 from ⟨rfl, rfl⟩), Bool.true_and]
            exact decide_eq_false (fun h => hlen (by have : (natsOf x).length ≤ 65535 := h.1; omega)))
          clear k1 hl hB hW hE
          go_enter Tryz.func20, Tryz.ntmps20
          go_wp2_with fail
          go_ret
          exact ⟨ret_b HR.out.symm, HB.out⟩
      have t2 : (kd == 2) = false := by simpa using k2
      by_cases k3 : kd = 3
      · subst k3
        by_cases hlen : x.size ≤ 65535
        · have d1 : decide ((x.size : Int) ≤ 65535) = true := decide_eq_true (by omega)
          have HR := Lib.hid (show validB ⟨3, 0, 0, natsOf x⟩ = true by
            unfold validB
            rw [if_neg k1, if_neg k2, if_pos rfl, decide_eq_true (show (0 : Int) = 0 ∧ (0 : Int) = 0 from ⟨rfl, rfl⟩), Bool.true_and]
            exact decide_eq_true (by show (natsOf x).length ≤ 65535; omega))
          clear k1 k2 hl hB hW hE
          go_enter Tryz.func20, Tryz.ntmps20
          go_wp2_with fail
          go_ret
          exact ⟨ret_b HR.out.symm, HB.out⟩
        · have d1 : decide ((x.size : Int) ≤ 65535) = false := decide_eq_false (by omega)
          have HR := Lib.hid (show validB ⟨3, 0, 0, natsOf x⟩ = false by
            unfold validB
            rw [if_neg k1, if_neg k2, if_pos rfl, decide_eq_true (show (0 : Int) = 0 ∧ (0 : Int) = 0 from ⟨rfl, rfl⟩), Bool.true_and]
            exact decide_eq_false (fun h => hlen (by have : (natsOf x).length ≤ 65535 := h; omega)))
          clear k1 k2 hl hB hW hE
          go_enter Tryz.func20, Tryz.ntmps20
          go_wp2_with fail
          go_ret
          exact ⟨ret_b HR.out.symm, HB.out⟩
      have t3 : (kd == 3) = false := by simpa using k3
      by_cases k4 : kd = 4
      · subst k4
        have HR := Lib.hid (show validB ⟨4, 0, 0, natsOf x⟩ = wordB (natsOf x) by
          unfold validB
          rw [if_neg k1, if_neg k2, if_neg k3, if_pos rfl, decide_eq_true (show (0 : Int) = 0 ∧ (0 : Int) = 0 from ⟨rfl, rfl⟩), Bool.true_and])
        have HV := Lib.hid (validWord_any x _ hs (hE.below hB))
        clear k1 k2 k3 hl hB hW hE
        go_enter Tryz.func20, Tryz.ntmps20
        go_wp2_with fail
        refine HV.out.mono ?_
        rintro e w1 ⟨rfl, hb⟩
        have HB1 := Lib.hid (HB.out.trans (hb.mono HB.out.size))
        clear hb
        go_wp2_with fail
        go_ret
        exact ⟨ret_b HR.out.symm, HB1.out⟩
      have t4 : (kd == 4) = false := by simpa using k4
      have HQ := Lib.hid (show validB ⟨kd, 0, 0, natsOf x⟩ = decide (0 ≤ kd ∧ kd ≤ 8 ∧ (natsOf x).length = 0) by
        unfold validB
        rw [if_neg k1, if_neg k2, if_neg k3, if_neg k4, decide_eq_true (show (0 : Int) = 0 ∧ (0 : Int) = 0 from ⟨rfl, rfl⟩), Bool.true_and])
      by_cases g0 : 0 ≤ kd
      · have d1 : decide ((0 : Int) ≤ kd) = true := decide_eq_true g0
        by_cases g8 : kd ≤ 8
        · have d2 : decide (kd ≤ 8) = true := decide_eq_true g8
          by_cases h0 : x.size = 0
          · have e1 := empty_str h0
            have HR := Lib.hid (show validB ⟨kd, 0, 0, natsOf x⟩ = true by rw [HQ.out]; exact decide_eq_true ⟨g0, g8, by omega⟩)
            clear h0 k1 k2 k3 k4 hl hB hW hE
            go_enter Tryz.func20, Tryz.ntmps20
            go_wp2_with fail
            go_ret
            exact ⟨ret_b HR.out.symm, HB.out⟩
          · have e1 := full_str h0
            have HR := Lib.hid (show validB ⟨kd, 0, 0, natsOf x⟩ = false by rw [HQ.out]; exact decide_eq_false (fun h => h0 (by have := h.2.2; omega)))
            clear k1 k2 k3 k4 hl hB hW hE
            go_enter Tryz.func20, Tryz.ntmps20
            go_wp2_with fail
            go_ret
            exact ⟨ret_b HR.out.symm, HB.out⟩
        · have d2 : decide (kd ≤ 8) = false := decide_eq_false g8
          have HR := Lib.hid (show validB ⟨kd, 0, 0, natsOf x⟩ = false by rw [HQ.out]; exact decide_eq_false (fun h => g8 h.2.1))
          clear k1 k2 k3 k4 hl hB hW hE
          go_enter Tryz.func20, Tryz.ntmps20
          go_wp2_with fail
          go_ret
          exact ⟨ret_b HR.out.symm, HB.out⟩
      · have d1 : decide ((0 : Int) ≤ kd) = false := decide_eq_false g0
        have HR := Lib.hid (show validB ⟨kd, 0, 0, natsOf x⟩ = false by rw [HQ.out]; exact decide_eq_false (fun h => g0 h.1))
        clear k1 k2 k3 k4 hl hB hW hE
        go_enter Tryz.func20, Tryz.ntmps20
        go_wp2_with fail
        go_ret
        exact ⟨ret_b HR.out.symm, HB.out⟩
    · have HR := Lib.hid (show validB ⟨kd, m, s, natsOf x⟩ = false by unfold validB; rw [if_neg k1, decide_eq_false hz, Bool.false_and])
      clear hl hB hW hE
      by_cases hm : m = 0
      · subst hm
        have hs0 : ¬ s = 0 := fun h => hz ⟨rfl, h⟩
        have v1 : (s == 0) = false := by simpa using hs0
        clear hz hs0
        go_enter Tryz.func20, Tryz.ntmps20
        go_wp2_with fail
        go_ret
        exact ⟨ret_b HR.out.symm, HB.out⟩
      · have v1 : (m == 0) = false := by simpa using hm
        clear hz hm
        go_enter Tryz.func20, Tryz.ntmps20
        go_wp2_with fail
        go_ret
        exact ⟨ret_b HR.out.symm, HB.out⟩
end Go.Proofs.YtdiaijdobglaaaaGreatDoor
