/- raster: the document's Shape, Same; few. -/
import Derived.Test.YtmleoagdelgddaaRasPc
import Derived.Test.YtmleoagdelgddaaRasMa
import Derived.Test.YtmleoagdelgddaaByteStr
namespace Go.Proofs.Ytmleoagdelgddaa
open Go.RowKit Dec

set_option maxRecDepth 100000 in
set_option maxHeartbeats 4000000 in
theorem shape_any (W H B C : Int) (A : Option Addr) (n c : Nat) (w : World) :
    Calls Try.prog 26 #[.agg #[.int .i64 W, .int .i64 H, .int .i64 B, .int .i64 C, .slice A n c]] w fun e w' => e = .returned (.bool (fmtB W H B C)) ∧ Below w.heap.size w w' := by
  have HP := Lib.hid (fun w => pixels_any W H w)
  have HW := Whole.made w 24 #[.int .i64 W, .int .i64 H, .int .i64 B, .int .i64 C, .slice A n c]
  have HV := Lib.hid ((Below.refl w.heap.size w).alloc (Nat.le_refl _) (.cells #[.int .i64 W, .int .i64 H, .int .i64 B, .int .i64 C, .slice A n c] 24))
  have HI := Lib.hid HW
  obtain ⟨sz, hsz⟩ : ∃ s, sizeB W H = s := ⟨_, rfl⟩
  have HF := Lib.hid (show fmtB W H B C = ((sz && bitsB B) && (decide (1 ≤ C) && decide (C ≤ 4))) by unfold fmtB; rw [hsz])
  rw [hsz] at HP
  clear hsz HW
  go_enter Try.func26, Try.ntmps26
  go_upto_region 1 with fail
  go_cut [3] from 4 to 26 (fun s wx => s = .bool (bitsB B) ∧ wx = w.alloc (.cells #[.int .i64 W, .int .i64 H, .int .i64 B, .int .i64 C, .slice A n c] 24))
  case first =>
    obtain ⟨c0, c1, c2, c3, c4⟩ := img_cells HI.out
    have lI := HI.out.lt
    by_cases k1 : B = 1
    · subst k1
      go_wp2_with fail
      go_meet
      exact ⟨rfl, rfl⟩
    have z1 : (B == 1) = false := beq_false_of_ne k1
    by_cases k2 : B = 2
    · subst k2
      go_wp2_with fail
      go_meet
      exact ⟨rfl, rfl⟩
    have z2 : (B == 2) = false := beq_false_of_ne k2
    by_cases k3 : B = 4
    · subst k3
      go_wp2_with fail
      go_meet
      exact ⟨rfl, rfl⟩
    have z3 : (B == 4) = false := beq_false_of_ne k3
    by_cases k4 : B = 8
    · subst k4
      go_wp2_with fail
      go_meet
      exact ⟨rfl, rfl⟩
    have z4 : (B == 8) = false := beq_false_of_ne k4
    by_cases k5 : B = 16
    · subst k5
      go_wp2_with fail
      go_meet
      exact ⟨rfl, rfl⟩
    have z5 : (B == 16) = false := beq_false_of_ne k5
    have HN := Lib.hid (show bitsB B = false by unfold bitsB; exact decide_eq_false (by omega))
    clear k1 k2 k3 k4 k5
    go_wp2_with fail
    go_meet
    exact ⟨by rw [HN.out], rfl⟩
  case rest =>
    obtain ⟨rfl, rfl⟩ := hcut
    obtain ⟨c0, c1, c2, c3, c4⟩ := img_cells HI.out
    have lI := HI.out.lt
    obtain ⟨bt, hbt⟩ : ∃ s, bitsB B = s := ⟨_, rfl⟩
    rw [hbt] at HF
    rw [hbt]
    clear hbt
    cases sz
    · go_wp2_with fail
      refine (HP.out _).mono ?_
      rintro e w1 ⟨rfl, rfl⟩
      go_wp2_with fail
      go_ret
      exact ⟨by rw [HF.out]; rfl, HV.out⟩
    · cases bt
      · go_wp2_with fail
        refine (HP.out _).mono ?_
        rintro e w1 ⟨rfl, rfl⟩
        go_wp2_with fail
        go_ret
        exact ⟨by rw [HF.out]; rfl, HV.out⟩
      · by_cases h1 : 1 ≤ C
        · have d1 : decide (1 ≤ C) = true := decide_eq_true h1
          obtain ⟨d, hd⟩ : ∃ d, decide (C ≤ 4) = d := ⟨_, rfl⟩
          rw [hd, d1] at HF
          clear h1
          go_wp2_with fail
          refine (HP.out _).mono ?_
          rintro e w1 ⟨rfl, rfl⟩
          go_wp2_with fail
          go_ret
          exact ⟨by rw [HF.out]; cases d <;> rfl, HV.out⟩
        · have d1 : decide (1 ≤ C) = false := decide_eq_false h1
          rw [d1] at HF
          clear h1
          go_wp2_with fail
          refine (HP.out _).mono ?_
          rintro e w1 ⟨rfl, rfl⟩
          go_wp2_with fail
          go_ret
          exact ⟨by rw [HF.out]; rfl, HV.out⟩
set_option maxRecDepth 100000 in
set_option maxHeartbeats 4000000 in
theorem few_any (W H B C : Int) (A : Option Addr) (n c : Nat) (w : World) :
    Calls Try.prog 9 #[.agg #[.int .i64 W, .int .i64 H, .int .i64 B, .int .i64 C, .slice A n c]] w fun e w' => (∃ r : Bool, e = .returned (.bool r)) ∧ Below w.heap.size w w' := by
  have HS := Lib.hid (fun w => shape_any W H B C A n c w)
  have HV := Lib.hid ((Below.refl w.heap.size w).alloc (Nat.le_refl _) (.cells #[.int .i64 W, .int .i64 H, .int .i64 B, .int .i64 C, .slice A n c] 24))
  obtain ⟨fm, hfm⟩ : ∃ s, fmtB W H B C = s := ⟨_, rfl⟩
  rw [hfm] at HS
  clear hfm
  by_cases h1 : n ≤ 600
  · have d1 : decide ((n : Int) ≤ 600) = true := decide_eq_true (by omega)
    by_cases h2 : W ≤ 40
    · have d2 : decide (W ≤ 40) = true := decide_eq_true h2
      by_cases h3 : H ≤ 40
      · have d3 : decide (H ≤ 40) = true := decide_eq_true h3
        clear h1 h2 h3
        go_enter Try.func9, Try.ntmps9
        go_wp2_with fail
        go_ret
        exact ⟨⟨_, rfl⟩, HV.out⟩
      · have d3 : decide (H ≤ 40) = false := decide_eq_false h3
        clear h1 h2 h3
        go_enter Try.func9, Try.ntmps9
        go_wp2_with fail
        refine (HS.out _).mono ?_
        rintro e w1 ⟨rfl, hb⟩
        have HB := Lib.hid (HV.out.trans (hb.mono HV.out.size))
        clear hb
        go_wp2_with fail
        go_ret
        exact ⟨⟨_, rfl⟩, HB.out⟩
    · have d2 : decide (W ≤ 40) = false := decide_eq_false h2
      clear h1 h2
      go_enter Try.func9, Try.ntmps9
      go_wp2_with fail
      refine (HS.out _).mono ?_
      rintro e w1 ⟨rfl, hb⟩
      have HB := Lib.hid (HV.out.trans (hb.mono HV.out.size))
      clear hb
      go_wp2_with fail
      go_ret
      exact ⟨⟨_, rfl⟩, HB.out⟩
  · have d1 : decide ((n : Int) ≤ 600) = false := decide_eq_false (by omega)
    clear h1
    go_enter Try.func9, Try.ntmps9
    go_wp2_with fail
    go_ret
    exact ⟨⟨_, rfl⟩, HV.out⟩
set_option maxRecDepth 100000 in
set_option maxHeartbeats 4000000 in
theorem same_true (W H B C : Int) (A : Option Addr) (n c : Nat) (A2 : Option Addr) (n2 c2 : Nat) (bs : List Nat) (w : World) (h : Bytes w A n c bs) (h2 : Bytes w A2 n2 c2 bs) :
    Calls Try.prog 20 #[.agg #[.int .i64 W, .int .i64 H, .int .i64 B, .int .i64 C, .slice A n c], .agg #[.int .i64 W, .int .i64 H, .int .i64 B, .int .i64 C, .slice A2 n2 c2]] w fun e w' => e = .returned (.bool true) ∧ Below w.heap.size w w' := by
  have HV := Lib.hid (((Below.refl w.heap.size w).alloc (Nat.le_refl _) (.cells #[.int .i64 W, .int .i64 H, .int .i64 B, .int .i64 C, .slice A n c] 24)).alloc (by simp) (.cells #[.int .i64 W, .int .i64 H, .int .i64 B, .int .i64 C, .slice A2 n2 c2] 24))
  have cA := (h.below HV.out).str
  have cB := (h2.below HV.out).str
  clear h h2
  go_enter Try.func20, Try.ntmps20
  go_wp2_with fail
  go_ret
  exact ⟨rfl, HV.out⟩
end Go.Proofs.Ytmleoagdelgddaa
