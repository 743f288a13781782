/- lex: what is too long to be a token's text is refused. -/
import Derived.Test.YtdiaijdobglaaaaDoorLexY
namespace Go.Proofs.YtdiaijdobglaaaaDoor
open Go.RowKit

set_option maxRecDepth 100000 in
set_option maxHeartbeats 8000000 in
theorem validWord_long (s : ByteArray) (w : World) (h : 65535 < s.size) :
    Calls Tryd.prog 21 #[.string s] w fun e w' => e = .returned (.bool false) ∧ Below w.heap.size w w' := by
  have e1 := full_str (s := s) (by omega)
  have d1 : decide ((127 : Int) < (s.size : Int)) = true := decide_eq_true (by omega)
  clear h
  go_enter Tryd.func21, Tryd.ntmps21
  go_wp2_with fail
  go_ret
  exact ⟨rfl, Below.refl _ _⟩
set_option maxRecDepth 100000 in
set_option maxHeartbeats 8000000 in
theorem valid_long (kd m s : Int) (x : ByteArray) (w : World) (h : 65535 < x.size) :
    Calls Tryd.prog 10 #[.agg #[.int .i64 kd, .int .i64 m, .int .i64 s, .string x]] w fun e w' => e = .returned (.bool false) ∧ Below w.heap.size w w' := by
  have hB := ((Below.refl w.heap.size w).alloc (Nat.le_refl _) (.cells #[.int .i64 kd, .int .i64 m, .int .i64 s, .string x] 25))
  have hW := Whole.made w 25 #[.int .i64 kd, .int .i64 m, .int .i64 s, .string x]
  have HB := Lib.hid hB
  have HWH := Lib.hid hW
  have e1 := full_str (s := x) (by omega)
  have d1 : decide ((x.size : Int) ≤ 65535) = false := decide_eq_false (by omega)
  have HX := Lib.hid (fun w => validWord_long x w h)
  clear hB hW h
  by_cases k1 : kd = 1
  · subst k1
    by_cases hv : Dec.Valid m s
    · have HV := Lib.hid hv
      clear hv
      go_enter Tryd.func10, Tryd.ntmps10
      go_wp2_with fail
      refine (check_ok m s _ HV.out).mono ?_
      rintro e w1 ⟨rfl, hb⟩
      have rd := (HWH.out.here hb).reads
      have HB1 := Lib.hid (HB.out.trans (hb.mono HB.out.size))
      clear hb
      go_wp2_with fail
      go_ret
      exact ⟨rfl, HB1.out⟩
    · have HV := Lib.hid hv
      clear hv
      go_enter Tryd.func10, Tryd.ntmps10
      go_wp2_with fail
      refine (check_bad m s _ HV.out).mono ?_
      rintro e w1 ⟨rfl, hb⟩
      have rd := (HWH.out.here hb).reads
      have HB1 := Lib.hid (HB.out.trans (hb.mono HB.out.size))
      clear hb
      go_wp2_with fail
      go_ret
      exact ⟨rfl, HB1.out⟩
  · have t1 : (kd == 1) = false := by simpa using k1
    have u1 : (kd != 1) = true := by simpa using k1
    by_cases hm : m = 0
    · subst hm
      by_cases hs0 : s = 0
      · subst hs0
        by_cases k2 : kd = 2
        · subst k2
          clear k1
          go_enter Tryd.func10, Tryd.ntmps10
          go_wp2_with fail
          go_ret
          exact ⟨rfl, HB.out⟩
        have t2 : (kd == 2) = false := by simpa using k2
        by_cases k3 : kd = 3
        · subst k3
          clear k1 k2
          go_enter Tryd.func10, Tryd.ntmps10
          go_wp2_with fail
          go_ret
          exact ⟨rfl, HB.out⟩
        have t3 : (kd == 3) = false := by simpa using k3
        by_cases k4 : kd = 4
        · subst k4
          clear k1 k2 k3
          go_enter Tryd.func10, Tryd.ntmps10
          go_wp2_with fail
          refine (HX.out _).mono ?_
          rintro e w1 ⟨rfl, hb⟩
          have HB1 := Lib.hid (HB.out.trans (hb.mono HB.out.size))
          clear hb
          go_wp2_with fail
          go_ret
          exact ⟨rfl, HB1.out⟩
        have t4 : (kd == 4) = false := by simpa using k4
        by_cases g0 : 0 ≤ kd
        · have f1 : decide ((0 : Int) ≤ kd) = true := decide_eq_true g0
          by_cases g8 : kd ≤ 8
          · have f2 : decide (kd ≤ 8) = true := decide_eq_true g8
            clear k1 k2 k3 k4
            go_enter Tryd.func10, Tryd.ntmps10
            go_wp2_with fail
            go_ret
            exact ⟨rfl, HB.out⟩
          · have f2 : decide (kd ≤ 8) = false := decide_eq_false g8
            clear k1 k2 k3 k4
            go_enter Tryd.func10, Tryd.ntmps10
            go_wp2_with fail
            go_ret
            exact ⟨rfl, HB.out⟩
        · have f1 : decide ((0 : Int) ≤ kd) = false := decide_eq_false g0
          clear k1 k2 k3 k4
          go_enter Tryd.func10, Tryd.ntmps10
          go_wp2_with fail
          go_ret
          exact ⟨rfl, HB.out⟩
      · have v1 : (s == 0) = false := by simpa using hs0
        clear k1 hs0
        go_enter Tryd.func10, Tryd.ntmps10
        go_wp2_with fail
        go_ret
        exact ⟨rfl, HB.out⟩
    · have v1 : (m == 0) = false := by simpa using hm
      clear k1 hm
      go_enter Tryd.func10, Tryd.ntmps10
      go_wp2_with fail
      go_ret
      exact ⟨rfl, HB.out⟩
set_option maxRecDepth 100000 in
set_option maxHeartbeats 8000000 in
theorem Print_long (kd m s : Int) (x : ByteArray) (w : World) (h : 65535 < x.size) :
    Calls Tryd.prog 6 #[.agg #[.int .i64 kd, .int .i64 m, .int .i64 s, .string x]] w (PrintSaid (1, []) w) := by
  have hB := ((Below.refl w.heap.size w).alloc (Nat.le_refl _) (.cells #[.int .i64 kd, .int .i64 m, .int .i64 s, .string x] 25))
  have HB := Lib.hid hB
  have HV := Lib.hid (valid_long kd m s x (w.alloc (.cells #[.int .i64 kd, .int .i64 m, .int .i64 s, .string x] 25)) h)
  clear hB h
  go_enter Tryd.func6, Tryd.ntmps6
  go_wp2_with fail
  refine HV.out.mono ?_
  rintro e w1 ⟨rfl, hb⟩
  have HB1 := Lib.hid (HB.out.trans (hb.mono HB.out.size))
  clear hb
  go_wp2_with fail
  go_ret2
  exact ⟨rfl, HB1.out⟩
/-- Print, of a text of any length. -/
theorem Print_all (kd m s : Int) (x : ByteArray) (w : World) (hE : Env w) :
    Calls Tryd.prog 6 #[.agg #[.int .i64 kd, .int .i64 m, .int .i64 s, .string x]] w (PrintSaid (printI ⟨kd, m, s, natsOf x⟩) w) := by
  by_cases h : 65535 < x.size
  · have hv : validB ⟨kd, m, s, natsOf x⟩ = false := by
      cases hv : validB ⟨kd, m, s, natsOf x⟩
      · rfl
      · have h1 : (natsOf x).length ≤ 65535 := valid_len hv (nats_lt x)
        rw [nats_len] at h1
        omega
    have : printI ⟨kd, m, s, natsOf x⟩ = (1, []) := by unfold printI; rw [hv]; rfl
    rw [this]
    exact Print_long kd m s x w h
  · exact Print_any kd m s x w (by omega) hE
end Go.Proofs.YtdiaijdobglaaaaDoor
