/- The law LexBack: two tokens that are printed. Written by gen_lexx.py. -/
import Derived.Test.YtdiaijdobglaaaaDoorLexW
namespace Go.Proofs.YtdiaijdobglaaaaDoor
open Go.RowKit
set_option maxRecDepth 100000 in
set_option maxHeartbeats 16000000 in
theorem back_a (kt mt st ku mu su : Int) (xt xu : ByteArray) (w : World) (hl : xt.size + xu.size ≤ 500) (r1 r2 : ByteArray) (hr1 : r1.size ≤ 10000) (hr2 : r2.size ≤ 10000) (hE : Env w)
    (hp1 : ∀ w, Env w → Calls Tryd.prog 6 #[.agg #[.int .i64 kt, .int .i64 mt, .int .i64 st, .string xt]] w fun e' w' => e' = .returned (.tuple #[.string r1, .int .i64 0]) ∧ Below w.heap.size w w')
    (hp2 : ∀ w, Env w → Calls Tryd.prog 6 #[.agg #[.int .i64 ku, .int .i64 mu, .int .i64 su, .string xu]] w fun e' w' => e' = .returned (.tuple #[.string r2, .int .i64 0]) ∧ Below w.heap.size w w')
    (hk : kt = 0) (z9 : Int) (hn1 : nextI (backL (natsOf r1) (natsOf r2)) 0 = (0, ⟨ku, mu, su, natsOf xu⟩, z9)) :
    Calls Tryd.prog 3 #[.agg #[.int .i64 kt, .int .i64 mt, .int .i64 st, .string xt], .agg #[.int .i64 ku, .int .i64 mu, .int .i64 su, .string xu]] w (True_ w) := by
  have d1 : decide ((500 : Int) < (xt.size : Int) + (xu.size : Int)) = false := decide_eq_false (by omega)
  have e1 : IntKind.i64.wrap ((xt.size : Int) + (xu.size : Int)) = (xt.size : Int) + (xu.size : Int) := by rw [IntKind.wrap_i64]; omega
  have k1 : (kt == 0) = true := by simpa using hk
  have HT := Lib.hid (show Two w.heap.size #[.int .i64 kt, .int .i64 mt, .int .i64 st, .string xt] #[.int .i64 ku, .int .i64 mu, .int .i64 su, .string xu] w ((w.alloc (.cells #[.int .i64 kt, .int .i64 mt, .int .i64 st, .string xt] 25)).alloc (.cells #[.int .i64 ku, .int .i64 mu, .int .i64 su, .string xu] 25)) from by
    have hb := ((Below.refl w.heap.size w).alloc (Nat.le_refl _) (.cells #[.int .i64 kt, .int .i64 mt, .int .i64 st, .string xt] 25)).alloc (by simp) (.cells #[.int .i64 ku, .int .i64 mu, .int .i64 su, .string xu] 25)
    have h2 := Whole.made (w.alloc (.cells #[.int .i64 kt, .int .i64 mt, .int .i64 st, .string xt] 25)) 25 #[.int .i64 ku, .int .i64 mu, .int .i64 su, .string xu]
    simp only [World.size_alloc] at h2
    exact ⟨(Whole.made w _ _).old _, h2, hb, hE.below hb⟩)
  have HP1 := Lib.hid hp1
  have HP2 := Lib.hid hp2
  have kc := fun (w : World) (s : ByteArray) => Lib.run_convert_string_bytes (P := Tryd.prog) w 9 30 5 s Tryd.underlying9 Tryd.underlying30 Tryd.underlying5
  clear hp1 hp2 hE hl hk
  have N1 := Lib.hid hn1
  clear hn1
  go_enter Tryd.func3, Tryd.ntmps3
  go_wp2_with fail
  refine (HP1.out _ HT.out.2.2.2).mono ?_
  rintro e w1 ⟨rfl, hb⟩
  have HT1 := Lib.hid (HT.out.next hb)
  have q2 := HT1.out.2.1.reads
  have l2 := HT1.out.2.1.lt
  clear hb
  go_wp2_with fail
  refine (HP2.out _ HT1.out.2.2.2).mono ?_
  rintro e w2 ⟨rfl, hb⟩
  have HT2 := Lib.hid (HT1.out.next hb)
  clear hb q2 l2
  have hby := bytes_conv w2 (catB r1 r2) (by rw [cat_size]; omega)
  rw [cat_nats, cat_size2] at hby
  have HY := Lib.hid hby
  have HT3 := Lib.hid (HT2.out.next (Joins.below_bytesWorld w2.heap.size w2 5 (catB r1 r2) (Nat.le_refl _)))
  clear hby
  go_wp2_with fail
  refine (next_cat N1.out (tok_val ku mu su xu) _ _ _ _ HY.out HT3.out.2.2.2.1 (by omega)).mono ?_
  rintro e w3 ⟨rfl, hb⟩
  have HT4 := Lib.hid ((HT3.out.next hb).old (.cells #[.int .i64 ku, .int .i64 mu, .int .i64 su, .string xu] 25))
  have HX := Lib.hid (Whole.made w3 25 #[.int .i64 ku, .int .i64 mu, .int .i64 su, .string xu])
  have q1 := (HT3.out.next hb).1.reads
  have l1 := (HT3.out.next hb).1.lt
  clear hb
  go_wp2_with fail
  refine (awake_any _ HT4.out.2.2.2).mono ?_
  rintro e w4 ⟨rfl, hb⟩
  have HT5 := Lib.hid (HT4.out.next hb)
  have q2 := HT5.out.2.1.reads
  have l2 := HT5.out.2.1.lt
  have qx := (HX.out.here hb).reads
  have lx := (HX.out.here hb).lt
  clear hb q1 l1
  go_wp2_with fail
  go_ret
  exact ⟨rfl, HT5.out.2.2.1⟩
set_option maxRecDepth 100000 in
set_option maxHeartbeats 16000000 in
theorem back_b (kt mt st ku mu su : Int) (xt xu : ByteArray) (w : World) (hl : xt.size + xu.size ≤ 500) (r1 r2 : ByteArray) (hr1 : r1.size ≤ 10000) (hr2 : r2.size ≤ 10000) (hE : Env w)
    (hp1 : ∀ w, Env w → Calls Tryd.prog 6 #[.agg #[.int .i64 kt, .int .i64 mt, .int .i64 st, .string xt]] w fun e' w' => e' = .returned (.tuple #[.string r1, .int .i64 0]) ∧ Below w.heap.size w w')
    (hp2 : ∀ w, Env w → Calls Tryd.prog 6 #[.agg #[.int .i64 ku, .int .i64 mu, .int .i64 su, .string xu]] w fun e' w' => e' = .returned (.tuple #[.string r2, .int .i64 0]) ∧ Below w.heap.size w w')
    (hk : ¬ kt = 0) (hk2 : ku = 0) (p z9 : Int) (hn1 : nextI (backL (natsOf r1) (natsOf r2)) 0 = (0, ⟨kt, mt, st, natsOf xt⟩, p)) (hn2 : nextI (backL (natsOf r1) (natsOf r2)) p = (0, ⟨ku, mu, su, natsOf xu⟩, z9)) (hn3 : nextI (backL (natsOf r1) (natsOf r2)) z9 = (0, noTok, ((4 + r1.size + 5 + r2.size + 1 : Nat) : Int))) :
    Calls Tryd.prog 3 #[.agg #[.int .i64 kt, .int .i64 mt, .int .i64 st, .string xt], .agg #[.int .i64 ku, .int .i64 mu, .int .i64 su, .string xu]] w (True_ w) := by
  have d1 : decide ((500 : Int) < (xt.size : Int) + (xu.size : Int)) = false := decide_eq_false (by omega)
  have e1 : IntKind.i64.wrap ((xt.size : Int) + (xu.size : Int)) = (xt.size : Int) + (xu.size : Int) := by rw [IntKind.wrap_i64]; omega
  have k1 : (kt == 0) = false := by simpa using hk
  have HT := Lib.hid (show Two w.heap.size #[.int .i64 kt, .int .i64 mt, .int .i64 st, .string xt] #[.int .i64 ku, .int .i64 mu, .int .i64 su, .string xu] w ((w.alloc (.cells #[.int .i64 kt, .int .i64 mt, .int .i64 st, .string xt] 25)).alloc (.cells #[.int .i64 ku, .int .i64 mu, .int .i64 su, .string xu] 25)) from by
    have hb := ((Below.refl w.heap.size w).alloc (Nat.le_refl _) (.cells #[.int .i64 kt, .int .i64 mt, .int .i64 st, .string xt] 25)).alloc (by simp) (.cells #[.int .i64 ku, .int .i64 mu, .int .i64 su, .string xu] 25)
    have h2 := Whole.made (w.alloc (.cells #[.int .i64 kt, .int .i64 mt, .int .i64 st, .string xt] 25)) 25 #[.int .i64 ku, .int .i64 mu, .int .i64 su, .string xu]
    simp only [World.size_alloc] at h2
    exact ⟨(Whole.made w _ _).old _, h2, hb, hE.below hb⟩)
  have HP1 := Lib.hid hp1
  have HP2 := Lib.hid hp2
  have kc := fun (w : World) (s : ByteArray) => Lib.run_convert_string_bytes (P := Tryd.prog) w 9 30 5 s Tryd.underlying9 Tryd.underlying30 Tryd.underlying5
  clear hp1 hp2 hE hl hk
  have k2 : (ku == 0) = true := by simpa using hk2
  have N1 := Lib.hid hn1
  have N2 := Lib.hid hn2
  have N3 := Lib.hid hn3
  clear hn1 hn2 hn3 hk2
  go_enter Tryd.func3, Tryd.ntmps3
  go_wp2_with fail
  refine (HP1.out _ HT.out.2.2.2).mono ?_
  rintro e w1 ⟨rfl, hb⟩
  have HT1 := Lib.hid (HT.out.next hb)
  have q2 := HT1.out.2.1.reads
  have l2 := HT1.out.2.1.lt
  clear hb
  go_wp2_with fail
  refine (HP2.out _ HT1.out.2.2.2).mono ?_
  rintro e w2 ⟨rfl, hb⟩
  have HT2 := Lib.hid (HT1.out.next hb)
  clear hb q2 l2
  have hby := bytes_conv w2 (catB r1 r2) (by rw [cat_size]; omega)
  rw [cat_nats, cat_size2] at hby
  have HY := Lib.hid hby
  have HT3 := Lib.hid (HT2.out.next (Joins.below_bytesWorld w2.heap.size w2 5 (catB r1 r2) (Nat.le_refl _)))
  clear hby
  go_wp2_with fail
  refine (next_cat N1.out (tok_val kt mt st xt) _ _ _ _ HY.out HT3.out.2.2.2.1 (by omega)).mono ?_
  rintro e w3 ⟨rfl, hb⟩
  have HT4 := Lib.hid ((HT3.out.next hb).old (.cells #[.int .i64 kt, .int .i64 mt, .int .i64 st, .string xt] 25))
  have HX := Lib.hid (Whole.made w3 25 #[.int .i64 kt, .int .i64 mt, .int .i64 st, .string xt])
  have HY4 := Lib.hid ((HY.out.below hb).below ((Below.refl _ _).alloc (Nat.le_refl _) (.cells #[.int .i64 kt, .int .i64 mt, .int .i64 st, .string xt] 25)))
  have q1 := (HT3.out.next hb).1.reads
  have l1 := (HT3.out.next hb).1.lt
  clear hb
  go_wp2_with fail
  refine (next_cat N2.out (tok_val ku mu su xu) _ _ _ _ HY4.out HT4.out.2.2.2.1 (by omega)).mono ?_
  rintro e w4 ⟨rfl, hb⟩
  have HT5 := Lib.hid ((HT4.out.next hb).old (.cells #[.int .i64 ku, .int .i64 mu, .int .i64 su, .string xu] 25))
  have HX5 := Lib.hid ((HX.out.here hb).old (.cells #[.int .i64 ku, .int .i64 mu, .int .i64 su, .string xu] 25))
  have HV := Lib.hid (Whole.made w4 25 #[.int .i64 ku, .int .i64 mu, .int .i64 su, .string xu])
  have HY5 := Lib.hid ((HY4.out.below hb).below ((Below.refl _ _).alloc (Nat.le_refl _) (.cells #[.int .i64 ku, .int .i64 mu, .int .i64 su, .string xu] 25)))
  clear hb q1 l1
  go_wp2_with fail
  refine (next_cat N3.out (v := .agg #[.int .i64 0, .int .i64 0, .int .i64 0, .string ⟨#[]⟩]) (by rfl) _ _ _ _ HY5.out HT5.out.2.2.2.1 (by omega)).mono ?_
  rintro e w5 ⟨rfl, hb⟩
  have HT6 := Lib.hid ((HT5.out.next hb).old (.cells #[.int .i64 0, .int .i64 0, .int .i64 0, .string ⟨#[]⟩] 25))
  have HX6 := Lib.hid ((HX5.out.here hb).old (.cells #[.int .i64 0, .int .i64 0, .int .i64 0, .string ⟨#[]⟩] 25))
  have HV6 := Lib.hid ((HV.out.here hb).old (.cells #[.int .i64 0, .int .i64 0, .int .i64 0, .string ⟨#[]⟩] 25))
  have HZ := Lib.hid (Whole.made w5 25 #[.int .i64 0, .int .i64 0, .int .i64 0, .string ⟨#[]⟩])
  have q2 := (HT5.out.next hb).2.1.reads
  have l2 := (HT5.out.next hb).2.1.lt
  clear hb
  go_wp2_with fail
  refine (awake_any _ HT6.out.2.2.2).mono ?_
  rintro e w6 ⟨rfl, hb⟩
  have HT7 := Lib.hid (HT6.out.next hb)
  have q1 := HT7.out.1.reads
  have l1 := HT7.out.1.lt
  have q3 := HT7.out.2.1.reads
  have l3 := HT7.out.2.1.lt
  have qx := (HX6.out.here hb).reads
  have lx := (HX6.out.here hb).lt
  have qv := (HV6.out.here hb).reads
  have lv := (HV6.out.here hb).lt
  have qz := (HZ.out.here hb).reads
  have lz := (HZ.out.here hb).lt
  clear hb q2 l2
  go_wp2_with fail
  go_ret
  exact ⟨rfl, HT7.out.2.2.1⟩
set_option maxRecDepth 100000 in
set_option maxHeartbeats 16000000 in
theorem back_c (kt mt st ku mu su : Int) (xt xu : ByteArray) (w : World) (hl : xt.size + xu.size ≤ 500) (r1 r2 : ByteArray) (hr1 : r1.size ≤ 10000) (hr2 : r2.size ≤ 10000) (hE : Env w)
    (hp1 : ∀ w, Env w → Calls Tryd.prog 6 #[.agg #[.int .i64 kt, .int .i64 mt, .int .i64 st, .string xt]] w fun e' w' => e' = .returned (.tuple #[.string r1, .int .i64 0]) ∧ Below w.heap.size w w')
    (hp2 : ∀ w, Env w → Calls Tryd.prog 6 #[.agg #[.int .i64 ku, .int .i64 mu, .int .i64 su, .string xu]] w fun e' w' => e' = .returned (.tuple #[.string r2, .int .i64 0]) ∧ Below w.heap.size w w')
    (hk : ¬ kt = 0) (hk2 : ¬ ku = 0) (p z9 : Int) (hn1 : nextI (backL (natsOf r1) (natsOf r2)) 0 = (0, ⟨kt, mt, st, natsOf xt⟩, p)) (hn2 : nextI (backL (natsOf r1) (natsOf r2)) p = (0, ⟨ku, mu, su, natsOf xu⟩, z9)) (hn3 : nextI (backL (natsOf r1) (natsOf r2)) z9 = (0, noTok, ((4 + r1.size + 5 + r2.size + 1 : Nat) : Int))) :
    Calls Tryd.prog 3 #[.agg #[.int .i64 kt, .int .i64 mt, .int .i64 st, .string xt], .agg #[.int .i64 ku, .int .i64 mu, .int .i64 su, .string xu]] w (True_ w) := by
  have d1 : decide ((500 : Int) < (xt.size : Int) + (xu.size : Int)) = false := decide_eq_false (by omega)
  have e1 : IntKind.i64.wrap ((xt.size : Int) + (xu.size : Int)) = (xt.size : Int) + (xu.size : Int) := by rw [IntKind.wrap_i64]; omega
  have k1 : (kt == 0) = false := by simpa using hk
  have HT := Lib.hid (show Two w.heap.size #[.int .i64 kt, .int .i64 mt, .int .i64 st, .string xt] #[.int .i64 ku, .int .i64 mu, .int .i64 su, .string xu] w ((w.alloc (.cells #[.int .i64 kt, .int .i64 mt, .int .i64 st, .string xt] 25)).alloc (.cells #[.int .i64 ku, .int .i64 mu, .int .i64 su, .string xu] 25)) from by
    have hb := ((Below.refl w.heap.size w).alloc (Nat.le_refl _) (.cells #[.int .i64 kt, .int .i64 mt, .int .i64 st, .string xt] 25)).alloc (by simp) (.cells #[.int .i64 ku, .int .i64 mu, .int .i64 su, .string xu] 25)
    have h2 := Whole.made (w.alloc (.cells #[.int .i64 kt, .int .i64 mt, .int .i64 st, .string xt] 25)) 25 #[.int .i64 ku, .int .i64 mu, .int .i64 su, .string xu]
    simp only [World.size_alloc] at h2
    exact ⟨(Whole.made w _ _).old _, h2, hb, hE.below hb⟩)
  have HP1 := Lib.hid hp1
  have HP2 := Lib.hid hp2
  have kc := fun (w : World) (s : ByteArray) => Lib.run_convert_string_bytes (P := Tryd.prog) w 9 30 5 s Tryd.underlying9 Tryd.underlying30 Tryd.underlying5
  clear hp1 hp2 hE hl hk
  have k2 : (ku == 0) = false := by simpa using hk2
  have N1 := Lib.hid hn1
  have N2 := Lib.hid hn2
  have N3 := Lib.hid hn3
  clear hn1 hn2 hn3 hk2
  go_enter Tryd.func3, Tryd.ntmps3
  go_wp2_with fail
  refine (HP1.out _ HT.out.2.2.2).mono ?_
  rintro e w1 ⟨rfl, hb⟩
  have HT1 := Lib.hid (HT.out.next hb)
  have q2 := HT1.out.2.1.reads
  have l2 := HT1.out.2.1.lt
  clear hb
  go_wp2_with fail
  refine (HP2.out _ HT1.out.2.2.2).mono ?_
  rintro e w2 ⟨rfl, hb⟩
  have HT2 := Lib.hid (HT1.out.next hb)
  clear hb q2 l2
  have hby := bytes_conv w2 (catB r1 r2) (by rw [cat_size]; omega)
  rw [cat_nats, cat_size2] at hby
  have HY := Lib.hid hby
  have HT3 := Lib.hid (HT2.out.next (Joins.below_bytesWorld w2.heap.size w2 5 (catB r1 r2) (Nat.le_refl _)))
  clear hby
  go_wp2_with fail
  refine (next_cat N1.out (tok_val kt mt st xt) _ _ _ _ HY.out HT3.out.2.2.2.1 (by omega)).mono ?_
  rintro e w3 ⟨rfl, hb⟩
  have HT4 := Lib.hid ((HT3.out.next hb).old (.cells #[.int .i64 kt, .int .i64 mt, .int .i64 st, .string xt] 25))
  have HX := Lib.hid (Whole.made w3 25 #[.int .i64 kt, .int .i64 mt, .int .i64 st, .string xt])
  have HY4 := Lib.hid ((HY.out.below hb).below ((Below.refl _ _).alloc (Nat.le_refl _) (.cells #[.int .i64 kt, .int .i64 mt, .int .i64 st, .string xt] 25)))
  have q1 := (HT3.out.next hb).1.reads
  have l1 := (HT3.out.next hb).1.lt
  clear hb
  go_wp2_with fail
  refine (next_cat N2.out (tok_val ku mu su xu) _ _ _ _ HY4.out HT4.out.2.2.2.1 (by omega)).mono ?_
  rintro e w4 ⟨rfl, hb⟩
  have HT5 := Lib.hid ((HT4.out.next hb).old (.cells #[.int .i64 ku, .int .i64 mu, .int .i64 su, .string xu] 25))
  have HX5 := Lib.hid ((HX.out.here hb).old (.cells #[.int .i64 ku, .int .i64 mu, .int .i64 su, .string xu] 25))
  have HV := Lib.hid (Whole.made w4 25 #[.int .i64 ku, .int .i64 mu, .int .i64 su, .string xu])
  have HY5 := Lib.hid ((HY4.out.below hb).below ((Below.refl _ _).alloc (Nat.le_refl _) (.cells #[.int .i64 ku, .int .i64 mu, .int .i64 su, .string xu] 25)))
  clear hb q1 l1
  go_wp2_with fail
  refine (next_cat N3.out (v := .agg #[.int .i64 0, .int .i64 0, .int .i64 0, .string ⟨#[]⟩]) (by rfl) _ _ _ _ HY5.out HT5.out.2.2.2.1 (by omega)).mono ?_
  rintro e w5 ⟨rfl, hb⟩
  have HT6 := Lib.hid ((HT5.out.next hb).old (.cells #[.int .i64 0, .int .i64 0, .int .i64 0, .string ⟨#[]⟩] 25))
  have HX6 := Lib.hid ((HX5.out.here hb).old (.cells #[.int .i64 0, .int .i64 0, .int .i64 0, .string ⟨#[]⟩] 25))
  have HV6 := Lib.hid ((HV.out.here hb).old (.cells #[.int .i64 0, .int .i64 0, .int .i64 0, .string ⟨#[]⟩] 25))
  have HZ := Lib.hid (Whole.made w5 25 #[.int .i64 0, .int .i64 0, .int .i64 0, .string ⟨#[]⟩])
  have q2 := (HT5.out.next hb).2.1.reads
  have l2 := (HT5.out.next hb).2.1.lt
  clear hb
  go_wp2_with fail
  refine (awake_any _ HT6.out.2.2.2).mono ?_
  rintro e w6 ⟨rfl, hb⟩
  have HT7 := Lib.hid (HT6.out.next hb)
  have q1 := HT7.out.1.reads
  have l1 := HT7.out.1.lt
  have q3 := HT7.out.2.1.reads
  have l3 := HT7.out.2.1.lt
  have qx := (HX6.out.here hb).reads
  have lx := (HX6.out.here hb).lt
  have qv := (HV6.out.here hb).reads
  have lv := (HV6.out.here hb).lt
  have qz := (HZ.out.here hb).reads
  have lz := (HZ.out.here hb).lt
  clear hb q2 l2
  go_wp2_with fail
  go_ret
  exact ⟨rfl, HT7.out.2.2.1⟩
end Go.Proofs.YtdiaijdobglaaaaDoor
