/- raster: RasterAll. Written by gen_all.py. -/
import Derived.Test.YtmleoagdelgddaaRasMc
import Derived.Test.YtmleoagdelgddaaRasMb
namespace Go.Proofs.Ytmleoagdelgddaa
open Go.RowKit Dec

theorem num_any (k : Int) (w : World) : Calls Try.prog 25 #[.int .i64 k] w fun e w' => e = .returned (.agg #[.int .i64 k, .int .i64 0]) ∧ Below w.heap.size w w' := by
  have HB := Lib.hid ((Below.refl w.heap.size w).alloc (Nat.le_refl _) (.cells #[.int .i64 k, .int .i64 0] 40))
  have HD := Lib.hid (Whole.made w 40 #[.int .i64 k, .int .i64 0])
  go_enter Try.func25, Try.ntmps25
  go_wp2_with fail
  refine ret_dec (r := ⟨k, 0⟩) (g := w.heap.size) HD.out (fun V hV => by have rv := hV.reads; simp [results, Try.results25, go_sem, rv]) rfl ?_
  exact ⟨rfl, HB.out⟩
theorem one_bx' (w : World) (k : Nat) (hk : w.heap.size = k) (p q r s : Int) : BxsAt (w.alloc (.cells #[.int .i64 p, .int .i64 0, .int .i64 q, .int .i64 0, .int .i64 r, .int .i64 0, .int .i64 s, .int .i64 0] 52)) (some ⟨k, 0, none⟩) 1 1 [⟨wh p, wh q, wh r, wh s⟩] :=
  hk ▸ one_bx (b := ⟨wh p, wh q, wh r, wh s⟩) (Whole.made w 52 _)
theorem cov_lit (a d x p q r s : Int) (X Z : Nat) (A : Option Addr) (c : Nat) (w : World) (h : BxsAt w A 1 c [⟨wh p, wh q, wh r, wh s⟩]) :
    Calls Try.prog 22 #[.agg #[.int .i64 a, .int .i64 0, .int .i64 0, .int .i64 0, .int .i64 0, .int .i64 0, .int .i64 d, .int .i64 0, .int .i64 x, .int .i64 0, .int .i64 x, .int .i64 0], .int .i64 (X : Int), .int .i64 (Z : Int), .slice A 1 c] w
      fun e w' => ∃ A' n' c', e = .returned (.tuple #[.slice A' n' c', .int .i64 (covE ⟨wh a, wh 0, wh 0, wh d, wh x, wh x⟩ (X : Int) (Z : Int) [⟨wh p, wh q, wh r, wh s⟩])]) ∧ AnsC ⟨wh a, wh 0, wh 0, wh d, wh x, wh x⟩ (X : Int) (Z : Int) [⟨wh p, wh q, wh r, wh s⟩] w' A' n' c' ∧ Below w.heap.size w w' :=
  covered_ans ⟨wh a, wh 0, wh 0, wh d, wh x, wh x⟩ (X : Int) (Z : Int) A 1 c _ w h (by omega)
/-- All of a row's Bools are r. -/
theorem ans_all {m : MV} {X Z : Nat} {l : List BV} {w : World} {A : Option Addr} {n c : Nat} {r : Bool} (h : AnsC m (X : Int) (Z : Int) l w A n c) (h0 : covE m (X : Int) (Z : Int) l = 0) (hc : ∀ j, j < X * Z → cov (pF m X Z) ((Z + 1) * (X + 1)) X Z (l.map (bm · ((X * Z : Nat) : Int))) j = r) :
    ∃ B, A = some ⟨B, 0, none⟩ ∧ n = X * Z ∧ c = X * Z ∧ B < w.heap.size ∧ ∀ v, Below w.heap.size w v → ∀ j < X * Z, v.cell? ⟨B, j, none⟩ = some (.bool r) := by
  obtain ⟨-, X', Z', B, eX, eZ, -, -, -, rfl, rfl, rfl, hw⟩ := h.resolve_left (fun k => k.1 h0)
  obtain rfl : X' = X := by omega
  obtain rfl : Z' = Z := by omega
  refine ⟨B, rfl, rfl, rfl, hw.lt, fun v hv j hj => ?_⟩
  rw [rowBl_full (hw.here hv) hj, hc j hj]
set_option maxRecDepth 100000 in
set_option maxHeartbeats 8000000 in
theorem all_law (W H a d x : Int) (w : World) :
    Calls Try.prog 8 #[.int .i64 W, .int .i64 H, .int .i64 a, .int .i64 d, .int .i64 x] w fun e w' => e = .returned (.bool true) ∧ Below w.heap.size w w' := by
  by_cases c0 : W < 1
  · have e0 : decide (W < 1) = true := decide_eq_true c0
    clear c0
    go_enter Try.func8, Try.ntmps8
    go_wp2_with fail
    go_ret
    exact ⟨rfl, Below.refl _ _⟩
  have e0 : decide (W < 1) = false := decide_eq_false c0
  by_cases c1 : (20 : Int) < W
  · have e1 : decide ((20 : Int) < W) = true := decide_eq_true c1
    clear c1
    go_enter Try.func8, Try.ntmps8
    go_wp2_with fail
    go_ret
    exact ⟨rfl, Below.refl _ _⟩
  have e1 : decide ((20 : Int) < W) = false := decide_eq_false c1
  by_cases c2 : H < 1
  · have e2 : decide (H < 1) = true := decide_eq_true c2
    clear c2
    go_enter Try.func8, Try.ntmps8
    go_wp2_with fail
    go_ret
    exact ⟨rfl, Below.refl _ _⟩
  have e2 : decide (H < 1) = false := decide_eq_false c2
  by_cases c3 : (20 : Int) < H
  · have e3 : decide ((20 : Int) < H) = true := decide_eq_true c3
    clear c3
    go_enter Try.func8, Try.ntmps8
    go_wp2_with fail
    go_ret
    exact ⟨rfl, Below.refl _ _⟩
  have e3 : decide ((20 : Int) < H) = false := decide_eq_false c3
  by_cases c4 : a < 1
  · have e4 : decide (a < 1) = true := decide_eq_true c4
    clear c4
    go_enter Try.func8, Try.ntmps8
    go_wp2_with fail
    go_ret
    exact ⟨rfl, Below.refl _ _⟩
  have e4 : decide (a < 1) = false := decide_eq_false c4
  by_cases c5 : (1000 : Int) < a
  · have e5 : decide ((1000 : Int) < a) = true := decide_eq_true c5
    clear c5
    go_enter Try.func8, Try.ntmps8
    go_wp2_with fail
    go_ret
    exact ⟨rfl, Below.refl _ _⟩
  have e5 : decide ((1000 : Int) < a) = false := decide_eq_false c5
  by_cases c6 : d < 1
  · have e6 : decide (d < 1) = true := decide_eq_true c6
    clear c6
    go_enter Try.func8, Try.ntmps8
    go_wp2_with fail
    go_ret
    exact ⟨rfl, Below.refl _ _⟩
  have e6 : decide (d < 1) = false := decide_eq_false c6
  by_cases c7 : (1000 : Int) < d
  · have e7 : decide ((1000 : Int) < d) = true := decide_eq_true c7
    clear c7
    go_enter Try.func8, Try.ntmps8
    go_wp2_with fail
    go_ret
    exact ⟨rfl, Below.refl _ _⟩
  have e7 : decide ((1000 : Int) < d) = false := decide_eq_false c7
  by_cases c8 : x < -1000
  · have e8 : decide (x < -1000) = true := decide_eq_true c8
    clear c8
    go_enter Try.func8, Try.ntmps8
    go_wp2_with fail
    go_ret
    exact ⟨rfl, Below.refl _ _⟩
  have e8 : decide (x < -1000) = false := decide_eq_false c8
  by_cases c9 : (1000 : Int) < x
  · have e9 : decide ((1000 : Int) < x) = true := decide_eq_true c9
    clear c9
    go_enter Try.func8, Try.ntmps8
    go_wp2_with fail
    go_ret
    exact ⟨rfl, Below.refl _ _⟩
  have e9 : decide ((1000 : Int) < x) = false := decide_eq_false c9
  obtain ⟨X, rfl⟩ : ∃ X : Nat, W = (X : Int) := ⟨W.toNat, by omega⟩
  obtain ⟨Z, rfl⟩ : ∃ Z : Nat, H = (Z : Int) := ⟨H.toNat, by omega⟩
  have HSm : Hid (Small ⟨wh a, wh 0, wh 0, wh d, wh x, wh x⟩ a 0 0 d x x) := Lib.hid ⟨rfl, by omega, by omega, by omega, by omega, by omega, by omega⟩
  have HCE := Lib.hid (all_covE HSm.out (X := X) (Z := Z) (by omega) (by omega) (by omega) (by omega) (by omega) (by omega))
  have HCA := Lib.hid (fun j hj => all_cov (j := j) HSm.out (X := X) (Z := Z) (by omega) (by omega) (by omega) (by omega) (by omega) (by omega) hj)
  have HCN := Lib.hid (fun j => none_cov (j := j) HSm.out (X := X) (Z := Z) (by omega) (by omega) (by omega) (by omega) (by omega) (by omega))
  have HXZ : Hid (1 ≤ X ∧ 1 ≤ Z ∧ X ≤ 20 ∧ Z ≤ 20) := Lib.hid (by omega)
  have w1 : IntKind.i64.wrap (x + a) = x + a := by rw [IntKind.wrap_i64]; omega
  have w2 : IntKind.i64.wrap (x + d) = x + d := by rw [IntKind.wrap_i64]; omega
  have w3 : IntKind.i64.wrap (x + a + 1) = x + a + 1 := by rw [IntKind.wrap_i64]; omega
  have w4 : IntKind.i64.wrap (x + a + 2) = x + a + 2 := by rw [IntKind.wrap_i64]; omega
  clear c0 c1 c2 c3 c4 c5 c6 c7 c8 c9
  go_enter Try.func8, Try.ntmps8
  go_wp2_with fail
  refine (num_any _ _).mono ?_
  rintro e v1 ⟨rfl, hb⟩
  have HB1 := Lib.hid hb
  clear hb
  go_wp2_with fail
  refine (num_any _ _).mono ?_
  rintro e v2 ⟨rfl, hb⟩
  have HB2 := Lib.hid (HB1.out.trans (hb.mono HB1.out.size))
  clear hb
  clear HB1
  go_wp2_with fail
  refine (num_any _ _).mono ?_
  rintro e v3 ⟨rfl, hb⟩
  have HB3 := Lib.hid (HB2.out.trans (hb.mono HB2.out.size))
  clear hb
  clear HB2
  go_wp2_with fail
  refine (num_any _ _).mono ?_
  rintro e v4 ⟨rfl, hb⟩
  have HB4 := Lib.hid (HB3.out.trans (hb.mono HB3.out.size))
  clear hb
  clear HB3
  go_wp2_with fail
  refine (num_any _ _).mono ?_
  rintro e v5 ⟨rfl, hb⟩
  have HB5 := Lib.hid ((HB4.out.alloc HB4.out.size (.cells #[.int .i64 a, .int .i64 0, .int .i64 0, .int .i64 0, .int .i64 0, .int .i64 0, .int .i64 d, .int .i64 0, .int .i64 x, .int .i64 0, .int .i64 x, .int .i64 0] 42)).trans (hb.mono (by have := HB4.out.size; simp; omega)))
  have K4_5 := Lib.hid ((Whole.made v4 42 #[.int .i64 a, .int .i64 0, .int .i64 0, .int .i64 0, .int .i64 0, .int .i64 0, .int .i64 d, .int .i64 0, .int .i64 x, .int .i64 0, .int .i64 x, .int .i64 0]).here hb)
  clear hb
  clear HB4
  go_wp2_with fail
  refine (num_any _ _).mono ?_
  rintro e v6 ⟨rfl, hb⟩
  have HB6 := Lib.hid (HB5.out.trans (hb.mono HB5.out.size))
  have K4_6 := Lib.hid (K4_5.out.here hb)
  clear hb
  clear HB5
  clear K4_5
  go_wp2_with fail
  refine (num_any _ _).mono ?_
  rintro e v7 ⟨rfl, hb⟩
  have HB7 := Lib.hid (HB6.out.trans (hb.mono HB6.out.size))
  have K4_7 := Lib.hid (K4_6.out.here hb)
  clear hb
  clear HB6
  clear K4_6
  go_wp2_with fail
  refine (num_any _ _).mono ?_
  rintro e v8 ⟨rfl, hb⟩
  have HB8 := Lib.hid (HB7.out.trans (hb.mono HB7.out.size))
  have K4_8 := Lib.hid (K4_7.out.here hb)
  clear hb
  clear HB7
  clear K4_7
  go_wp2_with fail
  refine (num_any _ _).mono ?_
  rintro e v9 ⟨rfl, hb⟩
  have HB9 := Lib.hid ((HB8.out.alloc HB8.out.size (.cells #[.int .i64 (x), .int .i64 0, .int .i64 (x), .int .i64 0, .int .i64 (x + a), .int .i64 0, .int .i64 (x + d), .int .i64 0] 52)).trans (hb.mono (by have := HB8.out.size; simp; omega)))
  have K4_9 := Lib.hid ((K4_8.out.old (.cells #[.int .i64 (x), .int .i64 0, .int .i64 (x), .int .i64 0, .int .i64 (x + a), .int .i64 0, .int .i64 (x + d), .int .i64 0] 52)).here hb)
  have K8_9 := Lib.hid ((Whole.made v8 52 #[.int .i64 (x), .int .i64 0, .int .i64 (x), .int .i64 0, .int .i64 (x + a), .int .i64 0, .int .i64 (x + d), .int .i64 0]).here hb)
  clear hb
  clear HB8
  clear K4_8
  go_wp2_with fail
  refine (num_any _ _).mono ?_
  rintro e v10 ⟨rfl, hb⟩
  have HB10 := Lib.hid (HB9.out.trans (hb.mono HB9.out.size))
  have K4_10 := Lib.hid (K4_9.out.here hb)
  have K8_10 := Lib.hid (K8_9.out.here hb)
  clear hb
  clear HB9
  clear K4_9
  clear K8_9
  go_wp2_with fail
  refine (num_any _ _).mono ?_
  rintro e v11 ⟨rfl, hb⟩
  have HB11 := Lib.hid (HB10.out.trans (hb.mono HB10.out.size))
  have K4_11 := Lib.hid (K4_10.out.here hb)
  have K8_11 := Lib.hid (K8_10.out.here hb)
  clear hb
  clear HB10
  clear K4_10
  clear K8_10
  go_wp2_with fail
  refine (num_any _ _).mono ?_
  rintro e v12 ⟨rfl, hb⟩
  have HB12 := Lib.hid (HB11.out.trans (hb.mono HB11.out.size))
  have K4_12 := Lib.hid (K4_11.out.here hb)
  have K8_12 := Lib.hid (K8_11.out.here hb)
  clear hb
  clear HB11
  clear K4_11
  clear K8_11
  have cm := (K4_12.out.old (.cells #[.int .i64 (x + a + 1), .int .i64 0, .int .i64 (x), .int .i64 0, .int .i64 (x + a + 2), .int .i64 0, .int .i64 (x + d), .int .i64 0] 52)).reads
  have lm := (K4_12.out.old (.cells #[.int .i64 (x + a + 1), .int .i64 0, .int .i64 (x), .int .i64 0, .int .i64 (x + a + 2), .int .i64 0, .int .i64 (x + d), .int .i64 0] 52)).lt
  have cb := (K8_12.out.old (.cells #[.int .i64 (x + a + 1), .int .i64 0, .int .i64 (x), .int .i64 0, .int .i64 (x + a + 2), .int .i64 0, .int .i64 (x + d), .int .i64 0] 52)).reads
  have lb := (K8_12.out.old (.cells #[.int .i64 (x + a + 1), .int .i64 0, .int .i64 (x), .int .i64 0, .int .i64 (x + a + 2), .int .i64 0, .int .i64 (x + d), .int .i64 0] 52)).lt
  go_wp2_with fail
  refine (cov_lit a d x x x (x + a) (x + d) X Z _ _ _ (one_bx' _ _ (by simp) _ _ _ _)).mono ?_
  rw [HCE.out.1]
  rintro e w5 ⟨Aa, na, ca, rfl, hans, hb⟩
  obtain ⟨Ba, rfl, rfl, rfl, lA, hA⟩ := ans_all hans HCE.out.1 HCA.out
  have hbx : Below v12.heap.size v12 w5 := ((((Below.refl _ _).alloc (Nat.le_refl _) (.cells #[.int .i64 (x + a + 1), .int .i64 0, .int .i64 (x), .int .i64 0, .int .i64 (x + a + 2), .int .i64 0, .int .i64 (x + d), .int .i64 0] 52)).alloc (by simp) (.cells #[.int .i64 (x), .int .i64 0, .int .i64 (x), .int .i64 0, .int .i64 (x + a), .int .i64 0, .int .i64 (x + d), .int .i64 0] 52)).trans (hb.mono (by simp; omega)))
  have HB5 := Lib.hid (HB12.out.trans (hbx.mono HB12.out.size))
  have hm5 := K4_12.out.here hbx
  have hb5 := (((Whole.made v12 52 #[.int .i64 (x + a + 1), .int .i64 0, .int .i64 (x), .int .i64 0, .int .i64 (x + a + 2), .int .i64 0, .int .i64 (x + d), .int .i64 0]).old (.cells #[.int .i64 (x), .int .i64 0, .int .i64 (x), .int .i64 0, .int .i64 (x + a), .int .i64 0, .int .i64 (x + d), .int .i64 0] 52)).here hb)
  have cm := hm5.reads
  have lm := hm5.lt
  have cb := hb5.reads
  have lb := hb5.lt
  have HA := Lib.hid hA
  clear hans hb hbx hm5 hb5 hA
  go_wp2_with fail
  refine (cov_lit a d x (x + a + 1) x (x + a + 2) (x + d) X Z _ _ _ (one_bx' _ _ (by simp) _ _ _ _)).mono ?_
  rw [HCE.out.2]
  rintro e w6 ⟨Ac, nc, cc, rfl, hans, hb⟩
  obtain ⟨Bc, rfl, rfl, rfl, lC, hC⟩ := ans_all hans HCE.out.2 (fun j _ => HCN.out j)
  have hbx : Below w5.heap.size w5 w6 := ((Below.refl _ _).alloc (Nat.le_refl _) (.cells #[.int .i64 (x + a + 1), .int .i64 0, .int .i64 (x), .int .i64 0, .int .i64 (x + a + 2), .int .i64 0, .int .i64 (x + d), .int .i64 0] 52)).trans (hb.mono (by simp))
  have HB6 := Lib.hid (HB5.out.trans (hbx.mono HB5.out.size))
  have HQ : Hid (∀ v, Below w6.heap.size w6 v → ∀ j < X * Z, v.cell? ⟨Ba, j, none⟩ = some (.bool true) ∧ v.cell? ⟨Bc, j, none⟩ = some (.bool false)) := Lib.hid (fun v hv j hj => ⟨HA.out v (hbx.trans (hv.mono hbx.size)) j hj, hC v hv j hj⟩)
  have lA6 := Nat.lt_of_lt_of_le lA hbx.size
  clear hans hb hbx hC HA cm cb lm lb lA
  obtain ⟨N, hN⟩ : ∃ N, X * Z = N := ⟨_, rfl⟩
  have hN9 : N ≤ 400 := by rw [← hN]; exact Nat.mul_le_mul HXZ.out.2.2.1 HXZ.out.2.2.2
  have hmul : IntKind.i64.wrap ((X : Int) * (Z : Int)) = (N : Int) := by rw [← Int.natCast_mul, hN, IntKind.wrap_i64]; omega
  rw [hN] at HQ
  rw [hN]
  clear hN HCE HCA HCN HSm HXZ
  go_wp2_with fail
  go_loopw [19] (fun i wr => ∃ k : Nat, i = .int .i64 (k : Int) ∧ k ≤ N ∧ Hid (Below w6.heap.size w6 wr)) (fun i _ => N - (intOf i).toNat)
  case atStart => exact ⟨0, rfl, by omega, Lib.hid (Below.refl _ _)⟩
  case round =>
    obtain ⟨k, rfl, hk, HR⟩ := hrel
    have sR := HR.out.size
    by_cases hlt : k < N
    · have d2 : decide ((k : Int) < (N : Int)) = true := decide_eq_true (by omega)
      obtain ⟨c0, c2⟩ := HQ.out wr HR.out k hlt
      have b0 : (0 : Int) ≤ (k : Int) := by omega
      have b1 : (k : Int) < (N : Int) := by omega
      go_wp2_with fail
      go_roundw
      case rel => exact ⟨k + 1, by go_num, by omega, HR⟩
      case measure => simp [intOf]; omega
    · obtain rfl : k = N := by omega
      have d2 : decide ((k : Int) < (k : Int)) = false := by simp
      go_wp2_with fail
      refine (awake_any _).mono ?_
      rintro e w7 ⟨rfl, hb⟩
      have HB7 := Lib.hid (HB6.out.trans ((HR.out.trans (hb.mono HR.out.size)).mono HB6.out.size))
      clear hb
      go_wp2_with fail
      go_ret
      exact ⟨rfl, HB7.out⟩
end Go.Proofs.Ytmleoagdelgddaa
