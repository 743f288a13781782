/- Ops, marks, fonts: are they few? -/
import Derived.Test.YtdlmhienolmncaaObjS
import Derived.Test.YtdlmhienolmncaaCutB
import Derived.Deep.QuietTactic
namespace Go.Proofs.Ytdlmhienolmncaa
open Go.RowKit Dec

theorem OpsAt.get {w : World} {A : Option Addr} {n c : Nat} {l : List OpT} (h : OpsAt w A n c l) {i : Nat} (hi : i < n) : ∃ (R o : Nat) (x : OpT) (A2 : Option Addr) (n2 c2 : Nat), A = some ⟨R, o, none⟩ ∧ R < w.heap.size ∧ l[i]? = some x ∧ x.name.size ≤ 9223372036854775807 ∧ ObjsAt w A2 n2 c2 x.args ∧ w.cell? ⟨R, o + i * 2, none⟩ = some (.string x.name) ∧ w.cell? ⟨R, o + i * 2 + 1, none⟩ = some (.slice A2 n2 c2) := by
  obtain ⟨x, hx⟩ : ∃ x, l[i]? = some x := ⟨_, List.getElem?_eq_getElem (by rw [RowOf.len h]; exact hi)⟩
  obtain ⟨R, o, cs, e, hR, ⟨A2, n2, c2, rfl, hs, ha⟩, hc⟩ := RowOf.get h hx
  exact ⟨R, o, x, A2, n2, c2, e, hR, hx, hs, ha, hc 0 _ rfl, hc 1 _ rfl⟩
theorem ObjsAt.get {w : World} {A : Option Addr} {n c : Nat} {l : List OV} (h : ObjsAt w A n c l) {i : Nat} (hi : i < n) : ∃ (R o : Nat) (x : OV) (cs : List Value), A = some ⟨R, o, none⟩ ∧ R < w.heap.size ∧ l[i]? = some x ∧ ObjIs w x cs ∧ ∀ (j : Nat) (u : Value), cs[j]? = some u → w.cell? ⟨R, o + i * 8 + j, none⟩ = some u := by
  obtain ⟨x, hx⟩ : ∃ x, l[i]? = some x := ⟨_, List.getElem?_eq_getElem (by rw [RowOf.len h]; exact hi)⟩
  obtain ⟨R, o, cs, e, hR, hx2, hc⟩ := RowOf.get h hx
  exact ⟨R, o, x, cs, e, hR, hx, hx2, hc⟩
set_option maxRecDepth 100000 in
set_option maxHeartbeats 4000000 in
theorem few20_any (A : Option Addr) (n c : Nat) (l : List OpT) (w : World) (h : OpsAt w A n c l) : Calls Try.prog 39 #[.slice A n c] w (SomeBool w) := by
  obtain ⟨hcap, htop⟩ := RowOf.cap h
  have H := Lib.hid h
  clear h
  go_enter Try.func39, Try.ntmps39
  go_wp2_with fail
  by_cases h60 : 60 < n
  · have d0 : decide ((n : Int) ≤ 60) = false := decide_eq_false (by omega)
    have d1 : decide ((0 : Int) < (n : Int)) = true := decide_eq_true (by omega)
    refine wp_loop_rounds 1 ?_
    rw [rounds_succ]
    go_wp2_with fail
    go_ret
    exact ⟨_, rfl, Below.refl _ _⟩
  have h60' : n ≤ 60 := by omega
  have d60 : decide ((n : Int) ≤ 60) = true := decide_eq_true (by omega)
  go_loopw [3, 4] (fun s3 s4 wr => ∃ (i : Nat) (X : Int), i ≤ n ∧ s4 = .int .i64 (i : Int) ∧ s3 = .int .i64 X ∧ Hid (Below w.heap.size w wr)) (fun _ s4 _ => n - (intOf s4).toNat)
  case atStart => exact ⟨0, _, by omega, rfl, rfl, Lib.hid (Below.refl _ _)⟩
  case round =>
    obtain ⟨i, X, hi, rfl, rfl, HB⟩ := hrel
    by_cases hlt : i < n
    · have d1 : decide ((i : Int) < (n : Int)) = true := decide_eq_true (by omega)
      obtain ⟨R, o, x, A2, n2, c2, rfl, hR, hx, hs, ha, g0, g1⟩ := (H.out.below HB.out).get hlt
      obtain ⟨hcap2, htop2⟩ := RowOf.cap ha
      have b2 : (0 : Int) ≤ (i : Int) := by omega
      have b3 : (i : Int) < (n : Int) := by omega
      have HA := Lib.hid ha
      clear ha hx
      go_wp2_with fail
      go_quiet (fail)
      all_goals
        go_wp2_with fail
        obtain ⟨Y, hY⟩ : ∃ Y, wrap64 (wrap64 (X + (n2 : Int)) + (x.name.size : Int)) = Y := ⟨_, rfl⟩
        simp only [hY]
        clear hY
        obtain ⟨wq, hwq⟩ : ∃ wq, wr.drewN nq = wq := ⟨_, rfl⟩
        have HQ := Lib.hid (show Below w.heap.size w wq by rw [← hwq]; exact below_drewN HB.out _)
        have hRq : R < wq.heap.size := by rw [← hwq]; exact hR
        have g0 : wq.cell? ⟨R, o + i * 2, none⟩ = some (.string x.name) := by rw [← hwq]; exact g0
        have g1 : wq.cell? ⟨R, o + i * 2 + 1, none⟩ = some (.slice A2 n2 c2) := by rw [← hwq]; exact g1
        have HAQ := Lib.hid (show ObjsAt wq A2 n2 c2 x.args by rw [← hwq]; exact HA.out.below (below_drewN (Below.refl _ _) _))
        rw [hwq]
        clear hwq
        by_cases hY : Y ≤ 1000
        · have d2 : decide (Y ≤ 1000) = true := decide_eq_true hY
          go_loopw [5] (fun s5 ws => ∃ (j : Nat), j ≤ n2 ∧ s5 = .int .i64 (j : Int) ∧ Hid (Below wq.heap.size wq ws)) (fun s5 _ => n2 - (intOf s5).toNat)
          case atStart => exact ⟨0, by omega, rfl, Lib.hid (Below.refl _ _)⟩
          case round =>
            obtain ⟨j, hj, rfl, HB2⟩ := hrel
            have HBX := Lib.hid (HQ.out.trans (HB2.out.mono HQ.out.size))
            have e1 := (HB2.out.cell (p := ⟨R, o + i * 2 + 1, none⟩) hRq).trans g1
            by_cases hlt2 : j < n2
            · have d3 : decide ((j : Int) < (n2 : Int)) = true := decide_eq_true (by omega)
              obtain ⟨R2, o2, y, cs, rfl, hR2, hy, ho, hc⟩ := (HAQ.out.below HB2.out).get hlt2
              have b4 : (0 : Int) ≤ (j : Int) := by omega
              have b5 : (j : Int) < (n2 : Int) := by omega
              have HF := Lib.hid (few15_any y cs wr ho)
              obtain ⟨k1, b1, m1, s1, t1, A1, n1, c1, A3, n3, c3, r1, keys1, rfl, -⟩ := ho.nine
              have q0 := hc 0 _ rfl
              have q1 := hc 1 _ rfl
              have q2 := hc 2 _ rfl
              have q3 := hc 3 _ rfl
              have q4 := hc 4 _ rfl
              have q5 := hc 5 _ rfl
              have q6 := hc 6 _ rfl
              have q7 := hc 7 _ rfl
              rw [Nat.add_zero] at q0
              clear hc ho g0 g1
              go_wp2_with fail
              refine HF.out.mono ?_
              rintro e w2 ⟨r, rfl, hb⟩
              have HB3 := Lib.hid (HB2.out.trans (hb.mono HB2.out.size))
              clear hb q0 q1 q2 q3 q4 q5 q6 q7 e1
              cases r
              · go_wp2_with fail
                go_ret
                exact ⟨_, rfl, HQ.out.trans (HB3.out.mono HQ.out.size)⟩
              · go_wp2_with fail
                go_roundw
                case rel => exact ⟨j + 1, by omega, by go_num, HB3⟩
                case measure => simp [intOf]; omega
            · obtain rfl : j = n2 := by omega
              have d3 : decide ((j : Int) < (j : Int)) = false := by simp
              clear g0 g1
              go_wp2_with fail
              go_roundw
              case rel => exact ⟨i + 1, _, by omega, by go_num, rfl, HBX⟩
              case measure => simp [intOf]; omega
        · have d2 : decide (Y ≤ 1000) = false := decide_eq_false hY
          go_loopw [5] (fun s5 ws => s5 = .int .i64 0 ∧ ws = wq) (fun _ _ => 0)
          case atStart => exact ⟨rfl, rfl⟩
          case round =>
            obtain ⟨rfl, rfl⟩ := hrel
            by_cases hz : 0 < n2
            · have d3 : decide ((0 : Int) < (n2 : Int)) = true := decide_eq_true (by omega)
              go_wp2_with fail
              go_roundw
              case rel => exact ⟨i + 1, _, by omega, by go_num, rfl, HQ⟩
              case measure => simp [intOf]; omega
            · obtain rfl : n2 = 0 := by omega
              go_wp2_with fail
              go_roundw
              case rel => exact ⟨i + 1, _, by omega, by go_num, rfl, HQ⟩
              case measure => simp [intOf]; omega
    · obtain rfl : i = n := by omega
      have d1 : decide ((i : Int) < (i : Int)) = false := by simp
      by_cases hX : X ≤ 1000
      · have d2 : decide (X ≤ 1000) = true := decide_eq_true hX
        go_wp2_with fail
        go_ret
        exact ⟨_, rfl, HB.out⟩
      · have d2 : decide (X ≤ 1000) = false := decide_eq_false hX
        go_wp2_with fail
        go_ret
        exact ⟨_, rfl, HB.out⟩
end Go.Proofs.Ytdlmhienolmncaa
