/- Objects: the reference's size, Few: they answer. -/
import Derived.Test.YtdlmhienolmncaaGreatLaidObj
import Derived.Test.YtdlmhienolmncaaGreatRows
import Derived.WalkKit
import Derived.WalkSpells
import Derived.Outline
import Derived.IntWalk
import Derived.Lib.Hide
import Derived.Test.YtdlmhienolmncaaGreatCutB
import Derived.Deep.QuietTactic
import Derived.StillTail
import Derived.StillTailTactics
namespace Go.Proofs.YtdlmhienolmncaaGreat
open Go.RowKit

def OV.parts' : OV → List OV
  | .mk _ _ _ _ _ ps _ _ => ps
theorem ObjIs.nine {w : World} {x : OV} {cs : List Value} (h : ObjIs w x cs) : ∃ (k : Int) (b : Bool) (m s : Int) (t : ByteArray) (A : Option Addr) (n c : Nat) (A2 : Option Addr) (n2 c2 : Nat) (r : Int) (keys : List ByteArray), cs = [.int .i64 k, .bool b, .int .i64 m, .int .i64 s, .string t, .slice A n c, .slice A2 n2 c2, .int .i64 r] ∧ t.size ≤ 9223372036854775807 ∧ StrsAt w A2 n2 c2 keys ∧ x.parts'.length = n ∧ n ≤ c ∧ c ≤ 9223372036854775807 ∧
    (0 < n → ∃ (R o : Nat) (F : Nat → List Value), A = some ⟨R, o, none⟩ ∧ R < w.heap.size ∧ (∀ (i : Nat) (y : OV), x.parts'[i]? = some y → ∀ (j : Nat) (u : Value), (F i)[j]? = some u → w.cell? ⟨R, o + i * 8 + j, none⟩ = some u) ∧ ∀ (i : Nat) (y : OV), x.parts'[i]? = some y → ObjIs w y (F i)) := by
  cases h with
  | mk R o F ht hk hlen hcap htop hnil hA hF hin => exact ⟨_, _, _, _, _, _, _, _, _, _, _, _, _, rfl, ht, hk, hlen, hcap, htop, fun hn => ⟨R, o, F, (hA hn).1, (hA hn).2, hF, hin⟩⟩
theorem StrsAt.get {w : World} {A : Option Addr} {n c : Nat} {l : List ByteArray} (h : StrsAt w A n c l) {i : Nat} (hi : i < n) : ∃ (R o : Nat) (x : ByteArray), A = some ⟨R, o, none⟩ ∧ R < w.heap.size ∧ l[i]? = some x ∧ x.size ≤ 9223372036854775807 ∧ w.cell? ⟨R, o + i, none⟩ = some (.string x) := by
  obtain ⟨R, o, e, hR, hc⟩ := h.at_ (by omega)
  obtain ⟨x, hx⟩ : ∃ x, l[i]? = some x := ⟨_, List.getElem?_eq_getElem (by rw [h.len]; exact hi)⟩
  exact ⟨R, o, x, e, hR, hx, h.text x (List.mem_of_getElem? hx), hc i x hx⟩
/-- A call that answers some number, and turns nothing that was there. -/
def SomeInt (w : World) (e : Ending) (w' : World) : Prop := ∃ r : Int, e = .returned (.int .i64 r) ∧ Below w.heap.size w w'
def SomeBool (w : World) (e : Ending) (w' : World) : Prop := ∃ r : Bool, e = .returned (.bool r) ∧ Below w.heap.size w w'
set_option maxRecDepth 100000 in
set_option maxHeartbeats 4000000 in
theorem rsize_any : ∀ (f : Nat) (x : OV) (cs : List Value) (w : World), f ≤ 45 → ObjIs w x cs →
    Calls Tryz.prog 113 #[.agg cs.toArray, .int .i64 (f : Int)] w (SomeInt w)
  | f, x, cs, w, hf, h => by
    obtain ⟨k, b, m, s, t, A, n, c, A2, n2, c2, r, keys, rfl, ht, hk, hn, hcap, htop, hp⟩ := h.nine
    have hcap2 := hk.cap
    have htop2 := hk.top
    have HP := Lib.hid hp
    have HK := Lib.hid hk
    have HN := Lib.hid hn
    have HW := Lib.hid (Whole.made w 112 #[.int .i64 k, .bool b, .int .i64 m, .int .i64 s, .string t, .slice A n c, .slice A2 n2 c2, .int .i64 r])
    have HV := Lib.hid ((Below.refl w.heap.size w).alloc (Nat.le_refl _) (.cells #[.int .i64 k, .bool b, .int .i64 m, .int .i64 s, .string t, .slice A n c, .slice A2 n2 c2, .int .i64 r] 112))
    have HR : Hid (∀ (g : Nat), f = g + 1 → ∀ (y : OV) (ds : List Value) (w : World), ObjIs w y ds → Calls Tryz.prog 113 #[.agg ds.toArray, .int .i64 (g : Int)] w (SomeInt w)) := Lib.hid (fun g hg y ds w h => rsize_any g y ds w (by omega) h)
    clear h hk hn hp
    go_enter Tryz.func113, Tryz.ntmps113
    go_wp2_with fail
    go_loopw [5, 6] (fun s5 s6 wr => ∃ (i : Nat) (X : Int), i ≤ n2 ∧ s6 = .int .i64 (i : Int) ∧ s5 = .int .i64 X ∧ Hid (Below (w.heap.size + 1) (w.alloc (.cells #[.int .i64 k, .bool b, .int .i64 m, .int .i64 s, .string t, .slice A n c, .slice A2 n2 c2, .int .i64 r] 112)) wr)) (fun _ s6 _ => n2 - (intOf s6).toNat)
    case atStart => exact ⟨0, _, by omega, rfl, rfl, Lib.hid (Below.refl _ _)⟩
    case round =>
      obtain ⟨i, X, hi, rfl, rfl, HB⟩ := hrel
      have hW := HW.out.later HB.out (by omega)
      have c5 := hW.reads 5
      have c6 := hW.reads 6
      have lW := hW.lt
      have hbw := HV.out.trans (HB.out.mono (by omega))
      have HBW := Lib.hid hbw
      by_cases hlt : i < n2
      · have d1 : decide ((i : Int) < (n2 : Int)) = true := decide_eq_true (by omega)
        obtain ⟨R, o, y, rfl, hR, -, hy, hcell⟩ := (HK.out.below hbw).get hlt
        have b2 : (0 : Int) ≤ (i : Int) := by omega
        have b3 : (i : Int) < (n2 : Int) := by omega
        obtain ⟨z, hz⟩ : ∃ z, IntKind.i64.wrap (X + (y.size : Int)) = z := ⟨_, rfl⟩
        clear hbw hW
        by_cases hzz : z < 5000
        · have m1 : decide (z < 5000) = true := decide_eq_true hzz
          have m2 : min z 5000 = z := by omega
          go_wp2_with fail
          go_roundw
          case rel => exact ⟨i + 1, _, by omega, by go_num, rfl, HB⟩
          case measure => simp [intOf]; omega
        · have m1 : decide (z < 5000) = false := decide_eq_false hzz
          have m2 : min z 5000 = 5000 := by omega
          go_wp2_with fail
          go_roundw
          case rel => exact ⟨i + 1, _, by omega, by go_num, rfl, HB⟩
          case measure => simp [intOf]; omega
      · obtain rfl : i = n2 := by omega
        have d1 : decide ((i : Int) < (i : Int)) = false := by simp
        clear hbw hW
        by_cases hf0 : f = 0
        · have e1 : ((f : Int) == 0) = true := by simp; omega
          have e2 : (f : Int) = 0 := by omega
          go_wp2_with fail
          go_ret
          exact ⟨_, rfl, HBW.out⟩
        · obtain ⟨g, hg⟩ : ∃ g, f = g + 1 := ⟨f - 1, by omega⟩
          have HRR := Lib.hid (HR.out g hg)
          have e1 : ((f : Int) == 0) = false := by simp; omega
          have e2 : ¬ (f : Int) = 0 := by omega
          have e3 : ¬ f = 0 := by omega
          have e4 : IntKind.i64.wrap ((f : Int) - 1) = (g : Int) := by rw [IntKind.wrap_i64]; omega
          clear hg HR hf0
          obtain ⟨wa, hwa⟩ : ∃ wa, wa = wr := ⟨_, rfl⟩
          have HA := Lib.hid (show Below (w.heap.size + 1) (w.alloc (.cells #[.int .i64 k, .bool b, .int .i64 m, .int .i64 s, .string t, .slice A n c, .slice A2 i c2, .int .i64 r] 112)) wa by rw [hwa]; exact HB.out)
          rw [← hwa] at c5 c6 lW ⊢
          clear hwa HB HBW
          go_wp2_with fail
          go_loopw [5, 7] (fun s5 s6 wr => ∃ (j : Nat) (X : Int), j ≤ n ∧ s6 = .int .i64 (j : Int) ∧ s5 = .int .i64 X ∧ Hid (Below (w.heap.size + 1) (w.alloc (.cells #[.int .i64 k, .bool b, .int .i64 m, .int .i64 s, .string t, .slice A n c, .slice A2 i c2, .int .i64 r] 112)) wr)) (fun _ s6 _ => n - (intOf s6).toNat)
          case atStart => exact ⟨0, _, by omega, rfl, rfl, HA⟩
          case round =>
            clear c5 c6 lW HA
            obtain ⟨j, X, hj, rfl, rfl, HB⟩ := hrel
            have hW := HW.out.later HB.out (by omega)
            have c5 := hW.reads 5
            have c6 := hW.reads 6
            have lW := hW.lt
            have hbw := HV.out.trans (HB.out.mono (by omega))
            have HBW := Lib.hid hbw
            by_cases hlt : j < n
            · have d1 : decide ((j : Int) < (n : Int)) = true := decide_eq_true (by omega)
              by_cases hX : X ≤ 2000
              · obtain ⟨R, o, F, rfl, hR, hF, hin⟩ := HP.out (by omega)
                obtain ⟨y, hy⟩ : ∃ y, x.parts'[j]? = some y := ⟨_, List.getElem?_eq_getElem (by rw [HN.out]; exact hlt)⟩
                have hoy := hin j y hy
                have hfy := hF j y hy
                have HO := Lib.hid (hoy.later hbw)
                obtain ⟨k1, b1, m1, s1, t1, A1, n1, c1, A3, n3, c3, r1, keys1, he, -⟩ := hoy.nine
                rw [he] at hfy HO
                have g0 := (hbw.cell (p := ⟨R, o + j * 8 + 0, none⟩) hR).trans (hfy 0 _ rfl)
                have g1 := (hbw.cell (p := ⟨R, o + j * 8 + 1, none⟩) hR).trans (hfy 1 _ rfl)
                have g2 := (hbw.cell (p := ⟨R, o + j * 8 + 2, none⟩) hR).trans (hfy 2 _ rfl)
                have g3 := (hbw.cell (p := ⟨R, o + j * 8 + 3, none⟩) hR).trans (hfy 3 _ rfl)
                have g4 := (hbw.cell (p := ⟨R, o + j * 8 + 4, none⟩) hR).trans (hfy 4 _ rfl)
                have g5 := (hbw.cell (p := ⟨R, o + j * 8 + 5, none⟩) hR).trans (hfy 5 _ rfl)
                have g6 := (hbw.cell (p := ⟨R, o + j * 8 + 6, none⟩) hR).trans (hfy 6 _ rfl)
                have g7 := (hbw.cell (p := ⟨R, o + j * 8 + 7, none⟩) hR).trans (hfy 7 _ rfl)
                rw [Nat.add_zero] at g0
                have d2 : decide (X ≤ 2000) = true := decide_eq_true hX
                have b2 : (0 : Int) ≤ (j : Int) := by omega
                have b3 : (j : Int) < (n : Int) := by omega
                have hRw : R < wr.heap.size := Nat.lt_of_lt_of_le hR hbw.size
                clear hin hF hfy hoy he hbw hW hy hX
                go_wp2_with fail
                refine (HRR.out y _ _ HO.out).mono ?_
                rintro e w2 ⟨z, rfl, hb⟩
                have HB2 := Lib.hid (HB.out.trans (hb.mono (by have := HB.out.size; simp at this; omega)))
                clear hb g0 g1 g2 g3 g4 g5 g6 g7 c5 c6 lW
                go_wp2_with fail
                go_roundw
                case rel => exact ⟨j + 1, _, by omega, by go_num, rfl, HB2⟩
                case measure => simp [intOf]; omega
              · have d2 : decide (X ≤ 2000) = false := decide_eq_false hX
                go_wp2_with fail
                go_ret
                exact ⟨_, rfl, HBW.out⟩
            · obtain rfl : j = n := by omega
              have d1 : decide ((j : Int) < (j : Int)) = false := by simp
              clear hbw hW
              go_wp2_with fail
              go_ret
              exact ⟨_, rfl, HBW.out⟩
  termination_by f => f
  decreasing_by omega
set_option maxRecDepth 100000 in
theorem few15_any (x : OV) (cs : List Value) (w : World) (h : ObjIs w x cs) : Calls Tryz.prog 79 #[.agg cs.toArray] w (SomeBool w) := by
  have hb0 : Below w.heap.size w (w.alloc (.cells cs.toArray 112)) := (Below.refl w.heap.size w).alloc (Nat.le_refl _) _
  have HS := Lib.hid (rsize_any 45 x cs _ (by omega) (h.later hb0))
  have HB := Lib.hid hb0
  obtain ⟨k, b, m, s, t, A, n, c, A2, n2, c2, r, keys, rfl, -⟩ := h.nine
  clear h hb0
  go_enter Tryz.func79, Tryz.ntmps79
  go_wp2_with fail
  refine HS.out.mono ?_
  rintro e w1 ⟨z, rfl, hb⟩
  have HB1 := Lib.hid (HB.out.trans (hb.mono HB.out.size))
  clear hb
  go_wp2_with fail
  go_ret
  exact ⟨_, rfl, HB1.out⟩
end Go.Proofs.YtdlmhienolmncaaGreat
/- Ops, marks, fonts: are they few? -/
namespace Go.Proofs.YtdlmhienolmncaaGreat
open Go.RowKit Dec

theorem OpsAt.get {w : World} {A : Option Addr} {n c : Nat} {l : List OpT} (h : OpsAt w A n c l) {i : Nat} (hi : i < n) : ∃ (R o : Nat) (x : OpT) (A2 : Option Addr) (n2 c2 : Nat), A = some ⟨R, o, none⟩ ∧ R < w.heap.size ∧ l[i]? = some x ∧ x.name.size ≤ 9223372036854775807 ∧ ObjsAt w A2 n2 c2 x.args ∧ w.cell? ⟨R, o + i * 2, none⟩ = some (.string x.name) ∧ w.cell? ⟨R, o + i * 2 + 1, none⟩ = some (.slice A2 n2 c2) := by
  obtain ⟨x, hx⟩ : ∃ x, l[i]? = some x := ⟨_, List.getElem?_eq_getElem (by rw [RowOf.len h]; exact hi)⟩
  obtain ⟨R, o, cs, e, hR, ⟨A2, n2, c2, rfl, hs, ha⟩, hc⟩ := RowOf.get h hx
  exact ⟨R, o, x, A2, n2, c2, e, hR, hx, hs, ha, hc 0 _ rfl, hc 1 _ rfl⟩
theorem ObjsAt.get {w : World} {A : Option Addr} {n c : Nat} {l : List OV} (h : ObjsAt w A n c l) {i : Nat} (hi : i < n) : ∃ (R o : Nat) (x : OV) (cs : List Value), A = some ⟨R, o, none⟩ ∧ R < w.heap.size ∧ l[i]? = some x ∧ ObjIs w x cs ∧ ∀ (j : Nat) (u : Value), cs[j]? = some u → w.cell? ⟨R, o + i * 8 + j, none⟩ = some u := by
  obtain ⟨x, hx⟩ : ∃ x, l[i]? = some x := ⟨_, List.getElem?_eq_getElem (by rw [RowOf.len h]; exact hi)⟩
  obtain ⟨R, o, cs, e, hR, hx2, hc⟩ := RowOf.get h hx
  exact ⟨R, o, x, cs, e, hR, hx, hx2, hc⟩
set_option maxRecDepth 100000 in
set_option maxHeartbeats 4000000 in
theorem few20_any (A : Option Addr) (n c : Nat) (l : List OpT) (w : World) (h : OpsAt w A n c l) : Calls Tryz.prog 47 #[.slice A n c] w (SomeBool w) := by
  obtain ⟨hcap, htop⟩ := RowOf.cap h
  have H := Lib.hid h
  clear h
  go_enter Tryz.func47, Tryz.ntmps47
  go_wp2_with fail
  by_cases h60 : 60 < n
  · have d0 : decide ((n : Int) ≤ 60) = false := decide_eq_false (by omega)
    have d1 : decide ((0 : Int) < (n : Int)) = true := decide_eq_true (by omega)
    refine wp_loop_rounds 1 ?_
    rw [rounds_succ]
    go_wp2_with fail
    go_ret
    exact ⟨_, rfl, Below.refl _ _⟩
  have h60' : n ≤ 60 := by omega
  have d60 : decide ((n : Int) ≤ 60) = true := decide_eq_true (by omega)
  go_loopw [3, 4] (fun s3 s4 wr => ∃ (i : Nat) (X : Int), i ≤ n ∧ s4 = .int .i64 (i : Int) ∧ s3 = .int .i64 X ∧ Hid (Below w.heap.size w wr)) (fun _ s4 _ => n - (intOf s4).toNat)
  case atStart => exact ⟨0, _, by omega, rfl, rfl, Lib.hid (Below.refl _ _)⟩
  case round =>
    obtain ⟨i, X, hi, rfl, rfl, HB⟩ := hrel
    by_cases hlt : i < n
    · have d1 : decide ((i : Int) < (n : Int)) = true := decide_eq_true (by omega)
      obtain ⟨R, o, x, A2, n2, c2, rfl, hR, hx, hs, ha, g0, g1⟩ := (H.out.below HB.out).get hlt
      obtain ⟨hcap2, htop2⟩ := RowOf.cap ha
      have b2 : (0 : Int) ≤ (i : Int) := by omega
      have b3 : (i : Int) < (n : Int) := by omega
      have HA := Lib.hid ha
      clear ha hx
      go_wp2_with fail
      go_quiet (fail)
      all_goals
        go_wp2_with fail
        obtain ⟨Y, hY⟩ : ∃ Y, wrap64 (wrap64 (X + (n2 : Int)) + (x.name.size : Int)) = Y := ⟨_, rfl⟩
        simp only [hY]
        clear hY
        obtain ⟨wq, hwq⟩ : ∃ wq, wr.drewN nq = wq := ⟨_, rfl⟩
        have HQ := Lib.hid (show Below w.heap.size w wq by rw [← hwq]; exact below_drewN HB.out _)
        have hRq : R < wq.heap.size := by rw [← hwq]; exact hR
        have g0 : wq.cell? ⟨R, o + i * 2, none⟩ = some (.string x.name) := by rw [← hwq]; exact g0
        have g1 : wq.cell? ⟨R, o + i * 2 + 1, none⟩ = some (.slice A2 n2 c2) := by rw [← hwq]; exact g1
        have HAQ := Lib.hid (show ObjsAt wq A2 n2 c2 x.args by rw [← hwq]; exact HA.out.below (below_drewN (Below.refl _ _) _))
        rw [hwq]
        clear hwq
        by_cases hY : Y ≤ 1000
        · have d2 : decide (Y ≤ 1000) = true := decide_eq_true hY
          go_loopw [5] (fun s5 ws => ∃ (j : Nat), j ≤ n2 ∧ s5 = .int .i64 (j : Int) ∧ Hid (Below wq.heap.size wq ws)) (fun s5 _ => n2 - (intOf s5).toNat)
          case atStart => exact ⟨0, by omega, rfl, Lib.hid (Below.refl _ _)⟩
          case round =>
            obtain ⟨j, hj, rfl, HB2⟩ := hrel
            have HBX := Lib.hid (HQ.out.trans (HB2.out.mono HQ.out.size))
            have e1 := (HB2.out.cell (p := ⟨R, o + i * 2 + 1, none⟩) hRq).trans g1
            by_cases hlt2 : j < n2
            · have d3 : decide ((j : Int) < (n2 : Int)) = true := decide_eq_true (by omega)
              obtain ⟨R2, o2, y, cs, rfl, hR2, hy, ho, hc⟩ := (HAQ.out.below HB2.out).get hlt2
              have b4 : (0 : Int) ≤ (j : Int) := by omega
              have b5 : (j : Int) < (n2 : Int) := by omega
              have HF := Lib.hid (few15_any y cs wr ho)
              obtain ⟨k1, b1, m1, s1, t1, A1, n1, c1, A3, n3, c3, r1, keys1, rfl, -⟩ := ho.nine
              have q0 := hc 0 _ rfl
              have q1 := hc 1 _ rfl
              have q2 := hc 2 _ rfl
              have q3 := hc 3 _ rfl
              have q4 := hc 4 _ rfl
              have q5 := hc 5 _ rfl
              have q6 := hc 6 _ rfl
              have q7 := hc 7 _ rfl
              rw [Nat.add_zero] at q0
              clear hc ho g0 g1
              go_wp2_with fail
              refine HF.out.mono ?_
              rintro e w2 ⟨r, rfl, hb⟩
              have HB3 := Lib.hid (HB2.out.trans (hb.mono HB2.out.size))
              clear hb q0 q1 q2 q3 q4 q5 q6 q7 e1
              cases r
              · go_wp2_with fail
                go_ret
                exact ⟨_, rfl, HQ.out.trans (HB3.out.mono HQ.out.size)⟩
              · go_wp2_with fail
                go_roundw
                case rel => exact ⟨j + 1, by omega, by go_num, HB3⟩
                case measure => simp [intOf]; omega
            · obtain rfl : j = n2 := by omega
              have d3 : decide ((j : Int) < (j : Int)) = false := by simp
              clear g0 g1
              go_wp2_with fail
              go_roundw
              case rel => exact ⟨i + 1, _, by omega, by go_num, rfl, HBX⟩
              case measure => simp [intOf]; omega
        · have d2 : decide (Y ≤ 1000) = false := decide_eq_false hY
          go_loopw [5] (fun s5 ws => s5 = .int .i64 0 ∧ ws = wq) (fun _ _ => 0)
          case atStart => exact ⟨rfl, rfl⟩
          case round =>
            obtain ⟨rfl, rfl⟩ := hrel
            by_cases hz : 0 < n2
            · have d3 : decide ((0 : Int) < (n2 : Int)) = true := decide_eq_true (by omega)
              go_wp2_with fail
              go_roundw
              case rel => exact ⟨i + 1, _, by omega, by go_num, rfl, HQ⟩
              case measure => simp [intOf]; omega
            · obtain rfl : n2 = 0 := by omega
              go_wp2_with fail
              go_roundw
              case rel => exact ⟨i + 1, _, by omega, by go_num, rfl, HQ⟩
              case measure => simp [intOf]; omega
    · obtain rfl : i = n := by omega
      have d1 : decide ((i : Int) < (i : Int)) = false := by simp
      by_cases hX : X ≤ 1000
      · have d2 : decide (X ≤ 1000) = true := decide_eq_true hX
        go_wp2_with fail
        go_ret
        exact ⟨_, rfl, HB.out⟩
      · have d2 : decide (X ≤ 1000) = false := decide_eq_false hX
        go_wp2_with fail
        go_ret
        exact ⟨_, rfl, HB.out⟩
end Go.Proofs.YtdlmhienolmncaaGreat
/- Objects, ops: two that are alike are told to be the same. -/
namespace Go.Proofs.YtdlmhienolmncaaGreat
open Go.RowKit Dec

/-- An object's eight cells, by its fields. -/
theorem ObjIs.full {w : World} {k : Int} {b : Bool} {m s : Int} {t : ByteArray} {parts : List OV} {keys : List ByteArray} {r : Int} {cs : List Value} (h : ObjIs w (.mk k b m s t parts keys r) cs) :
    ∃ (A : Option Addr) (n c : Nat) (A2 : Option Addr) (n2 c2 : Nat), cs = [.int .i64 k, .bool b, .int .i64 m, .int .i64 s, .string t, .slice A n c, .slice A2 n2 c2, .int .i64 r] ∧ t.size ≤ 9223372036854775807 ∧ StrsAt w A2 n2 c2 keys ∧ ObjsAt w A n c parts := by
  cases h with
  | mk R o F ht hk hlen hcap htop hnil hA hF hin =>
    rename_i A n c A2 n2 c2
    refine ⟨A, n, c, A2, n2, c2, rfl, ht, hk, (List.range n).map F, ⟨by simp, hcap, htop, fun hn => ?_⟩, by simp [hlen], fun i x cs hx hc => ?_⟩
    · obtain ⟨e, hR⟩ := hA hn
      refine ⟨R, o, e, hR, fun i cs hi j u hu => ?_⟩
      have hin2 : i < n := by
        have := (List.getElem?_eq_some_iff.1 hi).1
        simpa using this
      simp [List.getElem?_range hin2] at hi
      subst hi
      obtain ⟨x, hx⟩ : ∃ x, parts[i]? = some x := ⟨_, List.getElem?_eq_getElem (by omega)⟩
      exact hF i x hx j u hu
    · have hin2 : i < n := by
        have := (List.getElem?_eq_some_iff.1 hx).1
        omega
      simp [List.getElem?_range hin2] at hc
      subst hc
      exact hin i x hx
def BoolTrue (w : World) (e : Ending) (w' : World) : Prop := e = .returned (.bool true) ∧ Below w.heap.size w w'
set_option maxRecDepth 100000 in
set_option maxHeartbeats 4000000 in
theorem same15_any : ∀ (x : OV) (cs cs' : List Value) (w : World), ObjIs w x cs → ObjIs w x cs' →
    Calls Tryz.prog 67 #[.agg cs.toArray, .agg cs'.toArray] w (BoolTrue w)
  | .mk k b m s t parts keys r, cs, cs', w, h, h' => by
    have HR := Lib.hid (fun (y : OV) (hy : y ∈ parts) (ds ds' : List Value) (w : World) (h : ObjIs w y ds) (h' : ObjIs w y ds') => same15_any y ds ds' w h h')
    obtain ⟨A, n, c, A2, n2, c2, rfl, ht, hk, hp⟩ := h.full
    obtain ⟨B, n', d, B2, n2', d2, rfl, -, hk', hp'⟩ := h'.full
    obtain rfl : n' = n := (RowOf.len hp').symm.trans (RowOf.len hp)
    obtain rfl : n2' = n2 := hk'.len.symm.trans hk.len
    obtain ⟨pc, pt⟩ := RowOf.cap hp
    obtain ⟨pc', pt'⟩ := RowOf.cap hp'
    have kc := hk.cap
    have kt := hk.top
    have kc' := hk'.cap
    have kt' := hk'.top
    have HW := Lib.hid ((Whole.made w 112 #[.int .i64 k, .bool b, .int .i64 m, .int .i64 s, .string t, .slice A n' c, .slice A2 n2' c2, .int .i64 r]).old (.cells #[.int .i64 k, .bool b, .int .i64 m, .int .i64 s, .string t, .slice B n' d, .slice B2 n2' d2, .int .i64 r] 112))
    have hw2 := Whole.made (w.alloc (.cells #[.int .i64 k, .bool b, .int .i64 m, .int .i64 s, .string t, .slice A n' c, .slice A2 n2' c2, .int .i64 r] 112)) 112 #[.int .i64 k, .bool b, .int .i64 m, .int .i64 s, .string t, .slice B n' d, .slice B2 n2' d2, .int .i64 r]
    simp only [World.size_alloc] at hw2
    have HW2 := Lib.hid hw2
    have hb0 : Below w.heap.size w ((w.alloc (.cells #[.int .i64 k, .bool b, .int .i64 m, .int .i64 s, .string t, .slice A n' c, .slice A2 n2' c2, .int .i64 r] 112)).alloc (.cells #[.int .i64 k, .bool b, .int .i64 m, .int .i64 s, .string t, .slice B n' d, .slice B2 n2' d2, .int .i64 r] 112)) := by (repeat (first | with_reducible exact Below.refl _ _ | with_reducible refine Below.drew ?_ | with_reducible refine bdrewN ?_ _ | (with_reducible refine Below.setCell ?_ ?_ _; rotate_left; focus (first | exact Nat.le_refl _ | omega | (simp; omega) | (simp; done))) | (with_reducible refine Below.alloc ?_ ?_ _; rotate_left; focus (first | exact Nat.le_refl _ | omega | (simp; omega) | (simp; done))) | (with_reducible refine Below.trans ?_ (Below.mono (by assumption) ?_); rotate_left; focus (first | exact Nat.le_refl _ | omega | (simp; omega) | (simp; done)))))
    have HB0 := Lib.hid hb0
    have HK := Lib.hid (And.intro hk hk')
    have HP := Lib.hid (And.intro hp hp')
    clear h h' hk hk' hp hp' hw2 hb0
    go_enter Tryz.func67, Tryz.ntmps67
    go_wp2_with fail
    go_loopw [5] (fun s5 wr => ∃ (i : Nat), i ≤ n2' ∧ s5 = .int .i64 (i : Int) ∧ Hid (Below (w.heap.size + 1 + 1) ((w.alloc (.cells #[.int .i64 k, .bool b, .int .i64 m, .int .i64 s, .string t, .slice A n' c, .slice A2 n2' c2, .int .i64 r] 112)).alloc (.cells #[.int .i64 k, .bool b, .int .i64 m, .int .i64 s, .string t, .slice B n' d, .slice B2 n2' d2, .int .i64 r] 112)) wr)) (fun s5 _ => n2' - (intOf s5).toNat)
    case atStart => exact ⟨0, by omega, rfl, Lib.hid (by have := Below.refl ((w.alloc (.cells #[.int .i64 k, .bool b, .int .i64 m, .int .i64 s, .string t, .slice A n' c, .slice A2 n2' c2, .int .i64 r] 112)).alloc (.cells #[.int .i64 k, .bool b, .int .i64 m, .int .i64 s, .string t, .slice B n' d, .slice B2 n2' d2, .int .i64 r] 112)).heap.size ((w.alloc (.cells #[.int .i64 k, .bool b, .int .i64 m, .int .i64 s, .string t, .slice A n' c, .slice A2 n2' c2, .int .i64 r] 112)).alloc (.cells #[.int .i64 k, .bool b, .int .i64 m, .int .i64 s, .string t, .slice B n' d, .slice B2 n2' d2, .int .i64 r] 112)); simpa using this)⟩
    case round =>
      obtain ⟨i, hi, rfl, HB⟩ := hrel
      have hW := HW.out.later HB.out (by omega)
      have hW2 := HW2.out.later HB.out (by omega)
      have c5 := hW.reads 5
      have c6 := hW.reads 6
      have e5 := hW2.reads 5
      have e6 := hW2.reads 6
      have lW := hW.lt
      have lW2 := hW2.lt
      have hbw := HB0.out.trans (HB.out.mono (by omega))
      have HBW := Lib.hid hbw
      by_cases hlt : i < n2'
      · have d1 : decide ((i : Int) < (n2' : Int)) = true := decide_eq_true (by omega)
        obtain ⟨R, o, y, rfl, hR, hy, -, hcell⟩ := (HK.out.1.below hbw).get hlt
        obtain ⟨R2, o2, y2, rfl, hR2, hy2, -, hcell2⟩ := (HK.out.2.below hbw).get hlt
        obtain rfl : y = y2 := by rw [hy] at hy2; injection hy2
        have b2 : (0 : Int) ≤ (i : Int) := by omega
        have b3 : (i : Int) < (n2' : Int) := by omega
        clear hbw hW hW2 hy hy2
        go_wp2_with fail
        go_quiet (fail)
        all_goals
          go_wp2_with fail
          go_roundw
          case rel => exact ⟨i + 1, by omega, by go_num, Lib.hid (below_drewN HB.out _)⟩
          case measure => simp [intOf]; omega
      · obtain rfl : i = n2' := by omega
        have d1 : decide ((i : Int) < (i : Int)) = false := by simp
        clear hbw hW hW2
        obtain ⟨wa, hwa⟩ : ∃ wa, wa = wr := ⟨_, rfl⟩
        have HA := Lib.hid (And.intro (show Below w.heap.size w wa by rw [hwa]; exact HBW.out) (And.intro (show Whole wa w.heap.size 112 #[.int .i64 k, .bool b, .int .i64 m, .int .i64 s, .string t, .slice A n' c, .slice A2 i c2, .int .i64 r] by rw [hwa]; exact HW.out.later HB.out (by omega))
          (show Whole wa (w.heap.size + 1) 112 #[.int .i64 k, .bool b, .int .i64 m, .int .i64 s, .string t, .slice B n' d, .slice B2 i d2, .int .i64 r] by rw [hwa]; exact HW2.out.later HB.out (by omega))))
        rw [← hwa] at c5 c6 e5 e6 lW lW2 ⊢
        clear hwa HB HBW
        go_wp2_with fail
        go_loopw [6] (fun s6 wr => ∃ (j : Nat), j ≤ n' ∧ s6 = .int .i64 (j : Int) ∧ Hid (Below wa.heap.size wa wr)) (fun s6 _ => n' - (intOf s6).toNat)
        case atStart => exact ⟨0, by omega, rfl, Lib.hid (Below.refl _ _)⟩
        case round =>
          clear c5 c6 e5 e6 lW lW2
          obtain ⟨j, hj, rfl, HB⟩ := hrel
          have hW := HA.out.2.1.here HB.out
          have hW2 := HA.out.2.2.here HB.out
          have c5 := hW.reads 5
          have c6 := hW.reads 6
          have e5 := hW2.reads 5
          have e6 := hW2.reads 6
          have lW := hW.lt
          have lW2 := hW2.lt
          have hbw := HA.out.1.trans (HB.out.mono HA.out.1.size)
          have HBW := Lib.hid hbw
          by_cases hlt : j < n'
          · have d1 : decide ((j : Int) < (n' : Int)) = true := decide_eq_true (by omega)
            obtain ⟨R, o, y, ds, rfl, hR, hy, hoy, hc⟩ := ObjsAt.get (ObjsAt.below HP.out.1 hbw) hlt
            obtain ⟨R2, o2, y2, ds2, rfl, hR2, hy2, hoy2, hc2⟩ := ObjsAt.get (ObjsAt.below HP.out.2 hbw) hlt
            obtain rfl : y = y2 := by rw [hy] at hy2; injection hy2
            have HC := Lib.hid (HR.out y (List.mem_of_getElem? hy) ds ds2 wr.drew (hoy.later (Below.refl _ _).drew) (hoy2.later (Below.refl _ _).drew))
            obtain ⟨k1, b1, m1, s1, t1, A1, n1, c1, A3, n3, c3, r1, keys1, rfl, -⟩ := hoy.nine
            obtain ⟨k4, b4, m4, s4, t4, A4, n4, c4, A5, n5, c5', r4, keys4, rfl, -⟩ := hoy2.nine
            have g0 := hc 0 _ rfl
            have g1 := hc 1 _ rfl
            have g2 := hc 2 _ rfl
            have g3 := hc 3 _ rfl
            have g4 := hc 4 _ rfl
            have g5 := hc 5 _ rfl
            have g6 := hc 6 _ rfl
            have g7 := hc 7 _ rfl
            have q0 := hc2 0 _ rfl
            have q1 := hc2 1 _ rfl
            have q2 := hc2 2 _ rfl
            have q3 := hc2 3 _ rfl
            have q4 := hc2 4 _ rfl
            have q5 := hc2 5 _ rfl
            have q6 := hc2 6 _ rfl
            have q7 := hc2 7 _ rfl
            rw [Nat.add_zero] at g0 q0
            have b2 : (0 : Int) ≤ (j : Int) := by omega
            have b3 : (j : Int) < (n' : Int) := by omega
            clear hbw hW hW2 hy hy2 hc hc2 hoy hoy2
            go_wp2_with fail
            go_still_tail 10, (by kernel_rfl)
            go_wp2_with fail
            refine HC.out.mono ?_
            rintro e w2 ⟨rfl, hb⟩
            have HB2 := Lib.hid (HB.out.drew.trans (hb.mono HB.out.size))
            clear hb g0 g1 g2 g3 g4 g5 g6 g7 q0 q1 q2 q3 q4 q5 q6 q7 c5 c6 e5 e6 lW lW2
            go_wp2_with fail
            go_roundw
            case rel => exact ⟨j + 1, by omega, by go_num, HB2⟩
            case measure => simp [intOf]; omega
          · obtain rfl : j = n' := by omega
            have d1 : decide ((j : Int) < (j : Int)) = false := by simp
            clear hbw hW hW2
            go_wp2_with fail
            go_ret
            exact ⟨rfl, HBW.out⟩
  termination_by x => SizeOf.sizeOf x
  decreasing_by
    have := List.sizeOf_lt_of_mem hy
    simp only [OV.mk.sizeOf_spec]
    omega
end Go.Proofs.YtdlmhienolmncaaGreat
/- Rows of ops that are alike are told to be the same. -/
namespace Go.Proofs.YtdlmhienolmncaaGreat
open Go.RowKit Dec

set_option maxRecDepth 100000 in
set_option maxHeartbeats 8000000 in
theorem same20_any (A : Option Addr) (n c : Nat) (A2 : Option Addr) (c2 : Nat) (l : List OpT) (w : World) (h : OpsAt w A n c l) (h2 : OpsAt w A2 n c2 l) :
    Calls Tryz.prog 36 #[.slice A n c, .slice A2 n c2] w (BoolTrue w) := by
  obtain ⟨hcap, htop⟩ := RowOf.cap h
  obtain ⟨hcap2, htop2⟩ := RowOf.cap h2
  have H := Lib.hid (And.intro h h2)
  clear h h2
  go_enter Tryz.func36, Tryz.ntmps36
  go_wp2_with fail
  go_loopw [5] (fun s5 wr => ∃ (i : Nat), i ≤ n ∧ s5 = .int .i64 (i : Int) ∧ Hid (Below w.heap.size w wr)) (fun s5 _ => n - (intOf s5).toNat)
  case atStart => exact ⟨0, by omega, rfl, Lib.hid (Below.refl _ _)⟩
  case round =>
    obtain ⟨i, hi, rfl, HB⟩ := hrel
    by_cases hlt : i < n
    · have d1 : decide ((i : Int) < (n : Int)) = true := decide_eq_true (by omega)
      obtain ⟨R, o, x, A4, n4, c4, rfl, hR, hx, hs, ha, g0, g1⟩ := OpsAt.get (OpsAt.below H.out.1 HB.out) hlt
      obtain ⟨R2, o2, x2, A5, n5, c5, rfl, hR2, hx2, -, ha2, q0, q1⟩ := OpsAt.get (OpsAt.below H.out.2 HB.out) hlt
      obtain rfl : x = x2 := by rw [hx] at hx2; injection hx2
      obtain rfl : n5 = n4 := (RowOf.len ha2).symm.trans (RowOf.len ha)
      obtain ⟨pc, pt⟩ := RowOf.cap ha
      obtain ⟨pc2, pt2⟩ := RowOf.cap ha2
      have b2 : (0 : Int) ≤ (i : Int) := by omega
      have b3 : (i : Int) < (n : Int) := by omega
      have HA := Lib.hid (And.intro ha ha2)
      clear ha ha2 hx hx2
      go_wp2_with fail
      go_quiet (fail)
      all_goals
        go_wp2_with fail
        obtain ⟨wq, hwq⟩ : ∃ wq, wr.drewN nq = wq := ⟨_, rfl⟩
        have HQ := Lib.hid (show Below w.heap.size w wq by rw [← hwq]; exact below_drewN HB.out _)
        have hRq : R < wq.heap.size := by rw [← hwq]; exact hR
        have hRq2 : R2 < wq.heap.size := by rw [← hwq]; exact hR2
        have g1 : wq.cell? ⟨R, o + i * 2 + 1, none⟩ = some (.slice A4 n5 c4) := by rw [← hwq]; exact g1
        have q1 : wq.cell? ⟨R2, o2 + i * 2 + 1, none⟩ = some (.slice A5 n5 c5) := by rw [← hwq]; exact q1
        have HAQ := Lib.hid (show ObjsAt wq A4 n5 c4 x.args ∧ ObjsAt wq A5 n5 c5 x.args by rw [← hwq]; exact ⟨HA.out.1.below (below_drewN (Below.refl _ _) _), HA.out.2.below (below_drewN (Below.refl _ _) _)⟩)
        rw [hwq]
        clear hwq
        go_loopw [6] (fun s6 ws => ∃ (j : Nat), j ≤ n5 ∧ s6 = .int .i64 (j : Int) ∧ Hid (Below wq.heap.size wq ws)) (fun s6 _ => n5 - (intOf s6).toNat)
        case atStart => exact ⟨0, by omega, rfl, Lib.hid (Below.refl _ _)⟩
        case round =>
          obtain ⟨j, hj, rfl, HB2⟩ := hrel
          have HBX := Lib.hid (HQ.out.trans (HB2.out.mono HQ.out.size))
          have e1 := (HB2.out.cell (p := ⟨R, o + i * 2 + 1, none⟩) hRq).trans g1
          have e2 := (HB2.out.cell (p := ⟨R2, o2 + i * 2 + 1, none⟩) hRq2).trans q1
          by_cases hlt2 : j < n5
          · have d3 : decide ((j : Int) < (n5 : Int)) = true := decide_eq_true (by omega)
            obtain ⟨R6, o6, y, ds, rfl, hR6, hy, hoy, hc⟩ := ObjsAt.get (ObjsAt.below HAQ.out.1 HB2.out) hlt2
            obtain ⟨R7, o7, y2, ds2, rfl, hR7, hy2, hoy2, hc2⟩ := ObjsAt.get (ObjsAt.below HAQ.out.2 HB2.out) hlt2
            obtain rfl : y = y2 := by rw [hy] at hy2; injection hy2
            have b4 : (0 : Int) ≤ (j : Int) := by omega
            have b5 : (j : Int) < (n5 : Int) := by omega
            have HC := Lib.hid (same15_any y ds ds2 wr.drew (hoy.later (Below.refl _ _).drew) (hoy2.later (Below.refl _ _).drew))
            obtain ⟨k1, x1, m1, s1, t1, A1, n1, c1, A3, n3, c3, r1, keys1, rfl, -⟩ := hoy.nine
            obtain ⟨k8, x8, m8, s8, t8, A8, n8, c8, A9, n9, c9, r8, keys8, rfl, -⟩ := hoy2.nine
            have y0 := hc 0 _ rfl
            have y1 := hc 1 _ rfl
            have y2 := hc 2 _ rfl
            have y3 := hc 3 _ rfl
            have y4 := hc 4 _ rfl
            have y5 := hc 5 _ rfl
            have y6 := hc 6 _ rfl
            have y7 := hc 7 _ rfl
            have z0 := hc2 0 _ rfl
            have z1 := hc2 1 _ rfl
            have z2 := hc2 2 _ rfl
            have z3 := hc2 3 _ rfl
            have z4 := hc2 4 _ rfl
            have z5 := hc2 5 _ rfl
            have z6 := hc2 6 _ rfl
            have z7 := hc2 7 _ rfl
            rw [Nat.add_zero] at y0 z0
            clear hc hc2 hoy hoy2 hy hy2 g0 g1 q0 q1
            go_wp2_with fail
            go_still_tail 16, (by kernel_rfl)
            go_wp2_with fail
            refine HC.out.mono ?_
            rintro e w2 ⟨rfl, hb⟩
            have HB3 := Lib.hid (HB2.out.drew.trans (hb.mono HB2.out.size))
            clear hb y0 y1 y2 y3 y4 y5 y6 y7 z0 z1 z2 z3 z4 z5 z6 z7 e1 e2
            go_wp2_with fail
            go_roundw
            case rel => exact ⟨j + 1, by omega, by go_num, HB3⟩
            case measure => simp [intOf]; omega
          · obtain rfl : j = n5 := by omega
            have d3 : decide ((j : Int) < (j : Int)) = false := by simp
            clear g0 g1 q0 q1
            go_wp2_with fail
            go_roundw
            case rel => exact ⟨i + 1, by omega, by go_num, HBX⟩
            case measure => simp [intOf]; omega
    · obtain rfl : i = n := by omega
      have d1 : decide ((i : Int) < (i : Int)) = false := by simp
      go_wp2_with fail
      go_ret
      exact ⟨rfl, HB.out⟩
end Go.Proofs.YtdlmhienolmncaaGreat
