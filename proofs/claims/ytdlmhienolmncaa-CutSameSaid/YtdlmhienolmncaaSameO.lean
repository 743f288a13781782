/- Objects, ops: two that are alike are told to be the same. -/
import Derived.Test.YtdlmhienolmncaaCutE
import Derived.StillTail
import Derived.StillTailTactics
namespace Go.Proofs.Ytdlmhienolmncaa
open Go.RowKit Dec

/-- An object's eight cells, by its fields. -/
theorem ObjIs.full {w : World} {k : Int} {b : Bool} {m s : Int} {t : ByteArray} {parts : List OV} {keys : List ByteArray} {r : Int} {cs : List Value} (h : ObjIs w (.mk k b m s t parts keys r) cs) :
    ∃ (A : Option Addr) (n c : Nat) (A2 : Option Addr) (n2 c2 : Nat), cs = [.int .i64 k, .bool b, .int .i64 m, .int .i64 s, .string t, .slice A n c, .slice A2 n2 c2, .int .i64 r] ∧ t.size ≤ 9223372036854775807 ∧ StrsAt w A2 n2 c2 keys ∧ ObjsAt w A n c parts := by
  cases h with
  | mk R o F ht hk hlen hcap htop hnil hA hF hin =>
    rename_i A n c A2 n2 c2
    refine ⟨A, n, c, A2, n2, c2, rfl, ht, hk, (List.range n).map F, ⟨by simp, hcap, htop, fun hn => ?_⟩, by simp [hlen], fun i x cs hx hc => ?_⟩
    · obtain ⟨e, hR⟩ := hA hn
      refine ⟨R, o, e, hR, fun i cs hi j u hu => ?_⟩
      have hin2 : i < n := by
        have := (List.getElem?_eq_some_iff.1 hi).1
        simpa using this
      simp [List.getElem?_range hin2] at hi
      subst hi
      obtain ⟨x, hx⟩ : ∃ x, parts[i]? = some x := ⟨_, List.getElem?_eq_getElem (by omega)⟩
      exact hF i x hx j u hu
    · have hin2 : i < n := by
        have := (List.getElem?_eq_some_iff.1 hx).1
        omega
      simp [List.getElem?_range hin2] at hc
      subst hc
      exact hin i x hx
def BoolTrue (w : World) (e : Ending) (w' : World) : Prop := e = .returned (.bool true) ∧ Below w.heap.size w w'
set_option maxRecDepth 100000 in
set_option maxHeartbeats 4000000 in
theorem same15_any : ∀ (x : OV) (cs cs' : List Value) (w : World), ObjIs w x cs → ObjIs w x cs' →
    Calls Try.prog 44 #[.agg cs.toArray, .agg cs'.toArray] w (BoolTrue w)
  | .mk k b m s t parts keys r, cs, cs', w, h, h' => by
    have HR := Lib.hid (fun (y : OV) (hy : y ∈ parts) (ds ds' : List Value) (w : World) (h : ObjIs w y ds) (h' : ObjIs w y ds') => same15_any y ds ds' w h h')
    obtain ⟨A, n, c, A2, n2, c2, rfl, ht, hk, hp⟩ := h.full
    obtain ⟨B, n', d, B2, n2', d2, rfl, -, hk', hp'⟩ := h'.full
    obtain rfl : n' = n := (RowOf.len hp').symm.trans (RowOf.len hp)
    obtain rfl : n2' = n2 := hk'.len.symm.trans hk.len
    obtain ⟨pc, pt⟩ := RowOf.cap hp
    obtain ⟨pc', pt'⟩ := RowOf.cap hp'
    have kc := hk.cap
    have kt := hk.top
    have kc' := hk'.cap
    have kt' := hk'.top
    have HW := Lib.hid ((Whole.made w 98 #[.int .i64 k, .bool b, .int .i64 m, .int .i64 s, .string t, .slice A n' c, .slice A2 n2' c2, .int .i64 r]).old (.cells #[.int .i64 k, .bool b, .int .i64 m, .int .i64 s, .string t, .slice B n' d, .slice B2 n2' d2, .int .i64 r] 98))
    have hw2 := Whole.made (w.alloc (.cells #[.int .i64 k, .bool b, .int .i64 m, .int .i64 s, .string t, .slice A n' c, .slice A2 n2' c2, .int .i64 r] 98)) 98 #[.int .i64 k, .bool b, .int .i64 m, .int .i64 s, .string t, .slice B n' d, .slice B2 n2' d2, .int .i64 r]
    simp only [World.size_alloc] at hw2
    have HW2 := Lib.hid hw2
    have hb0 : Below w.heap.size w ((w.alloc (.cells #[.int .i64 k, .bool b, .int .i64 m, .int .i64 s, .string t, .slice A n' c, .slice A2 n2' c2, .int .i64 r] 98)).alloc (.cells #[.int .i64 k, .bool b, .int .i64 m, .int .i64 s, .string t, .slice B n' d, .slice B2 n2' d2, .int .i64 r] 98)) := by (repeat (first | with_reducible exact Below.refl _ _ | with_reducible refine Below.drew ?_ | with_reducible refine bdrewN ?_ _ | (with_reducible refine Below.setCell ?_ ?_ _; rotate_left; focus (first | exact Nat.le_refl _ | omega | (simp; omega) | (simp; done))) | (with_reducible refine Below.alloc ?_ ?_ _; rotate_left; focus (first | exact Nat.le_refl _ | omega | (simp; omega) | (simp; done))) | (with_reducible refine Below.trans ?_ (Below.mono (by assumption) ?_); rotate_left; focus (first | exact Nat.le_refl _ | omega | (simp; omega) | (simp; done)))))
    have HB0 := Lib.hid hb0
    have HK := Lib.hid (And.intro hk hk')
    have HP := Lib.hid (And.intro hp hp')
    clear h h' hk hk' hp hp' hw2 hb0
    go_enter Try.func44, Try.ntmps44
    go_wp2_with fail
    go_loopw [5] (fun s5 wr => ∃ (i : Nat), i ≤ n2' ∧ s5 = .int .i64 (i : Int) ∧ Hid (Below (w.heap.size + 1 + 1) ((w.alloc (.cells #[.int .i64 k, .bool b, .int .i64 m, .int .i64 s, .string t, .slice A n' c, .slice A2 n2' c2, .int .i64 r] 98)).alloc (.cells #[.int .i64 k, .bool b, .int .i64 m, .int .i64 s, .string t, .slice B n' d, .slice B2 n2' d2, .int .i64 r] 98)) wr)) (fun s5 _ => n2' - (intOf s5).toNat)
    case atStart => exact ⟨0, by omega, rfl, Lib.hid (by have := Below.refl ((w.alloc (.cells #[.int .i64 k, .bool b, .int .i64 m, .int .i64 s, .string t, .slice A n' c, .slice A2 n2' c2, .int .i64 r] 98)).alloc (.cells #[.int .i64 k, .bool b, .int .i64 m, .int .i64 s, .string t, .slice B n' d, .slice B2 n2' d2, .int .i64 r] 98)).heap.size ((w.alloc (.cells #[.int .i64 k, .bool b, .int .i64 m, .int .i64 s, .string t, .slice A n' c, .slice A2 n2' c2, .int .i64 r] 98)).alloc (.cells #[.int .i64 k, .bool b, .int .i64 m, .int .i64 s, .string t, .slice B n' d, .slice B2 n2' d2, .int .i64 r] 98)); simpa using this)⟩
    case round =>
      obtain ⟨i, hi, rfl, HB⟩ := hrel
      have hW := HW.out.later HB.out (by omega)
      have hW2 := HW2.out.later HB.out (by omega)
      have c5 := hW.reads 5
      have c6 := hW.reads 6
      have e5 := hW2.reads 5
      have e6 := hW2.reads 6
      have lW := hW.lt
      have lW2 := hW2.lt
      have hbw := HB0.out.trans (HB.out.mono (by omega))
      have HBW := Lib.hid hbw
      by_cases hlt : i < n2'
      · have d1 : decide ((i : Int) < (n2' : Int)) = true := decide_eq_true (by omega)
        obtain ⟨R, o, y, rfl, hR, hy, -, hcell⟩ := (HK.out.1.below hbw).get hlt
        obtain ⟨R2, o2, y2, rfl, hR2, hy2, -, hcell2⟩ := (HK.out.2.below hbw).get hlt
        obtain rfl : y = y2 := by rw [hy] at hy2; injection hy2
        have b2 : (0 : Int) ≤ (i : Int) := by omega
        have b3 : (i : Int) < (n2' : Int) := by omega
        clear hbw hW hW2 hy hy2
        go_wp2_with fail
        go_quiet (fail)
        all_goals
          go_wp2_with fail
          go_roundw
          case rel => exact ⟨i + 1, by omega, by go_num, Lib.hid (below_drewN HB.out _)⟩
          case measure => simp [intOf]; omega
      · obtain rfl : i = n2' := by omega
        have d1 : decide ((i : Int) < (i : Int)) = false := by simp
        clear hbw hW hW2
        obtain ⟨wa, hwa⟩ : ∃ wa, wa = wr := ⟨_, rfl⟩
        have HA := Lib.hid (And.intro (show Below w.heap.size w wa by rw [hwa]; exact HBW.out) (And.intro (show Whole wa w.heap.size 98 #[.int .i64 k, .bool b, .int .i64 m, .int .i64 s, .string t, .slice A n' c, .slice A2 i c2, .int .i64 r] by rw [hwa]; exact HW.out.later HB.out (by omega))
          (show Whole wa (w.heap.size + 1) 98 #[.int .i64 k, .bool b, .int .i64 m, .int .i64 s, .string t, .slice B n' d, .slice B2 i d2, .int .i64 r] by rw [hwa]; exact HW2.out.later HB.out (by omega))))
        rw [← hwa] at c5 c6 e5 e6 lW lW2 ⊢
        clear hwa HB HBW
        go_wp2_with fail
        go_loopw [6] (fun s6 wr => ∃ (j : Nat), j ≤ n' ∧ s6 = .int .i64 (j : Int) ∧ Hid (Below wa.heap.size wa wr)) (fun s6 _ => n' - (intOf s6).toNat)
        case atStart => exact ⟨0, by omega, rfl, Lib.hid (Below.refl _ _)⟩
        case round =>
          clear c5 c6 e5 e6 lW lW2
          obtain ⟨j, hj, rfl, HB⟩ := hrel
          have hW := HA.out.2.1.here HB.out
          have hW2 := HA.out.2.2.here HB.out
          have c5 := hW.reads 5
          have c6 := hW.reads 6
          have e5 := hW2.reads 5
          have e6 := hW2.reads 6
          have lW := hW.lt
          have lW2 := hW2.lt
          have hbw := HA.out.1.trans (HB.out.mono HA.out.1.size)
          have HBW := Lib.hid hbw
          by_cases hlt : j < n'
          · have d1 : decide ((j : Int) < (n' : Int)) = true := decide_eq_true (by omega)
            obtain ⟨R, o, y, ds, rfl, hR, hy, hoy, hc⟩ := ObjsAt.get (ObjsAt.below HP.out.1 hbw) hlt
            obtain ⟨R2, o2, y2, ds2, rfl, hR2, hy2, hoy2, hc2⟩ := ObjsAt.get (ObjsAt.below HP.out.2 hbw) hlt
            obtain rfl : y = y2 := by rw [hy] at hy2; injection hy2
            have HC := Lib.hid (HR.out y (List.mem_of_getElem? hy) ds ds2 wr.drew (hoy.later (Below.refl _ _).drew) (hoy2.later (Below.refl _ _).drew))
            obtain ⟨k1, b1, m1, s1, t1, A1, n1, c1, A3, n3, c3, r1, keys1, rfl, -⟩ := hoy.nine
            obtain ⟨k4, b4, m4, s4, t4, A4, n4, c4, A5, n5, c5', r4, keys4, rfl, -⟩ := hoy2.nine
            have g0 := hc 0 _ rfl
            have g1 := hc 1 _ rfl
            have g2 := hc 2 _ rfl
            have g3 := hc 3 _ rfl
            have g4 := hc 4 _ rfl
            have g5 := hc 5 _ rfl
            have g6 := hc 6 _ rfl
            have g7 := hc 7 _ rfl
            have q0 := hc2 0 _ rfl
            have q1 := hc2 1 _ rfl
            have q2 := hc2 2 _ rfl
            have q3 := hc2 3 _ rfl
            have q4 := hc2 4 _ rfl
            have q5 := hc2 5 _ rfl
            have q6 := hc2 6 _ rfl
            have q7 := hc2 7 _ rfl
            rw [Nat.add_zero] at g0 q0
            have b2 : (0 : Int) ≤ (j : Int) := by omega
            have b3 : (j : Int) < (n' : Int) := by omega
            clear hbw hW hW2 hy hy2 hc hc2 hoy hoy2
            go_wp2_with fail
            go_still_tail 10, (by kernel_rfl)
            go_wp2_with fail
            refine HC.out.mono ?_
            rintro e w2 ⟨rfl, hb⟩
            have HB2 := Lib.hid (HB.out.drew.trans (hb.mono HB.out.size))
            clear hb g0 g1 g2 g3 g4 g5 g6 g7 q0 q1 q2 q3 q4 q5 q6 q7 c5 c6 e5 e6 lW lW2
            go_wp2_with fail
            go_roundw
            case rel => exact ⟨j + 1, by omega, by go_num, HB2⟩
            case measure => simp [intOf]; omega
          · obtain rfl : j = n' := by omega
            have d1 : decide ((j : Int) < (j : Int)) = false := by simp
            clear hbw hW hW2
            go_wp2_with fail
            go_ret
            exact ⟨rfl, HBW.out⟩
  termination_by x => SizeOf.sizeOf x
  decreasing_by
    have := List.sizeOf_lt_of_mem hy
    simp only [OV.mk.sizeOf_spec]
    omega
end Go.Proofs.Ytdlmhienolmncaa
/- Rows of ops that are alike are told to be the same. -/
namespace Go.Proofs.Ytdlmhienolmncaa
open Go.RowKit Dec

set_option maxRecDepth 100000 in
set_option maxHeartbeats 8000000 in
theorem same20_any (A : Option Addr) (n c : Nat) (A2 : Option Addr) (c2 : Nat) (l : List OpT) (w : World) (h : OpsAt w A n c l) (h2 : OpsAt w A2 n c2 l) :
    Calls Try.prog 26 #[.slice A n c, .slice A2 n c2] w (BoolTrue w) := by
  obtain ⟨hcap, htop⟩ := RowOf.cap h
  obtain ⟨hcap2, htop2⟩ := RowOf.cap h2
  have H := Lib.hid (And.intro h h2)
  clear h h2
  go_enter Try.func26, Try.ntmps26
  go_wp2_with fail
  go_loopw [5] (fun s5 wr => ∃ (i : Nat), i ≤ n ∧ s5 = .int .i64 (i : Int) ∧ Hid (Below w.heap.size w wr)) (fun s5 _ => n - (intOf s5).toNat)
  case atStart => exact ⟨0, by omega, rfl, Lib.hid (Below.refl _ _)⟩
  case round =>
    obtain ⟨i, hi, rfl, HB⟩ := hrel
    by_cases hlt : i < n
    · have d1 : decide ((i : Int) < (n : Int)) = true := decide_eq_true (by omega)
      obtain ⟨R, o, x, A4, n4, c4, rfl, hR, hx, hs, ha, g0, g1⟩ := OpsAt.get (OpsAt.below H.out.1 HB.out) hlt
      obtain ⟨R2, o2, x2, A5, n5, c5, rfl, hR2, hx2, -, ha2, q0, q1⟩ := OpsAt.get (OpsAt.below H.out.2 HB.out) hlt
      obtain rfl : x = x2 := by rw [hx] at hx2; injection hx2
      obtain rfl : n5 = n4 := (RowOf.len ha2).symm.trans (RowOf.len ha)
      obtain ⟨pc, pt⟩ := RowOf.cap ha
      obtain ⟨pc2, pt2⟩ := RowOf.cap ha2
      have b2 : (0 : Int) ≤ (i : Int) := by omega
      have b3 : (i : Int) < (n : Int) := by omega
      have HA := Lib.hid (And.intro ha ha2)
      clear ha ha2 hx hx2
      go_wp2_with fail
      go_quiet (fail)
      all_goals
        go_wp2_with fail
        obtain ⟨wq, hwq⟩ : ∃ wq, wr.drewN nq = wq := ⟨_, rfl⟩
        have HQ := Lib.hid (show Below w.heap.size w wq by rw [← hwq]; exact below_drewN HB.out _)
        have hRq : R < wq.heap.size := by rw [← hwq]; exact hR
        have hRq2 : R2 < wq.heap.size := by rw [← hwq]; exact hR2
        have g1 : wq.cell? ⟨R, o + i * 2 + 1, none⟩ = some (.slice A4 n5 c4) := by rw [← hwq]; exact g1
        have q1 : wq.cell? ⟨R2, o2 + i * 2 + 1, none⟩ = some (.slice A5 n5 c5) := by rw [← hwq]; exact q1
        have HAQ := Lib.hid (show ObjsAt wq A4 n5 c4 x.args ∧ ObjsAt wq A5 n5 c5 x.args by rw [← hwq]; exact ⟨HA.out.1.below (below_drewN (Below.refl _ _) _), HA.out.2.below (below_drewN (Below.refl _ _) _)⟩)
        rw [hwq]
        clear hwq
        go_loopw [6] (fun s6 ws => ∃ (j : Nat), j ≤ n5 ∧ s6 = .int .i64 (j : Int) ∧ Hid (Below wq.heap.size wq ws)) (fun s6 _ => n5 - (intOf s6).toNat)
        case atStart => exact ⟨0, by omega, rfl, Lib.hid (Below.refl _ _)⟩
        case round =>
          obtain ⟨j, hj, rfl, HB2⟩ := hrel
          have HBX := Lib.hid (HQ.out.trans (HB2.out.mono HQ.out.size))
          have e1 := (HB2.out.cell (p := ⟨R, o + i * 2 + 1, none⟩) hRq).trans g1
          have e2 := (HB2.out.cell (p := ⟨R2, o2 + i * 2 + 1, none⟩) hRq2).trans q1
          by_cases hlt2 : j < n5
          · have d3 : decide ((j : Int) < (n5 : Int)) = true := decide_eq_true (by omega)
            obtain ⟨R6, o6, y, ds, rfl, hR6, hy, hoy, hc⟩ := ObjsAt.get (ObjsAt.below HAQ.out.1 HB2.out) hlt2
            obtain ⟨R7, o7, y2, ds2, rfl, hR7, hy2, hoy2, hc2⟩ := ObjsAt.get (ObjsAt.below HAQ.out.2 HB2.out) hlt2
            obtain rfl : y = y2 := by rw [hy] at hy2; injection hy2
            have b4 : (0 : Int) ≤ (j : Int) := by omega
            have b5 : (j : Int) < (n5 : Int) := by omega
            have HC := Lib.hid (same15_any y ds ds2 wr.drew (hoy.later (Below.refl _ _).drew) (hoy2.later (Below.refl _ _).drew))
            obtain ⟨k1, x1, m1, s1, t1, A1, n1, c1, A3, n3, c3, r1, keys1, rfl, -⟩ := hoy.nine
            obtain ⟨k8, x8, m8, s8, t8, A8, n8, c8, A9, n9, c9, r8, keys8, rfl, -⟩ := hoy2.nine
            have y0 := hc 0 _ rfl
            have y1 := hc 1 _ rfl
            have y2 := hc 2 _ rfl
            have y3 := hc 3 _ rfl
            have y4 := hc 4 _ rfl
            have y5 := hc 5 _ rfl
            have y6 := hc 6 _ rfl
            have y7 := hc 7 _ rfl
            have z0 := hc2 0 _ rfl
            have z1 := hc2 1 _ rfl
            have z2 := hc2 2 _ rfl
            have z3 := hc2 3 _ rfl
            have z4 := hc2 4 _ rfl
            have z5 := hc2 5 _ rfl
            have z6 := hc2 6 _ rfl
            have z7 := hc2 7 _ rfl
            rw [Nat.add_zero] at y0 z0
            clear hc hc2 hoy hoy2 hy hy2 g0 g1 q0 q1
            go_wp2_with fail
            go_still_tail 16, (by kernel_rfl)
            go_wp2_with fail
            refine HC.out.mono ?_
            rintro e w2 ⟨rfl, hb⟩
            have HB3 := Lib.hid (HB2.out.drew.trans (hb.mono HB2.out.size))
            clear hb y0 y1 y2 y3 y4 y5 y6 y7 z0 z1 z2 z3 z4 z5 z6 z7 e1 e2
            go_wp2_with fail
            go_roundw
            case rel => exact ⟨j + 1, by omega, by go_num, HB3⟩
            case measure => simp [intOf]; omega
          · obtain rfl : j = n5 := by omega
            have d3 : decide ((j : Int) < (j : Int)) = false := by simp
            clear g0 g1 q0 q1
            go_wp2_with fail
            go_roundw
            case rel => exact ⟨i + 1, by omega, by go_num, HBX⟩
            case measure => simp [intOf]; omega
    · obtain rfl : i = n := by omega
      have d1 : decide ((i : Int) < (i : Int)) = false := by simp
      go_wp2_with fail
      go_ret
      exact ⟨rfl, HB.out⟩
end Go.Proofs.Ytdlmhienolmncaa
