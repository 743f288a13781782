/- Marks, fonts: are they few? -/
import Derived.Test.YtdlmhienolmncaaGreatSameO
import Derived.Test.YtdlmhienolmncaaGreatCutU
import Derived.Test.YtdlmhienolmncaaGreatRowA
import Derived.Test.YtdlmhienolmncaaGreatLaidGen
import Derived.Test.YtdlmhienolmncaaGreatCutFn
import Derived.Test.YtdlmhienolmncaaGreatCutRf
import Derived.Test.YtdlmhienolmncaaGreatCutRa
namespace Go.Proofs.YtdlmhienolmncaaGreat
open Go.RowKit Dec

/-- A call that answers a Bool, of which p speaks, and turns nothing that was there. -/
def BoolSaid (p : Bool → Prop) (w : World) (e : Ending) (w' : World) : Prop := ∃ r : Bool, e = .returned (.bool r) ∧ p r ∧ Below w.heap.size w w'
set_option maxRecDepth 100000 in
set_option maxHeartbeats 4000000 in
theorem few21_any (A : Option Addr) (n c : Nat) (l : List Mk) (w : World) (h : MarksAt w A n c l) : Calls Tryz.prog 21 #[.slice A n c] w (BoolSaid (fun r => r = true → n ≤ 60) w) := by
  have hcap := h.row.cap
  have htop := h.row.top
  have HL := Lib.hid h.len
  have H := Lib.hid h
  clear h
  go_enter Tryz.func21, Tryz.ntmps21
  go_wp2_with fail
  by_cases h60 : 60 < n
  · have d0 : decide ((n : Int) ≤ 60) = false := decide_eq_false (by omega)
    have d1 : decide ((0 : Int) < (n : Int)) = true := decide_eq_true (by omega)
    refine wp_loop_rounds 1 ?_
    rw [rounds_succ]
    go_wp2_with fail
    go_ret
    exact ⟨_, rfl, (fun h => by cases h), Below.refl _ _⟩
  have h60' : n ≤ 60 := by omega
  have d60 : decide ((n : Int) ≤ 60) = true := decide_eq_true (by omega)
  go_loopw [3] (fun s4 wr => ∃ (i : Nat), i ≤ n ∧ s4 = .int .i64 (i : Int) ∧ Hid (Below w.heap.size w wr)) (fun s4 _ => n - (intOf s4).toNat)
  case atStart => exact ⟨0, by omega, rfl, Lib.hid (Below.refl _ _)⟩
  case round =>
    obtain ⟨i, hi, rfl, HB⟩ := hrel
    by_cases hlt : i < n
    · have d1 : decide ((i : Int) < (n : Int)) = true := decide_eq_true (by omega)
      obtain ⟨x, hx⟩ : ∃ x, l[i]? = some x := ⟨_, List.getElem?_eq_getElem (by rw [HL.out]; exact hlt)⟩
      obtain ⟨R, o, rfl, hR, hc, hns, ⟨ops, ho⟩, st, hs⟩ := (H.out.below HB.out).get hx
      have g13 : wr.cell? ⟨R, o + i * 25 + 13, none⟩ = some (.string x.name) := hc 13 _ rfl
      have g15 : wr.cell? ⟨R, o + i * 25 + 15, none⟩ = some (.slice x.ops.A x.ops.n x.ops.c) := hc 15 _ rfl
      have g16 : wr.cell? ⟨R, o + i * 25 + 16, none⟩ = some (.slice x.st.A x.st.n x.st.c) := hc 16 _ rfl
      have b2 : (0 : Int) ≤ (i : Int) := by omega
      have b3 : (i : Int) < (n : Int) := by omega
      have HF := Lib.hid (few20_any _ _ _ ops wr ho)
      have HS := Lib.hid hs
      clear hc ho hx hs
      go_wp2_with fail
      refine HF.out.mono ?_
      rintro e w1 ⟨r, rfl, hb⟩
      have HB1 := Lib.hid (HB.out.trans (hb.mono HB.out.size))
      have q13 := (hb.cell (p := ⟨R, o + i * 25 + 13, none⟩) hR).trans g13
      have q16 := (hb.cell (p := ⟨R, o + i * 25 + 16, none⟩) hR).trans g16
      have HG := Lib.hid (few20_any _ _ _ st w1 (HS.out.below hb))
      have hR1 : R < w1.heap.size := Nat.lt_of_lt_of_le hR hb.size
      clear hb g13 g15 g16
      cases r
      · go_wp2_with fail
        go_ret
        exact ⟨_, rfl, (fun h => by cases h), HB1.out⟩
      go_wp2_with fail
      refine HG.out.mono ?_
      rintro e w2 ⟨r, rfl, hb⟩
      have HB2 := Lib.hid (HB1.out.trans (hb.mono HB1.out.size))
      have p13 := (hb.cell (p := ⟨R, o + i * 25 + 13, none⟩) hR1).trans q13
      clear hb q13 q16
      cases r
      · go_wp2_with fail
        go_ret
        exact ⟨_, rfl, (fun h => by cases h), HB2.out⟩
      by_cases hz : 100 < x.name.size
      · have d5 : decide ((x.name.size : Int) > 100) = true := decide_eq_true (by omega)
        go_wp2_with fail
        go_ret
        exact ⟨_, rfl, (fun h => by cases h), HB2.out⟩
      · have d5 : decide ((x.name.size : Int) > 100) = false := decide_eq_false (by omega)
        go_wp2_with fail
        go_roundw
        case rel => exact ⟨i + 1, by omega, by go_num, HB2⟩
        case measure => simp [intOf]; omega
    · obtain rfl : i = n := by omega
      have d1 : decide ((i : Int) < (i : Int)) = false := by simp
      go_wp2_with fail
      go_ret
      exact ⟨_, rfl, fun _ => h60', HB.out⟩
set_option maxRecDepth 100000 in
set_option maxHeartbeats 4000000 in
theorem some21_any (A : Option Addr) (n c : Nat) (l : List Nm) (w : World) (h : NmsAt w A n c l) : Calls Tryz.prog 22 #[.slice A n c] w (BoolSaid (fun r => r = true → n ≤ 10 ∧ ∀ x ∈ l, x.s.n ≤ 60) w) := by
  have hcap := h.row.cap
  have htop := h.row.top
  have HL := Lib.hid h.len
  have H := Lib.hid h
  clear h
  go_enter Tryz.func22, Tryz.ntmps22
  go_wp2_with fail
  by_cases h60 : 10 < n
  · have d0 : decide ((n : Int) ≤ 10) = false := decide_eq_false (by omega)
    have d1 : decide ((0 : Int) < (n : Int)) = true := decide_eq_true (by omega)
    refine wp_loop_rounds 1 ?_
    rw [rounds_succ]
    go_wp2_with fail
    go_ret
    exact ⟨_, rfl, (fun h => by cases h), Below.refl _ _⟩
  have h60' : n ≤ 10 := by omega
  have d60 : decide ((n : Int) ≤ 10) = true := decide_eq_true (by omega)
  go_loopw [3] (fun s4 wr => ∃ (i : Nat), i ≤ n ∧ s4 = .int .i64 (i : Int) ∧ Hid (∀ x ∈ l.take i, x.s.n ≤ 60) ∧ Hid (Below w.heap.size w wr)) (fun s4 _ => n - (intOf s4).toNat)
  case atStart => exact ⟨0, by omega, rfl, Lib.hid (fun x hx => by simp at hx), Lib.hid (Below.refl _ _)⟩
  case round =>
    obtain ⟨i, hi, rfl, HI, HB⟩ := hrel
    by_cases hlt : i < n
    · have d1 : decide ((i : Int) < (n : Int)) = true := decide_eq_true (by omega)
      obtain ⟨x, hx⟩ : ∃ x, l[i]? = some x := ⟨_, List.getElem?_eq_getElem (by rw [HL.out]; exact hlt)⟩
      obtain ⟨R, o, rfl, hR, ⟨g0, g1, g2, g3⟩, hns, hgl⟩ := (H.out.below HB.out).get hx
      have hgc := hgl.cap
      have hgt := hgl.top
      have b2 : (0 : Int) ≤ (i : Int) := by omega
      have b3 : (i : Int) < (n : Int) := by omega
      have HX := Lib.hid hx
      clear hx hgl
      by_cases hg : 60 < x.s.n
      · have d4 : decide ((x.s.n : Int) > 60) = true := decide_eq_true (by omega)
        go_wp2_with fail
        go_ret
        exact ⟨_, rfl, (fun h => by cases h), HB.out⟩
      have d4 : decide ((x.s.n : Int) > 60) = false := decide_eq_false (by omega)
      by_cases hz : 100 < x.name.size
      · have d5 : decide ((x.name.size : Int) > 100) = true := decide_eq_true (by omega)
        go_wp2_with fail
        go_ret
        exact ⟨_, rfl, (fun h => by cases h), HB.out⟩
      · have d5 : decide ((x.name.size : Int) > 100) = false := decide_eq_false (by omega)
        have HJ := Lib.hid (show ∀ y ∈ l.take (i + 1), y.s.n ≤ 60 from fun y hy => by
          rw [List.take_add_one, HX.out, Option.toList_some] at hy
          rcases List.mem_append.1 hy with hy | hy
          · exact HI.out y hy
          · simp at hy; subst hy; omega)
        go_wp2_with fail
        go_roundw
        case rel => exact ⟨i + 1, by omega, by go_num, HJ, HB⟩
        case measure => simp [intOf]; omega
    · obtain rfl : i = n := by omega
      have d1 : decide ((i : Int) < (i : Int)) = false := by simp
      have HJ := HI
      rw [List.take_of_length_le (by rw [HL.out]; exact Nat.le_refl _)] at HJ
      go_wp2_with fail
      go_ret
      exact ⟨_, rfl, fun _ => ⟨h60', HJ.out⟩, HB.out⟩
set_option maxRecDepth 100000 in
set_option maxHeartbeats 4000000 in
theorem few23_any (A : Option Addr) (n c : Nat) (l : List Mk) (A2 : Option Addr) (n2 c2 : Nat) (rs : List BV) (A3 : Option Addr) (n3 c3 : Nat) (fs : List Nm) (w : World) (h : MarksAt w A n c l) (h2 : BxsAt w A2 n2 c2 rs) (h3 : NmsAt w A3 n3 c3 fs) :
    Calls Tryz.prog 5 #[.slice A n c, .slice A2 n2 c2, .slice A3 n3 c3] w (BoolSaid (fun r => r = true → n ≤ 60 ∧ n2 ≤ 20 ∧ n3 ≤ 10 ∧ ∀ x ∈ fs, x.s.n ≤ 60) w) := by
  have hcap2 := RowAt.cap h2
  have htop2 := RowAt.top h2
  have HF := Lib.hid (few21_any A n c l w h)
  have HS := Lib.hid (fun w' (hb : Below w.heap.size w w') => some21_any A3 n3 c3 fs w' (h3.below hb))
  clear h h2 h3
  go_enter Tryz.func5, Tryz.ntmps5
  go_wp2_with fail
  refine HF.out.mono ?_
  rintro e w1 ⟨r, rfl, hr, hb⟩
  have HB1 := Lib.hid hb
  have HP := Lib.hid hr
  clear hb hr
  cases r
  · go_wp2_with fail
    go_ret
    exact ⟨_, rfl, (fun h => by cases h), HB1.out⟩
  by_cases h20 : n2 ≤ 20
  · have d2 : decide ((n2 : Int) ≤ 20) = true := decide_eq_true (by omega)
    go_wp2_with fail
    refine (HS.out _ HB1.out).mono ?_
    rintro e w2 ⟨r, rfl, hr, hb⟩
    have HB2 := Lib.hid (HB1.out.trans (hb.mono HB1.out.size))
    have HQ := Lib.hid hr
    clear hb hr
    go_wp2_with fail
    go_ret
    refine ⟨r, by cases r <;> rfl, (fun hr => ⟨HP.out (by first | trivial | rfl), h20, HQ.out hr⟩), HB2.out⟩
  · have d2 : decide ((n2 : Int) ≤ 20) = false := decide_eq_false (by omega)
    go_wp2_with fail
    go_ret
    exact ⟨_, rfl, (fun h => by cases h), HB1.out⟩
end Go.Proofs.YtdlmhienolmncaaGreat
/- cut: CutTwice, walked. -/
namespace Go.Proofs.YtdlmhienolmncaaGreat
open Go.RowKit Dec

theorem bxV_one (l : List BV) : ∀ cs ∈ l.map bxV, ∀ u ∈ cs, u.oneCell' = true := by
  intro cs hcs u hu
  obtain ⟨b, -, rfl⟩ := List.mem_map.1 hcs
  simp [bxV] at hu
  rcases hu with rfl | rfl | rfl | rfl | rfl | rfl | rfl | rfl <;> rfl
theorem nms_nil (w : World) : NmsAt w none 0 0 [] := ⟨RowAt.none _ _, fun x hx => by simp at hx⟩
theorem MarksAt.len_eq {w : World} {A : Option Addr} {n c : Nat} {l : List Mk} (h : MarksAt w A n c l) : n = l.length := h.len.symm
theorem cutE_two (l : List Mk) (rs : List BV) : cutE l rs = 0 ∨ cutE l rs = 1 := by
  unfold cutE
  split
  · exact .inl rfl
  · exact .inr rfl
end Go.Proofs.YtdlmhienolmncaaGreat

/- cut: two rows of fonts that are the same; CutSame, walked. -/
namespace Go.Proofs.YtdlmhienolmncaaGreat
open Go.RowKit Dec

theorem key_get {l l2 : List Nm} (h : l2.map keyN = l.map keyN) {i : Nat} {x : Nm} (hx : l[i]? = some x) : ∃ s, l2[i]? = some ⟨x.name, x.wd, s, x.ot, x.gs⟩ := by
  have e : (l2.map keyN)[i]? = (l.map keyN)[i]? := by rw [h]
  rw [List.getElem?_map, List.getElem?_map, hx] at e
  cases hy : l2[i]? with
  | none => rw [hy] at e; cases e
  | some y =>
    rw [hy] at e
    injection e with e
    obtain ⟨yn, yw, ys, yo, yg⟩ := y
    unfold keyN at e
    injection e with e1 e
    injection e with e2 e
    injection e with e3 e4
    exact ⟨ys, by rw [show yn = x.name from e1, show yw = x.wd from e2, show yo = x.ot from e3, show yg = x.gs from e4]⟩
set_option maxRecDepth 100000 in
set_option maxHeartbeats 8000000 in
theorem same23_any (A : Option Addr) (n c : Nat) (l : List Nm) (A2 : Option Addr) (c2 : Nat) (l2 : List Nm) (w : World) (h : NmsAt w A n c l) (h2 : NmsAt w A2 n c2 l2) (he : l2.map keyN = l.map keyN) (h60 : ∀ f ∈ l, f.s.n ≤ 1000000) :
    Calls Tryz.prog 15 #[.slice A n c, .slice A2 n c2] w (BoolTrue w) := by
  have hcap := h.row.cap
  have htop := h.row.top
  have hcap2 := h2.row.cap
  have htop2 := h2.row.top
  have HL := Lib.hid h.len
  have H := Lib.hid (And.intro h h2)
  have HE := Lib.hid he
  have H60 := Lib.hid h60
  clear h h2 he h60
  go_enter Tryz.func15, Tryz.ntmps15
  go_wp2_with fail
  go_loopw [5] (fun s5 wr => ∃ (i : Nat), i ≤ n ∧ s5 = .int .i64 (i : Int) ∧ Hid (Below w.heap.size w wr)) (fun s5 _ => n - (intOf s5).toNat)
  case atStart => exact ⟨0, by omega, rfl, Lib.hid (Below.refl _ _)⟩
  case round =>
    obtain ⟨i, hi, rfl, HB⟩ := hrel
    by_cases hlt : i < n
    · have d1 : decide ((i : Int) < (n : Int)) = true := decide_eq_true (by omega)
      obtain ⟨x, hx⟩ : ∃ x, l[i]? = some x := ⟨_, List.getElem?_eq_getElem (by rw [HL.out]; exact hlt)⟩
      obtain ⟨s, hy⟩ := key_get HE.out hx
      obtain ⟨R, o, rfl, hR, ⟨q0, q1, q2, q3⟩, hk⟩ := (H.out.1.below HB.out).get hx
      obtain ⟨R2, o2, rfl, hR2, ⟨z0, z1, z2, z3⟩, hk2⟩ := (H.out.2.below HB.out).get hy
      have hsn : s.n = x.s.n := by
        have e1 := hk.2.len
        have e2 : x.gs.length = s.n := hk2.2.len
        omega
      have hg2 : Glyphs wr s.A x.s.n s.c x.gs := by
        have := hk2.2
        rw [← hsn]
        exact this
      have z2' : wr.cell? ⟨R2, o2 + i * 4 + 2, none⟩ = some (.slice s.A x.s.n s.c) := by rw [← hsn]; exact z2
      have HC := Lib.hid (same19 x.wd x.s.A x.s.n x.s.c s.A s.c x.ot x.gs wr.drew (hk.2.below (Below.refl _ _).drew) (hg2.below (Below.refl _ _).drew) (H60.out x (List.mem_of_getElem? hx)))
      have g1 : (0 : Int) ≤ (i : Int) := by omega
      have g2 : (i : Int) < (n : Int) := by omega
      have hse := str_eq (a := x.name) (b := x.name) rfl
      clear hx hy hk hk2 hg2 z2 hsn
      go_upto_region 6 with fail
      have HCC : Hid (∀ v, Below wr.heap.size wr v → (fun v => (v.cell? ⟨R, o + i * 4, none⟩ = some (.string x.name) ∧ v.cell? ⟨R, o + i * 4 + 1, none⟩ = some (.bool x.wd) ∧ v.cell? ⟨R, o + i * 4 + 2, none⟩ = some (.slice x.s.A x.s.n x.s.c) ∧ v.cell? ⟨R, o + i * 4 + 3, none⟩ = some (.int .i64 x.ot)) ∧ (v.cell? ⟨R2, o2 + i * 4, none⟩ = some (.string x.name) ∧ v.cell? ⟨R2, o2 + i * 4 + 1, none⟩ = some (.bool x.wd) ∧ v.cell? ⟨R2, o2 + i * 4 + 2, none⟩ = some (.slice s.A x.s.n s.c) ∧ v.cell? ⟨R2, o2 + i * 4 + 3, none⟩ = some (.int .i64 x.ot)) ∧ Below wr.heap.size wr v) v) := Lib.hid (fun v hb => ⟨⟨(hb.cell hR).trans q0, (hb.cell hR).trans q1, (hb.cell hR).trans q2, (hb.cell hR).trans q3⟩, ⟨(hb.cell hR2).trans z0, (hb.cell hR2).trans z1, (hb.cell hR2).trans z2', (hb.cell hR2).trans z3⟩, hb⟩)
      have hS := HCC.out wr.drew ((Below.refl wr.heap.size wr).drew)
      refine wp_region_C (fun v => (v.cell? ⟨R, o + i * 4, none⟩ = some (.string x.name) ∧ v.cell? ⟨R, o + i * 4 + 1, none⟩ = some (.bool x.wd) ∧ v.cell? ⟨R, o + i * 4 + 2, none⟩ = some (.slice x.s.A x.s.n x.s.c) ∧ v.cell? ⟨R, o + i * 4 + 3, none⟩ = some (.int .i64 x.ot)) ∧ (v.cell? ⟨R2, o2 + i * 4, none⟩ = some (.string x.name) ∧ v.cell? ⟨R2, o2 + i * 4 + 1, none⟩ = some (.bool x.wd) ∧ v.cell? ⟨R2, o2 + i * 4 + 2, none⟩ = some (.slice s.A x.s.n s.c) ∧ v.cell? ⟨R2, o2 + i * 4 + 3, none⟩ = some (.int .i64 x.ot)) ∧ Below wr.heap.size wr v) (by kernel_rfl) ?_
      refine wpAnyC_take (i := 0) (v := ?v1) rfl (by kernel_rfl) (fun _ _ _ h => h) (Or.inl ⟨by rfl, ?y1⟩) hS ?r1
      case y1 => intro wq _; go_simp; all_goals (first | with_reducible rfl | go_num | (simp; done) | (simp; omega) | skip)
      try simp only [Act.put, List.setIfInBounds_toArray, List.set_cons_zero, List.set_cons_succ]
      refine wpAnyC_take (i := 1) (v := ?v2) rfl (by kernel_rfl) (fun _ _ _ h => h) (Or.inl ⟨by rfl, ?y2⟩) hS ?r2
      case y2 => intro wq _; go_simp; all_goals (first | with_reducible rfl | go_num | (simp; done) | (simp; omega) | skip)
      try simp only [Act.put, List.setIfInBounds_toArray, List.set_cons_zero, List.set_cons_succ]
      refine wpAnyC_take (i := 2) (v := .pointer (some ⟨R, o + i * 4, none⟩)) rfl (by kernel_rfl) (fun _ _ _ h => h) (Or.inl ⟨by rfl, ?y3⟩) hS ?r3
      case y3 => intro wq _; go_simp; all_goals (first | with_reducible rfl | go_num | (simp; done) | (simp; omega) | skip)
      try simp only [Act.put, List.setIfInBounds_toArray, List.set_cons_zero, List.set_cons_succ]
      refine wpAnyC_take (i := 3) (v := .pointer (some ⟨R, o + i * 4, none⟩)) rfl (by kernel_rfl) (fun _ _ _ h => h) (Or.inl ⟨by rfl, ?y4⟩) hS ?r4
      case y4 => intro wq _; go_simp; all_goals (first | with_reducible rfl | go_num | (simp; done) | (simp; omega) | skip)
      try simp only [Act.put, List.setIfInBounds_toArray, List.set_cons_zero, List.set_cons_succ]
      refine wpAnyC_take (i := 4) (v := .string x.name) rfl (by kernel_rfl) (fun _ _ _ h => h) (Or.inl ⟨by rfl, ?y5⟩) hS ?r5
      case y5 => rintro wq ⟨⟨c0, c1, c2, c3⟩, -, -⟩; go_simp; try with_reducible rfl
      try simp only [Act.put, List.setIfInBounds_toArray, List.set_cons_zero, List.set_cons_succ]
      refine wpAnyC_take (i := 5) (v := ?v6) rfl (by kernel_rfl) (fun _ _ _ h => h) (Or.inl ⟨by rfl, ?y6⟩) hS ?r6
      case y6 => intro wq _; go_simp; all_goals (first | with_reducible rfl | go_num | (simp; done) | (simp; omega) | skip)
      try simp only [Act.put, List.setIfInBounds_toArray, List.set_cons_zero, List.set_cons_succ]
      refine wpAnyC_take (i := 6) (v := ?v7) rfl (by kernel_rfl) (fun _ _ _ h => h) (Or.inl ⟨by rfl, ?y7⟩) hS ?r7
      case y7 => intro wq _; go_simp; all_goals (first | with_reducible rfl | go_num | (simp; done) | (simp; omega) | skip)
      try simp only [Act.put, List.setIfInBounds_toArray, List.set_cons_zero, List.set_cons_succ]
      refine wpAnyC_take (i := 7) (v := .pointer (some ⟨R2, o2 + i * 4, none⟩)) rfl (by kernel_rfl) (fun _ _ _ h => h) (Or.inl ⟨by rfl, ?y8⟩) hS ?r8
      case y8 => intro wq _; go_simp; all_goals (first | with_reducible rfl | go_num | (simp; done) | (simp; omega) | skip)
      try simp only [Act.put, List.setIfInBounds_toArray, List.set_cons_zero, List.set_cons_succ]
      refine wpAnyC_take (i := 8) (v := .pointer (some ⟨R2, o2 + i * 4, none⟩)) rfl (by kernel_rfl) (fun _ _ _ h => h) (Or.inl ⟨by rfl, ?y9⟩) hS ?r9
      case y9 => intro wq _; go_simp; all_goals (first | with_reducible rfl | go_num | (simp; done) | (simp; omega) | skip)
      try simp only [Act.put, List.setIfInBounds_toArray, List.set_cons_zero, List.set_cons_succ]
      refine wpAnyC_take (i := 9) (v := .string x.name) rfl (by kernel_rfl) (fun _ _ _ h => h) (Or.inl ⟨by rfl, ?y10⟩) hS ?r10
      case y10 => rintro wq ⟨-, ⟨c0, c1, c2, c3⟩, -⟩; go_simp; try with_reducible rfl
      try simp only [Act.put, List.setIfInBounds_toArray, List.set_cons_zero, List.set_cons_succ]
      refine wpAnyC_take (i := 10) (v := .bool false) rfl (by kernel_rfl) (fun _ _ _ h => h) (Or.inl ⟨by rfl, ?y11⟩) hS ?r11
      case y11 => intro wq _; go_simp; all_goals (first | with_reducible rfl | go_num | (simp; done) | (simp; omega) | skip)
      try simp only [Act.put, List.setIfInBounds_toArray, List.set_cons_zero, List.set_cons_succ]
      refine wpAnyC_take (i := 11) (v := .bool false) rfl (by kernel_rfl) (fun _ _ _ h => h) (Or.inl ⟨by rfl, ?y12⟩) hS ?r12
      case y12 => intro wq _; go_simp; all_goals (first | with_reducible rfl | go_num | (simp; done) | (simp; omega) | skip)
      try simp only [Act.put, List.setIfInBounds_toArray, List.set_cons_zero, List.set_cons_succ]
      refine wpAnyC_take (i := 12) (v := ?v13) rfl (by kernel_rfl) (fun _ _ _ h => h) (Or.inl ⟨by rfl, ?y13⟩) hS ?r13
      case y13 => intro wq _; go_simp; all_goals (first | with_reducible rfl | go_num | (simp; done) | (simp; omega) | skip)
      try simp only [Act.put, List.setIfInBounds_toArray, List.set_cons_zero, List.set_cons_succ]
      refine wpAnyC_take (i := 13) (v := ?v14) rfl (by kernel_rfl) (fun _ _ _ h => h) (Or.inl ⟨by rfl, ?y14⟩) hS ?r14
      case y14 => intro wq _; go_simp; all_goals (first | with_reducible rfl | go_num | (simp; done) | (simp; omega) | skip)
      try simp only [Act.put, List.setIfInBounds_toArray, List.set_cons_zero, List.set_cons_succ]
      refine wpAnyC_take (i := 14) (v := .pointer (some ⟨R, o + i * 4, none⟩)) rfl (by kernel_rfl) (fun _ _ _ h => h) (Or.inl ⟨by rfl, ?y15⟩) hS ?r15
      case y15 => intro wq _; go_simp; all_goals (first | with_reducible rfl | go_num | (simp; done) | (simp; omega) | skip)
      try simp only [Act.put, List.setIfInBounds_toArray, List.set_cons_zero, List.set_cons_succ]
      refine wpAnyC_take (i := 15) (v := .pointer (some ⟨R, o + i * 4 + 1, none⟩)) rfl (by kernel_rfl) (fun _ _ _ h => h) (Or.inl ⟨by rfl, ?y16⟩) hS ?r16
      case y16 => intro wq _; go_simp; all_goals (first | with_reducible rfl | go_num | (simp; done) | (simp; omega) | skip)
      try simp only [Act.put, List.setIfInBounds_toArray, List.set_cons_zero, List.set_cons_succ]
      refine wpAnyC_take (i := 16) (v := .agg #[.bool x.wd, .slice x.s.A x.s.n x.s.c, .int .i64 x.ot]) rfl (by kernel_rfl) (fun _ _ _ h => h) (Or.inl ⟨by rfl, ?y17⟩) hS ?r17
      case y17 => rintro wq ⟨⟨c0, c1, c2, c3⟩, -, -⟩; go_simp; try with_reducible rfl
      try simp only [Act.put, List.setIfInBounds_toArray, List.set_cons_zero, List.set_cons_succ]
      refine wpAnyC_take (i := 17) (v := ?v18) rfl (by kernel_rfl) (fun _ _ _ h => h) (Or.inl ⟨by rfl, ?y18⟩) hS ?r18
      case y18 => intro wq _; go_simp; all_goals (first | with_reducible rfl | go_num | (simp; done) | (simp; omega) | skip)
      try simp only [Act.put, List.setIfInBounds_toArray, List.set_cons_zero, List.set_cons_succ]
      refine wpAnyC_take (i := 18) (v := ?v19) rfl (by kernel_rfl) (fun _ _ _ h => h) (Or.inl ⟨by rfl, ?y19⟩) hS ?r19
      case y19 => intro wq _; go_simp; all_goals (first | with_reducible rfl | go_num | (simp; done) | (simp; omega) | skip)
      try simp only [Act.put, List.setIfInBounds_toArray, List.set_cons_zero, List.set_cons_succ]
      refine wpAnyC_take (i := 19) (v := .pointer (some ⟨R2, o2 + i * 4, none⟩)) rfl (by kernel_rfl) (fun _ _ _ h => h) (Or.inl ⟨by rfl, ?y20⟩) hS ?r20
      case y20 => intro wq _; go_simp; all_goals (first | with_reducible rfl | go_num | (simp; done) | (simp; omega) | skip)
      try simp only [Act.put, List.setIfInBounds_toArray, List.set_cons_zero, List.set_cons_succ]
      refine wpAnyC_take (i := 20) (v := .pointer (some ⟨R2, o2 + i * 4 + 1, none⟩)) rfl (by kernel_rfl) (fun _ _ _ h => h) (Or.inl ⟨by rfl, ?y21⟩) hS ?r21
      case y21 => intro wq _; go_simp; all_goals (first | with_reducible rfl | go_num | (simp; done) | (simp; omega) | skip)
      try simp only [Act.put, List.setIfInBounds_toArray, List.set_cons_zero, List.set_cons_succ]
      refine wpAnyC_take (i := 21) (v := .agg #[.bool x.wd, .slice s.A x.s.n s.c, .int .i64 x.ot]) rfl (by kernel_rfl) (fun _ _ _ h => h) (Or.inl ⟨by rfl, ?y22⟩) hS ?r22
      case y22 => rintro wq ⟨-, ⟨c0, c1, c2, c3⟩, -⟩; go_simp; try with_reducible rfl
      try simp only [Act.put, List.setIfInBounds_toArray, List.set_cons_zero, List.set_cons_succ]
      refine wpAnyC_one (j := 22) (by kernel_rfl) rfl (fun K hK => ?_)
      go_simp
      go_at_call 39
      refine HC.out.mono ?_
      rintro e v2 ⟨rfl, kk⟩
      have hb2 : Below wr.heap.size wr v2 := ((Below.refl wr.heap.size wr).drew).trans (kk.mono ((Below.refl wr.heap.size wr).drew).size)
      clear kk
      have hS := HCC.out v2 hb2
      go_wp2_with fail
      refine hK.out _ _ ⟨hS, ?_⟩
      clear hK K
      try simp only [Act.put, List.setIfInBounds_toArray, List.set_cons_zero, List.set_cons_succ]
      refine wpAnyC_take (i := 23) (v := .bool false) rfl (by kernel_rfl) (fun _ _ _ h => h) (Or.inl ⟨by rfl, ?y23⟩) hS ?r23
      case y23 => intro wq _; go_simp; all_goals (first | with_reducible rfl | go_num | (simp; done) | (simp; omega) | skip)
      try simp only [Act.put, List.setIfInBounds_toArray, List.set_cons_zero, List.set_cons_succ]
      refine wpAnyC_take (i := 24) (v := .bool false) rfl (by kernel_rfl) (fun _ _ _ h => h) (Or.inl ⟨by rfl, ?y24⟩) hS ?r24
      case y24 => intro wq _; go_simp; all_goals (first | with_reducible rfl | go_num | (simp; done) | (simp; omega) | skip)
      try simp only [Act.put, List.setIfInBounds_toArray, List.set_cons_zero, List.set_cons_succ]
      refine wpAnyC_done (by kernel_rfl) ?_ _
      clear hS HCC
      have HB3 := Lib.hid (HB.out.trans (hb2.mono HB.out.size))
      clear hb2 q0 q1 q2 q3 z0 z1 z2' z3
      go_wp2_with fail
      go_roundw
      case rel => exact ⟨i + 1, by omega, by go_num, HB3⟩
      case measure => simp [intOf]; omega
    · obtain rfl : i = n := by omega
      have d1 : decide ((i : Int) < (i : Int)) = false := by simp
      go_wp2_with fail
      go_ret
      exact ⟨rfl, HB.out⟩
end Go.Proofs.YtdlmhienolmncaaGreat

/- cut: CutLeaves, walked. -/
namespace Go.Proofs.YtdlmhienolmncaaGreat
open Go.RowKit Dec

set_option maxRecDepth 100000 in
set_option maxHeartbeats 8000000 in
theorem leaves_law (A : Option Addr) (n c : Nat) (l : List Mk) (A1 : Option Addr) (n1 c1 : Nat) (rs : List BV) (A2 : Option Addr) (n2 c2 : Nat) (fs : List Nm) (t : ByteArray) (w : World) (h : MarksAt w A n c l) (h1 : BxsAt w A1 n1 c1 rs) (h2 : NmsAt w A2 n2 c2 fs) (hM : MX w) :
    Calls Tryz.prog 3 #[.slice A n c, .slice A1 n1 c1, .slice A2 n2 c2, .string t] w (True_ w) := by
  have H0 := Lib.hid (And.intro h (And.intro h1 h2))
  have HMX := Lib.hid hM
  have HF := Lib.hid (few23_any A n c l A1 n1 c1 rs A2 n2 c2 fs w h h1 h2)
  have HL := Lib.hid h.len
  clear h h1 h2 hM
  go_enter Tryz.func3, Tryz.ntmps3
  go_wp2_with fail
  refine HF.out.mono ?_
  rintro e w1 ⟨r, rfl, hr, hb⟩
  have HB1 := Lib.hid hb
  have HP := Lib.hid hr
  clear hb hr HF
  cases r
  · go_wp2_with fail
    go_ret
    exact ⟨rfl, HB1.out⟩
  obtain ⟨b60, b20, b10, bs⟩ := HP.out rfl
  have HS60 := Lib.hid (show ∀ f ∈ fs, f.s.n ≤ 1000000 from fun f hf => Nat.le_trans (bs f hf) (by omega))
  clear bs HP
  by_cases h300 : 300 < t.size
  · have d2 : decide ((t.size : Int) > 300) = true := decide_eq_true (by omega)
    go_wp2_with fail
    go_ret
    exact ⟨rfl, HB1.out⟩
  have d2 : decide ((t.size : Int) > 300) = false := decide_eq_false (by omega)
  have H1 := Lib.hid (And.intro (H0.out.1.below HB1.out) (And.intro (H0.out.2.1.below HB1.out) (H0.out.2.2.below HB1.out)))
  obtain ⟨a, ha⟩ : ∃ a, cutL l rs = a := ⟨_, rfl⟩
  obtain ⟨e1, he1⟩ : ∃ e, cutE l rs = e := ⟨_, rfl⟩
  have HCa := Lib.hid (cutM_any l rs A n c A1 n1 c1 w1 H1.out.1 (by omega) H1.out.2.1 (by omega))
  unfold CutSaidM at HCa
  rw [ha, he1] at HCa
  go_wp2_with fail
  refine HCa.out.mono ?_
  rintro e w2 ⟨Aa, ca, rfl, hma, hb⟩
  have H2 := Lib.hid (And.intro (H1.out.1.below hb) (And.intro (H1.out.2.1.below hb) (And.intro (H1.out.2.2.below hb) (And.intro hma (HB1.out.trans (hb.mono HB1.out.size))))))
  clear hb hma H1 HB1 HCa
  have HCb := Lib.hid (rcut23_any l rs A n c A1 n1 c1 w2 H2.out.1 (by omega) H2.out.2.1 (by omega))
  unfold CutSaidM at HCb
  rw [ha, he1] at HCb
  clear ha he1
  go_wp2_with fail
  refine HCb.out.mono ?_
  rintro e w3 ⟨Ab, cb, rfl, hmb, hb⟩
  have H3 := Lib.hid (And.intro (H2.out.1.below hb) (And.intro (H2.out.2.2.1.below hb) (And.intro (H2.out.2.2.2.1.below hb) (And.intro hmb (H2.out.2.2.2.2.trans (hb.mono H2.out.2.2.2.2.size))))))
  clear hb hmb H2 HCb
  obtain ⟨e2, he2⟩ : ∃ e, knownE fs l = e := ⟨_, rfl⟩
  have HC1 := Lib.hid (fontsC_any A2 n2 c2 fs A n c l w3 H3.out.2.1 (by omega) HS60.out H3.out.1 (by omega))
  unfold FontsSaid at HC1
  rw [he2] at HC1
  go_wp2_with fail
  refine HC1.out.mono ?_
  rintro e w4 ⟨Ac, nc, cc, fc, rfl, hnc, hfc, hb, hic⟩
  have H4 := Lib.hid (And.intro (H3.out.1.below hb) (And.intro (H3.out.2.1.below hb) (And.intro (H3.out.2.2.1.below hb) (And.intro (H3.out.2.2.2.1.below hb) (And.intro hnc (H3.out.2.2.2.2.trans (hb.mono H3.out.2.2.2.2.size)))))))
  have HC60 := Lib.hid hfc
  have HIC := Lib.hid hic
  clear hb hnc hfc hic H3 HC1
  have HC2 := Lib.hid (rfonts23_any A2 n2 c2 fs A n c l w4 H4.out.2.1 (by omega) HS60.out H4.out.1 (by omega))
  unfold FontsSaid at HC2
  rw [he2] at HC2
  clear he2
  go_wp2_with fail
  refine HC2.out.mono ?_
  rintro e w5 ⟨Ad, nd, cd, fd, rfl, hnd, -, hb, hid⟩
  have hkey : fd.map keyN = fc.map keyN := by
    have h1 := HIC.out
    split at h1
    · rename_i hk
      rw [if_pos hk] at hid
      rw [h1, hid]
    · rename_i hk
      rw [if_neg hk] at hid
      rw [h1, hid]
  obtain rfl : nd = nc := by
    have e1 := congrArg List.length hkey
    rw [List.length_map, List.length_map] at e1
    have e2 := hnd.len
    have e3 := H4.out.2.2.2.2.1.len
    omega
  have HKE := Lib.hid hkey
  have H5 := Lib.hid (And.intro (H4.out.1.below hb) (And.intro (H4.out.2.2.1.below hb) (And.intro (H4.out.2.2.2.1.below hb) (And.intro (H4.out.2.2.2.2.1.below hb) (And.intro hnd (H4.out.2.2.2.2.2.trans (hb.mono H4.out.2.2.2.2.2.size)))))))
  clear hb hnd hid hkey H4 HC2 HIC
  have p2 : (e1 == e1) = true := by simp
  have p3 : (e2 == e2) = true := by simp
  go_wp2_with fail
  refine (awake23 _ (HMX.out.later H5.out.2.2.2.2.2)).mono ?_
  rintro e w6 ⟨rfl, hb⟩
  have H6 := Lib.hid (And.intro (H5.out.1.below hb) (And.intro (H5.out.2.1.below hb) (And.intro (H5.out.2.2.1.below hb) (And.intro (H5.out.2.2.2.1.below hb) (And.intro (H5.out.2.2.2.2.1.below hb) (H5.out.2.2.2.2.2.trans (hb.mono H5.out.2.2.2.2.2.size)))))))
  clear hb H5
  go_wp2_with fail
  refine (same21_any _ _ _ _ _ _ _ H6.out.2.1 H6.out.2.2.1).mono ?_
  rintro e w7 ⟨rfl, hb⟩
  have H7 := Lib.hid (And.intro (H6.out.1.below hb) (And.intro (H6.out.2.2.2.1.below hb) (And.intro (H6.out.2.2.2.2.1.below hb) (H6.out.2.2.2.2.2.trans (hb.mono H6.out.2.2.2.2.2.size)))))
  clear hb H6
  obtain ⟨U, hU⟩ : ∃ U, usedS l t = U := ⟨_, rfl⟩
  have HU1 := Lib.hid (used_any A n c l t w7 H7.out.1 (by omega))
  have husm : U.length ≤ 1000000 := by rw [← hU]; exact Nat.le_trans (sdl_len _) (Nat.le_trans (usedL_len _ _) (by rw [HL.out]; omega))
  rw [hU] at HU1
  go_wp2_with fail
  refine HU1.out.mono ?_
  rintro e w8 ⟨Au, cu, rfl, hiu, hb⟩
  have H8 := Lib.hid (And.intro (H7.out.1.below hb) (And.intro (H7.out.2.1.below hb) (And.intro (H7.out.2.2.1.below hb) (And.intro hiu (H7.out.2.2.2.trans (hb.mono H7.out.2.2.2.size))))))
  clear hb hiu H7 HU1
  have HU2 := Lib.hid (rused_any A n c l t w8 H8.out.1 (by omega))
  rw [hU] at HU2
  clear hU
  go_wp2_with fail
  refine HU2.out.mono ?_
  rintro e w9 ⟨Av, cv, rfl, hiv, hb⟩
  have H9 := Lib.hid (And.intro (H8.out.2.1.below hb) (And.intro (H8.out.2.2.1.below hb) (And.intro (H8.out.2.2.2.1.below hb) (And.intro hiv (H8.out.2.2.2.2.trans (hb.mono H8.out.2.2.2.2.size))))))
  clear hb hiv H8 HU2
  go_wp2_with fail
  refine (ints_same _ _ _ _ _ _ _ _ H9.out.2.2.1 H9.out.2.2.2.1).mono ?_
  rintro e w10 ⟨rfl, j, rfl⟩
  have hb : Below w9.heap.size w9 (w9.drewN j) := below_drewN (Below.refl _ _) _
  have H10 := Lib.hid (And.intro (H9.out.1.below hb) (And.intro (H9.out.2.1.below hb) (H9.out.2.2.2.2.trans (hb.mono H9.out.2.2.2.2.size))))
  clear hb H9
  go_wp2_with fail
  refine (same23_any _ _ _ _ _ _ _ _ H10.out.1 H10.out.2.1 HKE.out HC60.out).mono ?_
  rintro e w11 ⟨rfl, hb⟩
  have H11 := Lib.hid (H10.out.2.2.trans (hb.mono H10.out.2.2.size))
  clear hb H10
  go_wp2_with fail
  go_ret
  exact ⟨rfl, H11.out⟩
end Go.Proofs.YtdlmhienolmncaaGreat
