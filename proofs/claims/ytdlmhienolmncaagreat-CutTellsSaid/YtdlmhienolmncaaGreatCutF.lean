/- Marks, fonts: are they few? -/
import Derived.Test.YtdlmhienolmncaaGreatSameO
import Derived.Test.YtdlmhienolmncaaGreatCutU
import Derived.Test.YtdlmhienolmncaaGreatRowA
import Derived.Test.YtdlmhienolmncaaGreatLaidGen
namespace Go.Proofs.YtdlmhienolmncaaGreat
open Go.RowKit Dec

/-- A call that answers a Bool, of which p speaks, and turns nothing that was there. -/
def BoolSaid (p : Bool → Prop) (w : World) (e : Ending) (w' : World) : Prop := ∃ r : Bool, e = .returned (.bool r) ∧ p r ∧ Below w.heap.size w w'
set_option maxRecDepth 100000 in
set_option maxHeartbeats 4000000 in
theorem few21_any (A : Option Addr) (n c : Nat) (l : List Mk) (w : World) (h : MarksAt w A n c l) : Calls Tryz.prog 21 #[.slice A n c] w (BoolSaid (fun r => r = true → n ≤ 60) w) := by
  have hcap := h.row.cap
  have htop := h.row.top
  have HL := Lib.hid h.len
  have H := Lib.hid h
  clear h
  go_enter Tryz.func21, Tryz.ntmps21
  go_wp2_with fail
  by_cases h60 : 60 < n
  · have d0 : decide ((n : Int) ≤ 60) = false := decide_eq_false (by omega)
    have d1 : decide ((0 : Int) < (n : Int)) = true := decide_eq_true (by omega)
    refine wp_loop_rounds 1 ?_
    rw [rounds_succ]
    go_wp2_with fail
    go_ret
    exact ⟨_, rfl, (fun h => by cases h), Below.refl _ _⟩
  have h60' : n ≤ 60 := by omega
  have d60 : decide ((n : Int) ≤ 60) = true := decide_eq_true (by omega)
  go_loopw [3] (fun s4 wr => ∃ (i : Nat), i ≤ n ∧ s4 = .int .i64 (i : Int) ∧ Hid (Below w.heap.size w wr)) (fun s4 _ => n - (intOf s4).toNat)
  case atStart => exact ⟨0, by omega, rfl, Lib.hid (Below.refl _ _)⟩
  case round =>
    obtain ⟨i, hi, rfl, HB⟩ := hrel
    by_cases hlt : i < n
    · have d1 : decide ((i : Int) < (n : Int)) = true := decide_eq_true (by omega)
      obtain ⟨x, hx⟩ : ∃ x, l[i]? = some x := ⟨_, List.getElem?_eq_getElem (by rw [HL.out]; exact hlt)⟩
      obtain ⟨R, o, rfl, hR, hc, hns, ⟨ops, ho⟩, st, hs⟩ := (H.out.below HB.out).get hx
      have g13 : wr.cell? ⟨R, o + i * 25 + 13, none⟩ = some (.string x.name) := hc 13 _ rfl
      have g15 : wr.cell? ⟨R, o + i * 25 + 15, none⟩ = some (.slice x.ops.A x.ops.n x.ops.c) := hc 15 _ rfl
      have g16 : wr.cell? ⟨R, o + i * 25 + 16, none⟩ = some (.slice x.st.A x.st.n x.st.c) := hc 16 _ rfl
      have b2 : (0 : Int) ≤ (i : Int) := by omega
      have b3 : (i : Int) < (n : Int) := by omega
      have HF := Lib.hid (few20_any _ _ _ ops wr ho)
      have HS := Lib.hid hs
      clear hc ho hx hs
      go_wp2_with fail
      refine HF.out.mono ?_
      rintro e w1 ⟨r, rfl, hb⟩
      have HB1 := Lib.hid (HB.out.trans (hb.mono HB.out.size))
      have q13 := (hb.cell (p := ⟨R, o + i * 25 + 13, none⟩) hR).trans g13
      have q16 := (hb.cell (p := ⟨R, o + i * 25 + 16, none⟩) hR).trans g16
      have HG := Lib.hid (few20_any _ _ _ st w1 (HS.out.below hb))
      have hR1 : R < w1.heap.size := Nat.lt_of_lt_of_le hR hb.size
      clear hb g13 g15 g16
      cases r
      · go_wp2_with fail
        go_ret
        exact ⟨_, rfl, (fun h => by cases h), HB1.out⟩
      go_wp2_with fail
      refine HG.out.mono ?_
      rintro e w2 ⟨r, rfl, hb⟩
      have HB2 := Lib.hid (HB1.out.trans (hb.mono HB1.out.size))
      have p13 := (hb.cell (p := ⟨R, o + i * 25 + 13, none⟩) hR1).trans q13
      clear hb q13 q16
      cases r
      · go_wp2_with fail
        go_ret
        exact ⟨_, rfl, (fun h => by cases h), HB2.out⟩
      by_cases hz : 100 < x.name.size
      · have d5 : decide ((x.name.size : Int) > 100) = true := decide_eq_true (by omega)
        go_wp2_with fail
        go_ret
        exact ⟨_, rfl, (fun h => by cases h), HB2.out⟩
      · have d5 : decide ((x.name.size : Int) > 100) = false := decide_eq_false (by omega)
        go_wp2_with fail
        go_roundw
        case rel => exact ⟨i + 1, by omega, by go_num, HB2⟩
        case measure => simp [intOf]; omega
    · obtain rfl : i = n := by omega
      have d1 : decide ((i : Int) < (i : Int)) = false := by simp
      go_wp2_with fail
      go_ret
      exact ⟨_, rfl, fun _ => h60', HB.out⟩
set_option maxRecDepth 100000 in
set_option maxHeartbeats 4000000 in
theorem some21_any (A : Option Addr) (n c : Nat) (l : List Nm) (w : World) (h : NmsAt w A n c l) : Calls Tryz.prog 22 #[.slice A n c] w (BoolSaid (fun r => r = true → n ≤ 10 ∧ ∀ x ∈ l, x.s.n ≤ 60) w) := by
  have hcap := h.row.cap
  have htop := h.row.top
  have HL := Lib.hid h.len
  have H := Lib.hid h
  clear h
  go_enter Tryz.func22, Tryz.ntmps22
  go_wp2_with fail
  by_cases h60 : 10 < n
  · have d0 : decide ((n : Int) ≤ 10) = false := decide_eq_false (by omega)
    have d1 : decide ((0 : Int) < (n : Int)) = true := decide_eq_true (by omega)
    refine wp_loop_rounds 1 ?_
    rw [rounds_succ]
    go_wp2_with fail
    go_ret
    exact ⟨_, rfl, (fun h => by cases h), Below.refl _ _⟩
  have h60' : n ≤ 10 := by omega
  have d60 : decide ((n : Int) ≤ 10) = true := decide_eq_true (by omega)
  go_loopw [3] (fun s4 wr => ∃ (i : Nat), i ≤ n ∧ s4 = .int .i64 (i : Int) ∧ Hid (∀ x ∈ l.take i, x.s.n ≤ 60) ∧ Hid (Below w.heap.size w wr)) (fun s4 _ => n - (intOf s4).toNat)
  case atStart => exact ⟨0, by omega, rfl, Lib.hid (fun x hx => by simp at hx), Lib.hid (Below.refl _ _)⟩
  case round =>
    obtain ⟨i, hi, rfl, HI, HB⟩ := hrel
    by_cases hlt : i < n
    · have d1 : decide ((i : Int) < (n : Int)) = true := decide_eq_true (by omega)
      obtain ⟨x, hx⟩ : ∃ x, l[i]? = some x := ⟨_, List.getElem?_eq_getElem (by rw [HL.out]; exact hlt)⟩
      obtain ⟨R, o, rfl, hR, ⟨g0, g1, g2, g3⟩, hns, hgl⟩ := (H.out.below HB.out).get hx
      have hgc := hgl.cap
      have hgt := hgl.top
      have b2 : (0 : Int) ≤ (i : Int) := by omega
      have b3 : (i : Int) < (n : Int) := by omega
      have HX := Lib.hid hx
      clear hx hgl
      by_cases hg : 60 < x.s.n
      · have d4 : decide ((x.s.n : Int) > 60) = true := decide_eq_true (by omega)
        go_wp2_with fail
        go_ret
        exact ⟨_, rfl, (fun h => by cases h), HB.out⟩
      have d4 : decide ((x.s.n : Int) > 60) = false := decide_eq_false (by omega)
      by_cases hz : 100 < x.name.size
      · have d5 : decide ((x.name.size : Int) > 100) = true := decide_eq_true (by omega)
        go_wp2_with fail
        go_ret
        exact ⟨_, rfl, (fun h => by cases h), HB.out⟩
      · have d5 : decide ((x.name.size : Int) > 100) = false := decide_eq_false (by omega)
        have HJ := Lib.hid (show ∀ y ∈ l.take (i + 1), y.s.n ≤ 60 from fun y hy => by
          rw [List.take_add_one, HX.out, Option.toList_some] at hy
          rcases List.mem_append.1 hy with hy | hy
          · exact HI.out y hy
          · simp at hy; subst hy; omega)
        go_wp2_with fail
        go_roundw
        case rel => exact ⟨i + 1, by omega, by go_num, HJ, HB⟩
        case measure => simp [intOf]; omega
    · obtain rfl : i = n := by omega
      have d1 : decide ((i : Int) < (i : Int)) = false := by simp
      have HJ := HI
      rw [List.take_of_length_le (by rw [HL.out]; exact Nat.le_refl _)] at HJ
      go_wp2_with fail
      go_ret
      exact ⟨_, rfl, fun _ => ⟨h60', HJ.out⟩, HB.out⟩
set_option maxRecDepth 100000 in
set_option maxHeartbeats 4000000 in
theorem few23_any (A : Option Addr) (n c : Nat) (l : List Mk) (A2 : Option Addr) (n2 c2 : Nat) (rs : List BV) (A3 : Option Addr) (n3 c3 : Nat) (fs : List Nm) (w : World) (h : MarksAt w A n c l) (h2 : BxsAt w A2 n2 c2 rs) (h3 : NmsAt w A3 n3 c3 fs) :
    Calls Tryz.prog 5 #[.slice A n c, .slice A2 n2 c2, .slice A3 n3 c3] w (BoolSaid (fun r => r = true → n ≤ 60 ∧ n2 ≤ 20 ∧ n3 ≤ 10 ∧ ∀ x ∈ fs, x.s.n ≤ 60) w) := by
  have hcap2 := RowAt.cap h2
  have htop2 := RowAt.top h2
  have HF := Lib.hid (few21_any A n c l w h)
  have HS := Lib.hid (fun w' (hb : Below w.heap.size w w') => some21_any A3 n3 c3 fs w' (h3.below hb))
  clear h h2 h3
  go_enter Tryz.func5, Tryz.ntmps5
  go_wp2_with fail
  refine HF.out.mono ?_
  rintro e w1 ⟨r, rfl, hr, hb⟩
  have HB1 := Lib.hid hb
  have HP := Lib.hid hr
  clear hb hr
  cases r
  · go_wp2_with fail
    go_ret
    exact ⟨_, rfl, (fun h => by cases h), HB1.out⟩
  by_cases h20 : n2 ≤ 20
  · have d2 : decide ((n2 : Int) ≤ 20) = true := decide_eq_true (by omega)
    go_wp2_with fail
    refine (HS.out _ HB1.out).mono ?_
    rintro e w2 ⟨r, rfl, hr, hb⟩
    have HB2 := Lib.hid (HB1.out.trans (hb.mono HB1.out.size))
    have HQ := Lib.hid hr
    clear hb hr
    go_wp2_with fail
    go_ret
    refine ⟨r, by cases r <;> rfl, (fun hr => ⟨HP.out (by first | trivial | rfl), h20, HQ.out hr⟩), HB2.out⟩
  · have d2 : decide ((n2 : Int) ≤ 20) = false := decide_eq_false (by omega)
    go_wp2_with fail
    go_ret
    exact ⟨_, rfl, (fun h => by cases h), HB1.out⟩
end Go.Proofs.YtdlmhienolmncaaGreat
