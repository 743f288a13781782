/- Marks, fonts: are they few? -/
import Derived.Test.YtdlmhienolmncaaCutE
import Derived.Test.YtdlmhienolmncaaCutU
import Derived.Test.YtdlmhienolmncaaRowA
import Derived.Test.YtdlmhienolmncaaLaidGen
namespace Go.Proofs.Ytdlmhienolmncaa
open Go.RowKit Dec

/-- A call that answers a Bool, of which p speaks, and turns nothing that was there. -/
def BoolSaid (p : Bool → Prop) (w : World) (e : Ending) (w' : World) : Prop := ∃ r : Bool, e = .returned (.bool r) ∧ p r ∧ Below w.heap.size w w'
set_option maxRecDepth 100000 in
set_option maxHeartbeats 4000000 in
theorem few21_any (A : Option Addr) (n c : Nat) (l : List Mk) (w : World) (h : MarksAt w A n c l) : Calls Try.prog 17 #[.slice A n c] w (BoolSaid (fun r => r = true → n ≤ 60) w) := by
  have hcap := h.row.cap
  have htop := h.row.top
  have HL := Lib.hid h.len
  have H := Lib.hid h
  clear h
  go_enter Try.func17, Try.ntmps17
  go_wp2_with fail
  by_cases h60 : 60 < n
  · have d0 : decide ((n : Int) ≤ 60) = false := decide_eq_false (by omega)
    have d1 : decide ((0 : Int) < (n : Int)) = true := decide_eq_true (by omega)
    refine wp_loop_rounds 1 ?_
    rw [rounds_succ]
    go_wp2_with fail
    go_ret
    exact ⟨_, rfl, (fun h => by cases h), Below.refl _ _⟩
  have h60' : n ≤ 60 := by omega
  have d60 : decide ((n : Int) ≤ 60) = true := decide_eq_true (by omega)
  go_loopw [3] (fun s4 wr => ∃ (i : Nat), i ≤ n ∧ s4 = .int .i64 (i : Int) ∧ Hid (Below w.heap.size w wr)) (fun s4 _ => n - (intOf s4).toNat)
  case atStart => exact ⟨0, by omega, rfl, Lib.hid (Below.refl _ _)⟩
  case round =>
    obtain ⟨i, hi, rfl, HB⟩ := hrel
    by_cases hlt : i < n
    · have d1 : decide ((i : Int) < (n : Int)) = true := decide_eq_true (by omega)
      obtain ⟨x, hx⟩ : ∃ x, l[i]? = some x := ⟨_, List.getElem?_eq_getElem (by rw [HL.out]; exact hlt)⟩
      obtain ⟨R, o, rfl, hR, hc, hns, ⟨ops, ho⟩, st, hs⟩ := (H.out.below HB.out).get hx
      have g13 : wr.cell? ⟨R, o + i * 25 + 13, none⟩ = some (.string x.name) := hc 13 _ rfl
      have g15 : wr.cell? ⟨R, o + i * 25 + 15, none⟩ = some (.slice x.ops.A x.ops.n x.ops.c) := hc 15 _ rfl
      have g16 : wr.cell? ⟨R, o + i * 25 + 16, none⟩ = some (.slice x.st.A x.st.n x.st.c) := hc 16 _ rfl
      have b2 : (0 : Int) ≤ (i : Int) := by omega
      have b3 : (i : Int) < (n : Int) := by omega
      have HF := Lib.hid (few20_any _ _ _ ops wr ho)
      have HS := Lib.hid hs
      clear hc ho hx hs
      go_wp2_with fail
      refine HF.out.mono ?_
      rintro e w1 ⟨r, rfl, hb⟩
      have HB1 := Lib.hid (HB.out.trans (hb.mono HB.out.size))
      have q13 := (hb.cell (p := ⟨R, o + i * 25 + 13, none⟩) hR).trans g13
      have q16 := (hb.cell (p := ⟨R, o + i * 25 + 16, none⟩) hR).trans g16
      have HG := Lib.hid (few20_any _ _ _ st w1 (HS.out.below hb))
      have hR1 : R < w1.heap.size := Nat.lt_of_lt_of_le hR hb.size
      clear hb g13 g15 g16
      cases r
      · go_wp2_with fail
        go_ret
        exact ⟨_, rfl, (fun h => by cases h), HB1.out⟩
      go_wp2_with fail
      refine HG.out.mono ?_
      rintro e w2 ⟨r, rfl, hb⟩
      have HB2 := Lib.hid (HB1.out.trans (hb.mono HB1.out.size))
      have p13 := (hb.cell (p := ⟨R, o + i * 25 + 13, none⟩) hR1).trans q13
      clear hb q13 q16
      cases r
      · go_wp2_with fail
        go_ret
        exact ⟨_, rfl, (fun h => by cases h), HB2.out⟩
      by_cases hz : 100 < x.name.size
      · have d5 : decide ((x.name.size : Int) > 100) = true := decide_eq_true (by omega)
        go_wp2_with fail
        go_ret
        exact ⟨_, rfl, (fun h => by cases h), HB2.out⟩
      · have d5 : decide ((x.name.size : Int) > 100) = false := decide_eq_false (by omega)
        go_wp2_with fail
        go_roundw
        case rel => exact ⟨i + 1, by omega, by go_num, HB2⟩
        case measure => simp [intOf]; omega
    · obtain rfl : i = n := by omega
      have d1 : decide ((i : Int) < (i : Int)) = false := by simp
      go_wp2_with fail
      go_ret
      exact ⟨_, rfl, fun _ => h60', HB.out⟩
set_option maxRecDepth 100000 in
set_option maxHeartbeats 4000000 in
theorem some21_any (A : Option Addr) (n c : Nat) (l : List Nm) (w : World) (h : NmsAt w A n c l) : Calls Try.prog 18 #[.slice A n c] w (BoolSaid (fun r => r = true → n ≤ 10 ∧ ∀ x ∈ l, x.s.n ≤ 60) w) := by
  have hcap := h.row.cap
  have htop := h.row.top
  have HL := Lib.hid h.len
  have H := Lib.hid h
  clear h
  go_enter Try.func18, Try.ntmps18
  go_wp2_with fail
  by_cases h60 : 10 < n
  · have d0 : decide ((n : Int) ≤ 10) = false := decide_eq_false (by omega)
    have d1 : decide ((0 : Int) < (n : Int)) = true := decide_eq_true (by omega)
    refine wp_loop_rounds 1 ?_
    rw [rounds_succ]
    go_wp2_with fail
    go_ret
    exact ⟨_, rfl, (fun h => by cases h), Below.refl _ _⟩
  have h60' : n ≤ 10 := by omega
  have d60 : decide ((n : Int) ≤ 10) = true := decide_eq_true (by omega)
  go_loopw [3] (fun s4 wr => ∃ (i : Nat), i ≤ n ∧ s4 = .int .i64 (i : Int) ∧ Hid (∀ x ∈ l.take i, x.s.n ≤ 60) ∧ Hid (Below w.heap.size w wr)) (fun s4 _ => n - (intOf s4).toNat)
  case atStart => exact ⟨0, by omega, rfl, Lib.hid (fun x hx => by simp at hx), Lib.hid (Below.refl _ _)⟩
  case round =>
    obtain ⟨i, hi, rfl, HI, HB⟩ := hrel
    by_cases hlt : i < n
    · have d1 : decide ((i : Int) < (n : Int)) = true := decide_eq_true (by omega)
      obtain ⟨x, hx⟩ : ∃ x, l[i]? = some x := ⟨_, List.getElem?_eq_getElem (by rw [HL.out]; exact hlt)⟩
      obtain ⟨R, o, rfl, hR, ⟨g0, g1, g2, g3⟩, hns, hgl⟩ := (H.out.below HB.out).get hx
      have hgc := hgl.cap
      have hgt := hgl.top
      have b2 : (0 : Int) ≤ (i : Int) := by omega
      have b3 : (i : Int) < (n : Int) := by omega
      have HX := Lib.hid hx
      clear hx hgl
      by_cases hg : 60 < x.s.n
      · have d4 : decide ((x.s.n : Int) > 60) = true := decide_eq_true (by omega)
        go_wp2_with fail
        go_ret
        exact ⟨_, rfl, (fun h => by cases h), HB.out⟩
      have d4 : decide ((x.s.n : Int) > 60) = false := decide_eq_false (by omega)
      by_cases hz : 100 < x.name.size
      · have d5 : decide ((x.name.size : Int) > 100) = true := decide_eq_true (by omega)
        go_wp2_with fail
        go_ret
        exact ⟨_, rfl, (fun h => by cases h), HB.out⟩
      · have d5 : decide ((x.name.size : Int) > 100) = false := decide_eq_false (by omega)
        have HJ := Lib.hid (show ∀ y ∈ l.take (i + 1), y.s.n ≤ 60 from fun y hy => by
          rw [List.take_add_one, HX.out, Option.toList_some] at hy
          rcases List.mem_append.1 hy with hy | hy
          · exact HI.out y hy
          · simp at hy; subst hy; omega)
        go_wp2_with fail
        go_roundw
        case rel => exact ⟨i + 1, by omega, by go_num, HJ, HB⟩
        case measure => simp [intOf]; omega
    · obtain rfl : i = n := by omega
      have d1 : decide ((i : Int) < (i : Int)) = false := by simp
      have HJ := HI
      rw [List.take_of_length_le (by rw [HL.out]; exact Nat.le_refl _)] at HJ
      go_wp2_with fail
      go_ret
      exact ⟨_, rfl, fun _ => ⟨h60', HJ.out⟩, HB.out⟩
set_option maxRecDepth 100000 in
set_option maxHeartbeats 4000000 in
theorem few23_any (A : Option Addr) (n c : Nat) (l : List Mk) (A2 : Option Addr) (n2 c2 : Nat) (rs : List BV) (A3 : Option Addr) (n3 c3 : Nat) (fs : List Nm) (w : World) (h : MarksAt w A n c l) (h2 : BxsAt w A2 n2 c2 rs) (h3 : NmsAt w A3 n3 c3 fs) :
    Calls Try.prog 7 #[.slice A n c, .slice A2 n2 c2, .slice A3 n3 c3] w (BoolSaid (fun r => r = true → n ≤ 60 ∧ n2 ≤ 20 ∧ n3 ≤ 10 ∧ ∀ x ∈ fs, x.s.n ≤ 60) w) := by
  have hcap2 := RowAt.cap h2
  have htop2 := RowAt.top h2
  have HF := Lib.hid (few21_any A n c l w h)
  have HS := Lib.hid (fun w' (hb : Below w.heap.size w w') => some21_any A3 n3 c3 fs w' (h3.below hb))
  clear h h2 h3
  go_enter Try.func7, Try.ntmps7
  go_wp2_with fail
  refine HF.out.mono ?_
  rintro e w1 ⟨r, rfl, hr, hb⟩
  have HB1 := Lib.hid hb
  have HP := Lib.hid hr
  clear hb hr
  cases r
  · go_wp2_with fail
    go_ret
    exact ⟨_, rfl, (fun h => by cases h), HB1.out⟩
  by_cases h20 : n2 ≤ 20
  · have d2 : decide ((n2 : Int) ≤ 20) = true := decide_eq_true (by omega)
    go_wp2_with fail
    refine (HS.out _ HB1.out).mono ?_
    rintro e w2 ⟨r, rfl, hr, hb⟩
    have HB2 := Lib.hid (HB1.out.trans (hb.mono HB1.out.size))
    have HQ := Lib.hid hr
    clear hb hr
    go_wp2_with fail
    go_ret
    refine ⟨r, by cases r <;> rfl, (fun hr => ⟨HP.out (by first | trivial | rfl), h20, HQ.out hr⟩), HB2.out⟩
  · have d2 : decide ((n2 : Int) ≤ 20) = false := decide_eq_false (by omega)
    go_wp2_with fail
    go_ret
    exact ⟨_, rfl, (fun h => by cases h), HB1.out⟩
end Go.Proofs.Ytdlmhienolmncaa
/- cut: CutTwice, walked. -/
namespace Go.Proofs.Ytdlmhienolmncaa
open Go.RowKit Dec

theorem bxV_one (l : List BV) : ∀ cs ∈ l.map bxV, ∀ u ∈ cs, u.oneCell' = true := by
  intro cs hcs u hu
  obtain ⟨b, -, rfl⟩ := List.mem_map.1 hcs
  simp [bxV] at hu
  rcases hu with rfl | rfl | rfl | rfl | rfl | rfl | rfl | rfl <;> rfl
theorem nms_nil (w : World) : NmsAt w none 0 0 [] := ⟨RowAt.none _ _, fun x hx => by simp at hx⟩
theorem MarksAt.len_eq {w : World} {A : Option Addr} {n c : Nat} {l : List Mk} (h : MarksAt w A n c l) : n = l.length := h.len.symm
theorem cutE_two (l : List Mk) (rs : List BV) : cutE l rs = 0 ∨ cutE l rs = 1 := by
  unfold cutE
  split
  · exact .inl rfl
  · exact .inr rfl
set_option maxRecDepth 100000 in
set_option maxHeartbeats 8000000 in
theorem twice_law (A : Option Addr) (n c : Nat) (l : List Mk) (A1 : Option Addr) (n1 c1 : Nat) (rs : List BV) (A2 : Option Addr) (n2 c2 : Nat) (qs : List BV) (w : World) (h : MarksAt w A n c l) (h1 : BxsAt w A1 n1 c1 rs) (z1 : A1 = none → n1 = 0 ∧ c1 = 0) (h2 : BxsAt w A2 n2 c2 qs) (z2 : A2 = none → n2 = 0 ∧ c2 = 0) (hM : MX w) :
    Calls Try.prog 3 #[.slice A n c, .slice A1 n1 c1, .slice A2 n2 c2] w (True_ w) := by
  have hcap2 := RowAt.cap h2
  have htop2 := RowAt.top h2
  have H0 := Lib.hid (And.intro h (And.intro h1 h2))
  have HZ := Lib.hid (And.intro z1 z2)
  have HMX := Lib.hid hM
  have HF := Lib.hid (few23_any A n c l A1 n1 c1 rs none 0 0 [] w h h1 (nms_nil w))
  obtain rfl := h.len_eq
  clear h h1 h2 z1 z2 hM
  go_enter Try.func3, Try.ntmps3
  go_wp2_with fail
  refine HF.out.mono ?_
  rintro e w1 ⟨r, rfl, hr, hb⟩
  have HB1 := Lib.hid hb
  have HP := Lib.hid hr
  clear hb hr HF
  cases r
  · go_wp2_with fail
    go_ret
    exact ⟨rfl, HB1.out⟩
  obtain ⟨b60, b20, -⟩ := HP.out rfl
  by_cases h20 : 20 < n2
  · have d2 : decide ((n2 : Int) > 20) = true := decide_eq_true (by omega)
    go_wp2_with fail
    go_ret
    exact ⟨rfl, HB1.out⟩
  have d2 : decide ((n2 : Int) > 20) = false := decide_eq_false (by omega)
  have H1 := Lib.hid (And.intro (H0.out.1.below HB1.out) (And.intro (H0.out.2.1.below HB1.out) (H0.out.2.2.below HB1.out)))
  -- a
  obtain ⟨a, ha⟩ : ∃ a, cutL l rs = a := ⟨_, rfl⟩
  obtain ⟨e1, he1⟩ : ∃ e, cutE l rs = e := ⟨_, rfl⟩
  have HA := Lib.hid (And.intro ha he1)
  have hal : a.length ≤ 60 := by rw [← ha]; exact Nat.le_trans (cutL_len _ _) b60
  have HCa := Lib.hid (cutM_any l rs A _ c A1 n1 c1 w1 H1.out.1 (by omega) H1.out.2.1 (by omega))
  unfold CutSaidM at HCa
  rw [ha, he1] at HCa
  clear ha he1
  go_wp2_with fail
  refine HCa.out.mono ?_
  rintro e w2 ⟨Aa, ca, rfl, hma, hb⟩
  have H2 := Lib.hid (And.intro (H1.out.1.below hb) (And.intro (H1.out.2.1.below hb) (And.intro (H1.out.2.2.below hb) (And.intro hma (HB1.out.trans (hb.mono HB1.out.size))))))
  clear hb hma H1 HB1 HCa
  -- b
  obtain ⟨b, hbb⟩ : ∃ b, cutL a rs = b := ⟨_, rfl⟩
  obtain ⟨e2, he2⟩ : ∃ e, cutE a rs = e := ⟨_, rfl⟩
  have HBq := Lib.hid (And.intro hbb he2)
  have HCb := Lib.hid (cutM_any a rs Aa _ ca A1 n1 c1 w2 H2.out.2.2.2.1 (by omega) H2.out.2.1 (by omega))
  unfold CutSaidM at HCb
  rw [hbb, he2] at HCb
  clear hbb he2
  go_wp2_with fail
  refine HCb.out.mono ?_
  rintro e w3 ⟨Ab, cb, rfl, hmb, hb⟩
  have H3 := Lib.hid (And.intro (H2.out.1.below hb) (And.intro (H2.out.2.1.below hb) (And.intro (H2.out.2.2.1.below hb) (And.intro (H2.out.2.2.2.1.below hb) (And.intro hmb (H2.out.2.2.2.2.trans (hb.mono H2.out.2.2.2.2.size)))))))
  clear hb hmb H2 HCb
  -- c
  obtain ⟨cc, hcc⟩ : ∃ b, cutL a qs = b := ⟨_, rfl⟩
  obtain ⟨e3, he3⟩ : ∃ e, cutE a qs = e := ⟨_, rfl⟩
  have HCq := Lib.hid (And.intro hcc he3)
  have HCc := Lib.hid (cutM_any a qs Aa _ ca A2 n2 c2 w3 H3.out.2.2.2.1 (by omega) H3.out.2.2.1 (by omega))
  unfold CutSaidM at HCc
  rw [hcc, he3] at HCc
  clear hcc he3
  go_wp2_with fail
  refine HCc.out.mono ?_
  rintro e w4 ⟨Ac, cC, rfl, hmc, hb⟩
  have H4 := Lib.hid (And.intro (H3.out.1.below hb) (And.intro (H3.out.2.1.below hb) (And.intro (H3.out.2.2.1.below hb) (And.intro (H3.out.2.2.2.1.below hb) (And.intro (H3.out.2.2.2.2.1.below hb) (And.intro hmc (H3.out.2.2.2.2.2.trans (hb.mono H3.out.2.2.2.2.2.size))))))))
  clear hb hmc H3 HCc
  obtain ⟨i0, hi, hz0, hz1, hz2⟩ := info_bx
  have hE5 : Below w4.heap.size w4 (w4.alloc (.cells #[] 39)) := (Below.refl _ _).alloc (Nat.le_refl _) _
  have HO5 := Lib.hid (own_empty (base := w4.heap.size) (size := 8) (Whole.made w4 39 #[]) (Nat.le_refl _))
  have HR5 := Lib.hid (And.intro (H4.out.2.1.below hE5) hE5)
  clear hE5
  go_wp2_with (at_builtin; refine wpList_app_row rfl _ _ 23 rfl w4.heap.size 39 i0 (.agg #[.int .i64 0, .int .i64 0, .int .i64 0, .int .i64 0, .int .i64 0, .int .i64 0, .int .i64 0, .int .i64 0]) 8 64 Try.underlying23 hi hz0 hz1 hz2 rfl (by decide) _ 0 [] rfl HO5.out A1 n1 c1 (rs.map bxV) rfl HR5.out.1 HZ.out.1 (bxV_all rs) (bxV_one rs) ?p1 ?p2 ?p3 ?_)
  case p1 => unfold maxLen; omega
  case p2 => omega
  case p3 => simp
  intro v5 w5 hown hgrow
  obtain ⟨A5, c5, rfl⟩ : ∃ A5 c5, v5 = .slice A5 n1 c5 := by
    rcases hown.2 with ⟨rfl, e0⟩ | ⟨g, cap, cur, rfl, _⟩
    · exact ⟨none, 0, by rw [e0]⟩
    · exact ⟨_, _, rfl⟩
  have hbg : Below w4.heap.size w4 w5 := ((Below.refl w4.heap.size w4).alloc (Nat.le_refl _) (.cells #[] 39)).grown hgrow (by simp) (fun j e => by
    have e1 : some w4.heap.size = some j := e
    injection e1 with e1
    omega)
  have HO6 := Lib.hid (And.intro hown (And.intro (H4.out.2.2.1.below hbg) hbg))
  clear hown hgrow hbg
  go_wp2_with (at_builtin; refine wpList_app_row rfl _ _ 23 rfl w4.heap.size 39 i0 (.agg #[.int .i64 0, .int .i64 0, .int .i64 0, .int .i64 0, .int .i64 0, .int .i64 0, .int .i64 0, .int .i64 0]) 8 64 Try.underlying23 hi hz0 hz1 hz2 rfl (by decide) _ n1 _ rfl HO6.out.1 A2 n2 c2 (qs.map bxV) rfl HO6.out.2.1 HZ.out.2 (bxV_all qs) (bxV_one qs) ?p1 ?p2 ?p3 ?_)
  case p1 => unfold maxLen; omega
  case p2 => omega
  case p3 => exact HO6.out.2.2.size
  intro v6 w6 hown hgrow
  have hbg : Below w4.heap.size w4 w6 := HO6.out.2.2.grown hgrow HO6.out.2.2.size (fun j e => (own_lt HO6.out.1 e).1)
  have hown2 : w6.ownsRow w4.heap.size 39 8 v6 (n1 + n2) (rowBx (rs ++ qs)) := by
    unfold rowBx
    rw [List.map_append, List.flatten_append]
    exact hown
  obtain ⟨A6, c6, rfl, hx6⟩ := BxsAt.of_own hown2
  have H6 := Lib.hid (And.intro (H4.out.1.below hbg) (And.intro hx6 (And.intro (H4.out.2.2.2.1.below hbg) (And.intro (H4.out.2.2.2.2.1.below hbg) (And.intro (H4.out.2.2.2.2.2.1.below hbg) (H4.out.2.2.2.2.2.2.trans (hbg.mono H4.out.2.2.2.2.2.2.size)))))))
  clear hown hgrow hbg hown2 hx6 H4 HO6 HO5 HR5 hi hz0 hz1 hz2
  -- d
  obtain ⟨d, hdd⟩ : ∃ b, cutL l (rs ++ qs) = b := ⟨_, rfl⟩
  obtain ⟨e4, he4⟩ : ∃ e, cutE l (rs ++ qs) = e := ⟨_, rfl⟩
  have HDq := Lib.hid (And.intro hdd he4)
  have HCd := Lib.hid (cutM_any l (rs ++ qs) A _ c A6 (n1 + n2) c6 w6 H6.out.1 (by omega) H6.out.2.1 (by omega))
  unfold CutSaidM at HCd
  rw [hdd, he4] at HCd
  clear hdd he4
  go_wp2_with fail
  refine HCd.out.mono ?_
  rintro e w7 ⟨Ad, cd, rfl, hmd, hb⟩
  have H7 := Lib.hid (And.intro (H6.out.1.below hb) (And.intro (H6.out.2.2.1.below hb) (And.intro (H6.out.2.2.2.1.below hb) (And.intro (H6.out.2.2.2.2.1.below hb) (And.intro hmd (H6.out.2.2.2.2.2.trans (hb.mono H6.out.2.2.2.2.2.size)))))))
  clear hb hmd H6 HCd
  -- n
  obtain ⟨q, hqq⟩ : ∃ b, cutL l [] = b := ⟨_, rfl⟩
  obtain ⟨e5, he5⟩ : ∃ e, cutE l [] = e := ⟨_, rfl⟩
  have HNq := Lib.hid (And.intro hqq he5)
  have HCn := Lib.hid (cutM_any l [] A _ c none 0 0 w7 H7.out.1 (by omega) (RowAt.none _ _) (by omega))
  unfold CutSaidM at HCn
  rw [hqq, he5] at HCn
  clear hqq he5
  go_wp2_with fail
  refine HCn.out.mono ?_
  rintro e w8 ⟨An, cn, rfl, hmn, hb⟩
  have H8 := Lib.hid (And.intro (H7.out.1.below hb) (And.intro (H7.out.2.1.below hb) (And.intro (H7.out.2.2.1.below hb) (And.intro (H7.out.2.2.2.1.below hb) (And.intro (H7.out.2.2.2.2.1.below hb) (And.intro hmn (H7.out.2.2.2.2.2.trans (hb.mono H7.out.2.2.2.2.2.size))))))))
  clear hb hmn H7 HCn
  rcases cutE_two l rs with hz | hz
  · have hcb := cut_zero.1 hz
    have p1 : e1 = 0 := HA.out.2.symm.trans hz
    have p2 := cut_again hcb
    rw [HA.out.1] at p2
    have q2 : e2 = 0 := HBq.out.2.symm.trans p2.1
    have q3 : b = a := HBq.out.1.symm.trans p2.2
    have p3 := cut_nil hcb
    have q5 : e5 = 0 := HNq.out.2.symm.trans p3.1
    have q6 : q = l := HNq.out.1.symm.trans p3.2
    have p4 := cut_two (qs := qs) hcb
    rw [HA.out.1] at p4
    have q7 : e3 = e4 := HCq.out.2.symm.trans (p4.1.trans HDq.out.2)
    have q8 : cc = d := HCq.out.1.symm.trans (p4.2.trans HDq.out.1)
    subst p1 q2 q3 q5 q6 q7 q8
    clear p2 p3 p4 hz hcb
    have d9 : (e3 == e3) = true := by simp
    go_wp2_with fail
    refine (same21_any _ _ _ _ _ _ _ H8.out.2.1 H8.out.2.2.1).mono ?_
    rintro e w9 ⟨rfl, hb⟩
    have H9 := Lib.hid (And.intro (H8.out.1.below hb) (And.intro (H8.out.2.2.2.2.2.1.below hb) (And.intro (H8.out.2.2.2.1.below hb) (And.intro (H8.out.2.2.2.2.1.below hb) (H8.out.2.2.2.2.2.2.trans (hb.mono H8.out.2.2.2.2.2.2.size))))))
    clear hb H8
    go_wp2_with fail
    refine (same21_any _ _ _ _ _ _ _ H9.out.1 H9.out.2.1).mono ?_
    rintro e w10 ⟨rfl, hb⟩
    have H10 := Lib.hid (And.intro (H9.out.2.2.1.below hb) (And.intro (H9.out.2.2.2.1.below hb) (H9.out.2.2.2.2.trans (hb.mono H9.out.2.2.2.2.size))))
    clear hb H9
    go_wp2_with fail
    refine (awake23 _ (HMX.out.later H10.out.2.2)).mono ?_
    rintro e w11 ⟨rfl, hb⟩
    have H11 := Lib.hid (And.intro (H10.out.1.below hb) (And.intro (H10.out.2.1.below hb) (H10.out.2.2.trans (hb.mono H10.out.2.2.size))))
    clear hb H10
    go_wp2_with fail
    refine (same21_any _ _ _ _ _ _ _ H11.out.1 H11.out.2.1).mono ?_
    rintro e w12 ⟨rfl, hb⟩
    have H12 := Lib.hid (H11.out.2.2.trans (hb.mono H11.out.2.2.size))
    clear hb H11
    go_wp2_with fail
    go_ret
    exact ⟨rfl, H12.out⟩
  · have hcb : cutB l rs = false := by
      cases hq : cutB l rs with
      | false => rfl
      | true => rw [cutE_ok hq] at hz; cases hz
    have p1 : e1 = 1 := HA.out.2.symm.trans hz
    have p2 : a = [] := HA.out.1.symm.trans (cutE_bad hcb).2
    have p3 : e4 = 1 := HDq.out.2.symm.trans (cut_two_bad hcb)
    subst p1 p2 p3
    clear hz hcb
    go_wp2_with fail
    refine (awake23 _ (HMX.out.later H8.out.2.2.2.2.2.2)).mono ?_
    rintro e w9 ⟨rfl, hb⟩
    have H9 := Lib.hid (H8.out.2.2.2.2.2.2.trans (hb.mono H8.out.2.2.2.2.2.2.size))
    clear hb H8
    go_wp2_with fail
    go_ret
    exact ⟨rfl, H9.out⟩
end Go.Proofs.Ytdlmhienolmncaa
