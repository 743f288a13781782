/- font's reference: Means, of every font and codes. Written by gen_fontdn.py. -/
import Derived.Test.YtldhkhaciflmoaaFontDl
import Derived.Test.YtldhkhaciflmoaaFontDm
import Derived.Test.YtldhkhaciflmoaaFontCb
namespace Go.Proofs.Ytldhkhaciflmoaa
open Go.RowKit

theorem fld2 (a b t : Value) (w : World) : (Instr.field 35 (.agg #[a, b, t]) 2).run Try.prog w = .ok t w := by kernel_rfl
set_option maxRecDepth 100000 in
set_option maxHeartbeats 8000000 in
theorem rmeans19_good (wd : Bool) (A : Option Addr) (n c : Nat) (ot : Int) (gs : List Gl) (A2 : Option Addr) (n2 c2 : Nat) (l : List Int) (w : World) (h : Glyphs w A n c gs) (h2 : IntsAt w A2 n2 c2 l) (hn : n ≤ 1000000) (hn2 : n2 ≤ 1000000) (hk : chkC wd ot gs l = 0) :
    Calls Try.prog 12 #[.agg #[.bool wd, .slice A n c, .int .i64 ot], .slice A2 n2 c2] w (MeansSaid wd ot gs l w) := by
  have hl2 := h2.len
  subst hl2
  have hcap := h2.cap
  have htop := h2.top
  have hb0 := ((Below.refl w.heap.size w).alloc (Nat.le_refl _) (.cells #[.bool wd, .slice A n c, .int .i64 ot] 24))
  have H := Lib.hid (And.intro (h.below hb0) (And.intro (h2.below hb0) (And.intro hb0 (FB.made w wd A n c ot))))
  have HG := Lib.hid h
  have HI := Lib.hid h2
  have HK := Lib.hid hk
  have HCC := Lib.hid (chkC_zero.1 hk)
  have HA : Hid ((chkB wd ot gs && l.all (codeB wd)) = true) := Lib.hid (by rw [HCC.out.1]; simpa using HCC.out.2)
  clear h h2 hb0 hk
  go_enter Try.func12, Try.ntmps12
  go_wp2_with fail
  refine (rall_any wd A n c ot gs A2 l.length c2 l _ H.out.1 H.out.2.1 hn hn2).mono ?_
  rw [HA.out]
  rintro e w1 ⟨rfl, hb⟩
  have H1 := Lib.hid (And.intro (H.out.2.2.2.here hb) (H.out.2.2.1.trans (hb.mono H.out.2.2.1.size)))
  clear hb
  go_wp2_with fail
  go_loopw [6, 7] (fun s6 s7 wx => ∃ (k : Nat) (acc : List Nat), k ≤ l.length ∧ s7 = .int .i64 k ∧ s6 = .string (strB acc) ∧ acc.length ≤ 32 * k ∧ Hid (meanU ot gs l = restM ot gs acc (l.drop k)) ∧ Hid (FB wx w.heap.size wd A n c ot ∧ Below w.heap.size w wx)) (fun _ s7 _ => l.length - (intOf s7).toNat)
  case atStart => exact ⟨0, [], by omega, rfl, rfl, by simp, Lib.hid restM_start.symm, H1⟩
  case round =>
    obtain ⟨k, acc, hk, rfl, rfl, hal, HM, hT⟩ := hrel
    by_cases hlt : k < l.length
    · obtain ⟨x, hx⟩ : ∃ x, l[k]? = some x := ⟨_, List.getElem?_eq_getElem hlt⟩
      obtain ⟨R, o, rfl, hR0, -⟩ := HI.out.at_ (by omega)
      have d1 : decide ((k : Int) < (l.length : Int)) = true := by simp; omega
      have d2 : decide (k < l.length) = true := by simp; omega
      have HX := Lib.hid hx
      have hsm := find_small (x := x) HCC.out.1
      clear hx
      go_wp2_with fail
      have HC : Hid (∀ v, Below wr.heap.size wr v → (fun v => (v.cell? ⟨w.heap.size, 0, none⟩ = some (.bool wd) ∧ v.cell? ⟨w.heap.size, 1, none⟩ = some (.slice A n c) ∧ v.cell? ⟨w.heap.size, 2, none⟩ = some (.int .i64 ot)) ∧ v.cell? ⟨R, o + k, none⟩ = some (.int .i64 x) ∧ Below wr.heap.size wr v) v) := Lib.hid (fun v hb => ⟨(FB.here hT.out.1 hb).cells, ((HI.out.below (hT.out.2.trans (hb.mono hT.out.2.size))).at_k HX.out), hb⟩)
      have hS := HC.out wr.drew ((Below.refl wr.heap.size wr).drew)
      refine wp_region_C (fun v => (v.cell? ⟨w.heap.size, 0, none⟩ = some (.bool wd) ∧ v.cell? ⟨w.heap.size, 1, none⟩ = some (.slice A n c) ∧ v.cell? ⟨w.heap.size, 2, none⟩ = some (.int .i64 ot)) ∧ v.cell? ⟨R, o + k, none⟩ = some (.int .i64 x) ∧ Below wr.heap.size wr v) (by kernel_rfl) ?_
      refine wpAnyC_take (i := 0) (v := ?v1) rfl (by kernel_rfl) (fun _ _ _ h => h) (Or.inl ⟨by rfl, ?y1⟩) hS ?r1
      case y1 => rintro wq ⟨⟨c0, c1, c2⟩, ck, -⟩; go_simp; try with_reducible rfl
      try simp only [Act.put, List.setIfInBounds_toArray, List.set_cons_zero, List.set_cons_succ]
      refine wpAnyC_take (i := 1) (v := ?v2) rfl (by kernel_rfl) (fun _ _ _ h => h) (Or.inl ⟨by rfl, ?y2⟩) hS ?r2
      case y2 => intro wq _; go_simp; all_goals (first | with_reducible rfl | (simp; done) | (simp; omega) | skip)
      try simp only [Act.put, List.setIfInBounds_toArray, List.set_cons_zero, List.set_cons_succ]
      refine wpAnyC_take (i := 2) (v := ?v3) rfl (by kernel_rfl) (fun _ _ _ h => h) (Or.inl ⟨by rfl, ?y3⟩) hS ?r3
      case y3 => intro wq _; go_simp; all_goals (first | with_reducible rfl | (simp; done) | (simp; omega) | skip)
      try simp only [Act.put, List.setIfInBounds_toArray, List.set_cons_zero, List.set_cons_succ]
      refine wpAnyC_take (i := 3) (v := .pointer (some ⟨R, o + k, none⟩)) rfl (by kernel_rfl) (fun _ _ _ h => h) (Or.inl ⟨by rfl, ?y4⟩) hS ?r4
      case y4 => intro wq _; go_simp; all_goals (first | with_reducible rfl | (simp; done) | (simp; omega) | skip)
      try simp only [Act.put, List.setIfInBounds_toArray, List.set_cons_zero, List.set_cons_succ]
      refine wpAnyC_take (i := 4) (v := ?v5) rfl (by kernel_rfl) (fun _ _ _ h => h) (Or.inl ⟨by rfl, ?y5⟩) hS ?r5
      case y5 => rintro wq ⟨⟨c0, c1, c2⟩, ck, -⟩; go_simp; try with_reducible rfl
      try simp only [Act.put, List.setIfInBounds_toArray, List.set_cons_zero, List.set_cons_succ]
      refine wpAnyC_one (j := 5) (by kernel_rfl) rfl (fun K hK => ?_)
      go_simp
      go_at_call 17
      refine (rfind_any wd A n c ot gs x _ (HG.out.below (hT.out.2.trans (hS.2.2.mono hT.out.2.size))) hn).mono ?_
      rintro e V ⟨rfl, kk⟩
      have hS := HC.out V (hS.2.2.trans (kk.mono hS.2.2.size))
      clear kk
      go_wp2_with fail
      refine hK.out _ _ ⟨hS, ?_⟩
      clear hK K
      try simp only [Act.put, List.setIfInBounds_toArray, List.set_cons_zero, List.set_cons_succ]
      refine wpAnyC_take (i := 6) (v := .string (findG ot gs x).text) rfl (by kernel_rfl) (fun _ _ _ h => h) (Or.inl ⟨by rfl, ?y6⟩) hS ?r6
      case y6 => intro wq _; go_simp; rw [fld2]; rfl
      try simp only [Act.put, List.setIfInBounds_toArray, List.set_cons_zero, List.set_cons_succ]
      refine wpAnyC_one (j := 7) (by kernel_rfl) rfl (fun K hK => ?_)
      go_simp
      go_at_call 27
      refine (rtext_any (findG ot gs x).text _ (by omega)).mono ?_
      rintro e V2 ⟨rfl, kk⟩
      have hS := HC.out V2 (hS.2.2.trans (kk.mono hS.2.2.size))
      clear kk
      go_wp2_with fail
      refine hK.out _ _ ⟨hS, ?_⟩
      clear hK K
      try simp only [Act.put, List.setIfInBounds_toArray, List.set_cons_zero, List.set_cons_succ]
      refine wpAnyC_take (i := 8) (v := ?v7) rfl (by kernel_rfl) (fun _ _ _ h => h) (Or.inl ⟨by rfl, ?y7⟩) hS ?r7
      case y7 => intro wq _; go_simp; all_goals (first | with_reducible rfl | (simp; done) | (simp; omega) | skip)
      try simp only [Act.put, List.setIfInBounds_toArray, List.set_cons_zero, List.set_cons_succ]
      refine wpAnyC_take (i := 9) (v := .string (textS (findG ot gs x).text)) rfl (by kernel_rfl) (fun _ _ _ h => h) (Or.inl ⟨by rfl, ?y8⟩) hS ?r8
      case y8 => intro wq _; go_simp; all_goals (first | with_reducible rfl | (simp; done) | (simp; omega) | skip)
      try simp only [Act.put, List.setIfInBounds_toArray, List.set_cons_zero, List.set_cons_succ]
      refine wpAnyC_take (i := 10) (v := .int .i64 (textE (findG ot gs x).text)) rfl (by kernel_rfl) (fun _ _ _ h => h) (Or.inl ⟨by rfl, ?y9⟩) hS ?r9
      case y9 => intro wq _; go_simp; all_goals (first | with_reducible rfl | (simp; done) | (simp; omega) | skip)
      try simp only [Act.put, List.setIfInBounds_toArray, List.set_cons_zero, List.set_cons_succ]
      refine wpAnyC_take (i := 11) (v := ?v10) rfl (by kernel_rfl) (fun _ _ _ h => h) (Or.inl ⟨by rfl, ?y10⟩) hS ?r10
      case y10 => intro wq _; go_simp; all_goals (first | with_reducible rfl | (simp; done) | (simp; omega) | skip)
      try simp only [Act.put, List.setIfInBounds_toArray, List.set_cons_zero, List.set_cons_succ]
      refine wpAnyC_take (i := 12) (v := ?v11) rfl (by kernel_rfl) (fun _ _ _ h => h) (Or.inl ⟨by rfl, ?y11⟩) hS ?r11
      case y11 => intro wq _; go_simp; all_goals (first | with_reducible rfl | (simp; done) | (simp; omega) | skip)
      try simp only [Act.put, List.setIfInBounds_toArray, List.set_cons_zero, List.set_cons_succ]
      refine wpAnyC_done (by kernel_rfl) ?_ _
      have H4 := Lib.hid (And.intro (FB.here hT.out.1 hS.2.2) (hT.out.2.trans (hS.2.2.mono hT.out.2.size)))
      clear hS HC
      rcases text_cases (findG ot gs x).text with ⟨t1, t2, t3⟩ | ⟨o1, t1, t2, t3, t4, t5⟩
      · have HN := Lib.hid (restM_none (acc := acc) HX.out t1)
        rw [t2, t3]
        clear t1 t2 t3
        go_wp2_with fail
        refine bodyPost_ret (v := .tuple #[.string ⟨#[]⟩, .int .i64 4]) (by simp [results, Try.results12, go_sem]) rfl ?_
        exact means_none HK.out (by rw [HM.out, HN.out]) H4.out.2
      · have HN := Lib.hid (restM_some (acc := acc) HX.out t1)
        have HS5 := Lib.hid (strB_size o1)
        have HS6 := Lib.hid (strB_size acc)
        have ho1 : o1.length ≤ 32 := by omega
        have hs1 : (strB o1).size ≤ 32 := by rw [HS5.out]; exact ho1
        have hs2 : (strB acc).size ≤ 32000000 := by rw [HS6.out]; omega
        rw [t2, t3]
        clear t1 t2 t3 t4 t5
        go_wp2_with fail
        go_roundw
        case rel => exact ⟨k + 1, acc ++ o1, by omega, by go_num, by rw [strB_append], by rw [List.length_append]; omega, Lib.hid (by rw [HM.out, HN.out]), H4⟩
        case measure => simp [intOf]; omega
    · obtain rfl : k = l.length := by omega
      have d1 : decide ((l.length : Int) < (l.length : Int)) = false := by simp
      have d2 : decide (l.length < l.length) = false := by simp
      have HE := Lib.hid (show meanU ot gs l = some acc by rw [HM.out, restM_end])
      go_wp2_with fail
      refine bodyPost_ret (v := .tuple #[.string (strB acc), .int .i64 0]) (by simp [results, Try.results12, go_sem]) rfl ?_
      exact means_some HK.out HE.out hT.out.2
theorem rmeans19_any (wd : Bool) (A : Option Addr) (n c : Nat) (ot : Int) (gs : List Gl) (A2 : Option Addr) (n2 c2 : Nat) (l : List Int) (w : World) (h : Glyphs w A n c gs) (h2 : IntsAt w A2 n2 c2 l) (hn : n ≤ 1000000) (hn2 : n2 ≤ 1000000) :
    Calls Try.prog 12 #[.agg #[.bool wd, .slice A n c, .int .i64 ot], .slice A2 n2 c2] w (MeansSaid wd ot gs l w) := by
  by_cases hk : chkC wd ot gs l = 0
  · exact rmeans19_good wd A n c ot gs A2 n2 c2 l w h h2 hn hn2 hk
  · refine (rmeans19_bad wd A n c ot gs A2 n2 c2 l w h h2 hn hn2 ?_).mono fun e w' ⟨he, hb⟩ => ?_
    · cases hb : (chkB wd ot gs && l.all (codeB wd)) with
      | false => rfl
      | true => exact absurd (chkC_zero.2 (by simpa using hb)) hk
    · subst he
      exact means_bad hk hb
end Go.Proofs.Ytldhkhaciflmoaa
