/- font's reference: all. Written by gen_fontda.py. -/
import Derived.Test.YtldhkhaciflmoaaFontCb
namespace Go.Proofs.Ytldhkhaciflmoaa
open Go.RowKit

set_option maxRecDepth 100000 in
set_option maxHeartbeats 8000000 in
theorem rall_any (wd : Bool) (A : Option Addr) (n c : Nat) (ot : Int) (gs : List Gl) (A2 : Option Addr) (n2 c2 : Nat) (l : List Int) (w : World) (h : Glyphs w A n c gs) (h2 : IntsAt w A2 n2 c2 l) (hn : n ≤ 1000000) (hn2 : n2 ≤ 1000000) :
    Calls Try.prog 24 #[.agg #[.bool wd, .slice A n c, .int .i64 ot], .slice A2 n2 c2] w fun e w' => e = .returned (.bool (chkB wd ot gs && l.all (codeB wd))) ∧ Below w.heap.size w w' := by
  have hl := h.len
  have hl2 := h2.len
  subst hl hl2
  have hcap := h.cap
  have htop := h.top
  have hcap2 := h2.cap
  have htop2 := h2.top
  have HG := Lib.hid h
  have HI := Lib.hid h2
  clear h h2
  go_enter Try.func24, Try.ntmps24
  go_wp2_with fail
  go_loopw [5] (fun s5 wx => ∃ k : Nat, k ≤ l.length ∧ s5 = .int .i64 k ∧ Hid ((∀ j x, j < k → l[j]? = some x → codeB wd x = true) ∧ FB wx w.heap.size wd A gs.length c ot ∧ Below w.heap.size w wx)) (fun s5 _ => l.length - (intOf s5).toNat)
  case atStart => exact ⟨0, by omega, rfl, Lib.hid ⟨fun j x hj => absurd hj (by omega), Whole.made _ _ _, (Below.refl _ _).alloc (Nat.le_refl _) _⟩⟩
  case round =>
    obtain ⟨k, hk, rfl, hT⟩ := hrel
    by_cases hlt : k < l.length
    · obtain ⟨x, hx⟩ : ∃ x, l[k]? = some x := ⟨_, List.getElem?_eq_getElem hlt⟩
      obtain ⟨R, o, rfl, hR0, -⟩ := HI.out.at_ (by omega)
      have d1 : decide ((k : Int) < (l.length : Int)) = true := by simp; omega
      have d2 : decide (k < l.length) = true := by simp; omega
      have HX := Lib.hid hx
      clear hx
      go_wp2_with fail
      have HC : Hid (∀ v, Below wr.heap.size wr v → (fun v => (v.cell? ⟨w.heap.size, 0, none⟩ = some (.bool wd) ∧ v.cell? ⟨w.heap.size, 1, none⟩ = some (.slice A gs.length c) ∧ v.cell? ⟨w.heap.size, 2, none⟩ = some (.int .i64 ot)) ∧ v.cell? ⟨R, o + k, none⟩ = some (.int .i64 x) ∧ Below wr.heap.size wr v) v) := Lib.hid (fun v hb => ⟨(FB.here hT.out.2.1 hb).cells, ((HI.out.below (hT.out.2.2.trans (hb.mono hT.out.2.2.size))).at_k HX.out), hb⟩)
      have hS := HC.out wr.drew ((Below.refl wr.heap.size wr).drew)
      cases hcb : codeB wd x
      · have HCB := Lib.hid hcb
        clear hcb
        refine wp_region_C (fun v => (v.cell? ⟨w.heap.size, 0, none⟩ = some (.bool wd) ∧ v.cell? ⟨w.heap.size, 1, none⟩ = some (.slice A gs.length c) ∧ v.cell? ⟨w.heap.size, 2, none⟩ = some (.int .i64 ot)) ∧ v.cell? ⟨R, o + k, none⟩ = some (.int .i64 x) ∧ Below wr.heap.size wr v) (by kernel_rfl) ?_
        refine wpAnyC_take (i := 0) (v := ?v1) rfl (by kernel_rfl) (fun _ _ _ h => h) (Or.inl ⟨by rfl, ?y1⟩) hS ?r1
        case y1 => rintro wq ⟨⟨c0, c1, c2⟩, ck, -⟩; go_simp; try with_reducible rfl
        try simp only [Act.put, List.setIfInBounds_toArray, List.set_cons_zero, List.set_cons_succ]
        refine wpAnyC_take (i := 1) (v := ?v2) rfl (by kernel_rfl) (fun _ _ _ h => h) (Or.inl ⟨by rfl, ?y2⟩) hS ?r2
        case y2 => intro wq _; go_simp; all_goals (first | with_reducible rfl | (simp; done) | (simp; omega) | skip)
        try simp only [Act.put, List.setIfInBounds_toArray, List.set_cons_zero, List.set_cons_succ]
        refine wpAnyC_take (i := 2) (v := ?v3) rfl (by kernel_rfl) (fun _ _ _ h => h) (Or.inl ⟨by rfl, ?y3⟩) hS ?r3
        case y3 => intro wq _; go_simp; all_goals (first | with_reducible rfl | (simp; done) | (simp; omega) | skip)
        try simp only [Act.put, List.setIfInBounds_toArray, List.set_cons_zero, List.set_cons_succ]
        refine wpAnyC_take (i := 3) (v := .pointer (some ⟨R, o + k, none⟩)) rfl (by kernel_rfl) (fun _ _ _ h => h) (Or.inl ⟨by rfl, ?y4⟩) hS ?r4
        case y4 => intro wq _; go_simp; all_goals (first | with_reducible rfl | (simp; done) | (simp; omega) | skip)
        try simp only [Act.put, List.setIfInBounds_toArray, List.set_cons_zero, List.set_cons_succ]
        refine wpAnyC_take (i := 4) (v := ?v5) rfl (by kernel_rfl) (fun _ _ _ h => h) (Or.inl ⟨by rfl, ?y5⟩) hS ?r5
        case y5 => rintro wq ⟨⟨c0, c1, c2⟩, ck, -⟩; go_simp; try with_reducible rfl
        try simp only [Act.put, List.setIfInBounds_toArray, List.set_cons_zero, List.set_cons_succ]
        refine wpAnyC_one (j := 5) (by kernel_rfl) rfl (fun K hK => ?_)
        go_simp
        go_at_call 31
        refine (rcode_any wd A gs.length c ot x _).mono ?_
        rw [HCB.out]
        rintro e V ⟨rfl, kk⟩
        have hbv : Below wr.heap.size wr V := ((Below.refl wr.heap.size wr).drew).trans kk
        have hS := HC.out V hbv
        clear kk
        go_wp2_with fail
        refine hK.out _ _ ⟨hS, ?_⟩
        clear hK K
        try simp only [Act.put, List.setIfInBounds_toArray, List.set_cons_zero, List.set_cons_succ]
        refine wpAnyC_take (i := 6) (v := .bool true) rfl (by kernel_rfl) (fun _ _ _ h => h) (Or.inl ⟨by rfl, ?y6⟩) hS ?r6
        case y6 => intro wq _; go_simp; all_goals (first | with_reducible rfl | (simp; done) | (simp; omega) | skip)
        try simp only [Act.put, List.setIfInBounds_toArray, List.set_cons_zero, List.set_cons_succ]
        refine wpAnyC_done (by kernel_rfl) ?_ _
        go_wp2_with fail
        go_ret
        refine ⟨ret_b ?_, hT.out.2.2.trans (hS.2.2.mono hT.out.2.2.size)⟩
        symm
        rw [Bool.and_eq_false_iff]
        refine .inr (Bool.eq_false_iff.2 fun hall => ?_)
        have := List.all_eq_true.1 hall x (List.mem_of_getElem? HX.out)
        rw [HCB.out] at this
        cases this
      · have HCB := Lib.hid hcb
        clear hcb
        refine wp_region_C (fun v => (v.cell? ⟨w.heap.size, 0, none⟩ = some (.bool wd) ∧ v.cell? ⟨w.heap.size, 1, none⟩ = some (.slice A gs.length c) ∧ v.cell? ⟨w.heap.size, 2, none⟩ = some (.int .i64 ot)) ∧ v.cell? ⟨R, o + k, none⟩ = some (.int .i64 x) ∧ Below wr.heap.size wr v) (by kernel_rfl) ?_
        refine wpAnyC_take (i := 0) (v := ?v7) rfl (by kernel_rfl) (fun _ _ _ h => h) (Or.inl ⟨by rfl, ?y7⟩) hS ?r7
        case y7 => rintro wq ⟨⟨c0, c1, c2⟩, ck, -⟩; go_simp; try with_reducible rfl
        try simp only [Act.put, List.setIfInBounds_toArray, List.set_cons_zero, List.set_cons_succ]
        refine wpAnyC_take (i := 1) (v := ?v8) rfl (by kernel_rfl) (fun _ _ _ h => h) (Or.inl ⟨by rfl, ?y8⟩) hS ?r8
        case y8 => intro wq _; go_simp; all_goals (first | with_reducible rfl | (simp; done) | (simp; omega) | skip)
        try simp only [Act.put, List.setIfInBounds_toArray, List.set_cons_zero, List.set_cons_succ]
        refine wpAnyC_take (i := 2) (v := ?v9) rfl (by kernel_rfl) (fun _ _ _ h => h) (Or.inl ⟨by rfl, ?y9⟩) hS ?r9
        case y9 => intro wq _; go_simp; all_goals (first | with_reducible rfl | (simp; done) | (simp; omega) | skip)
        try simp only [Act.put, List.setIfInBounds_toArray, List.set_cons_zero, List.set_cons_succ]
        refine wpAnyC_take (i := 3) (v := .pointer (some ⟨R, o + k, none⟩)) rfl (by kernel_rfl) (fun _ _ _ h => h) (Or.inl ⟨by rfl, ?y10⟩) hS ?r10
        case y10 => intro wq _; go_simp; all_goals (first | with_reducible rfl | (simp; done) | (simp; omega) | skip)
        try simp only [Act.put, List.setIfInBounds_toArray, List.set_cons_zero, List.set_cons_succ]
        refine wpAnyC_take (i := 4) (v := ?v11) rfl (by kernel_rfl) (fun _ _ _ h => h) (Or.inl ⟨by rfl, ?y11⟩) hS ?r11
        case y11 => rintro wq ⟨⟨c0, c1, c2⟩, ck, -⟩; go_simp; try with_reducible rfl
        try simp only [Act.put, List.setIfInBounds_toArray, List.set_cons_zero, List.set_cons_succ]
        refine wpAnyC_one (j := 5) (by kernel_rfl) rfl (fun K hK => ?_)
        go_simp
        go_at_call 31
        refine (rcode_any wd A gs.length c ot x _).mono ?_
        rw [HCB.out]
        rintro e V ⟨rfl, kk⟩
        have hbv : Below wr.heap.size wr V := ((Below.refl wr.heap.size wr).drew).trans kk
        have hS := HC.out V hbv
        clear kk
        go_wp2_with fail
        refine hK.out _ _ ⟨hS, ?_⟩
        clear hK K
        try simp only [Act.put, List.setIfInBounds_toArray, List.set_cons_zero, List.set_cons_succ]
        refine wpAnyC_take (i := 6) (v := .bool false) rfl (by kernel_rfl) (fun _ _ _ h => h) (Or.inl ⟨by rfl, ?y12⟩) hS ?r12
        case y12 => intro wq _; go_simp; all_goals (first | with_reducible rfl | (simp; done) | (simp; omega) | skip)
        try simp only [Act.put, List.setIfInBounds_toArray, List.set_cons_zero, List.set_cons_succ]
        refine wpAnyC_done (by kernel_rfl) ?_ _
        go_wp2_with fail
        go_roundw
        case rel => exact ⟨k + 1, by omega, by go_num, Lib.hid ⟨fun j q hj hq => by
          rcases Nat.lt_succ_iff_lt_or_eq.1 hj with h | rfl
          · exact hT.out.1 j q h hq
          · rw [HX.out] at hq; injection hq with e; subst e; exact HCB.out, FB.here hT.out.2.1 hS.2.2, hT.out.2.2.trans (hS.2.2.mono hT.out.2.2.size)⟩⟩
        case measure => simp [intOf]; omega
    · obtain rfl : k = l.length := by omega
      have d1 : decide ((l.length : Int) < (l.length : Int)) = false := by simp
      have d2 : decide (l.length < l.length) = false := by simp
      obtain ⟨f0, f1, f2⟩ := hT.out.2.1.cells
      have lF := Whole.lt hT.out.2.1
      have HA := Lib.hid (show l.all (codeB wd) = true from List.all_eq_true.2 fun x hx => by
        obtain ⟨j, hj⟩ := List.mem_iff_getElem?.1 hx
        exact hT.out.1 j x (List.getElem?_eq_some_iff.1 hj).1 hj)
      go_wp2_with fail
      refine (rright_any wd A gs.length c ot gs _ (HG.out.below hT.out.2.2) hn).mono ?_
      rintro e w2 ⟨rfl, hb⟩
      have HB := Lib.hid (hT.out.2.2.trans (hb.mono hT.out.2.2.size))
      clear hb
      go_wp2_with fail
      go_ret
      exact ⟨ret_b (by rw [HA.out, Bool.and_true]), HB.out⟩
end Go.Proofs.Ytldhkhaciflmoaa
