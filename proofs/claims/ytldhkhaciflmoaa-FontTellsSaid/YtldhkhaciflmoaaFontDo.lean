/- The walk of FontTells. Written by gen_fontdo.py. -/
import Derived.Test.YtldhkhaciflmoaaFontDn
import Derived.Test.YtldhkhaciflmoaaFontDf
import Derived.Test.YtldhkhaciflmoaaLaidGen
namespace Go.Proofs.Ytldhkhaciflmoaa
open Go.RowKit

set_option maxRecDepth 100000 in
set_option maxHeartbeats 8000000 in
theorem tells_law (wd : Bool) (A : Option Addr) (n c : Nat) (ot : Int) (gs : List Gl) (code : Int) (s : ByteArray) (A2 : Option Addr) (n2 c2 : Nat) (l : List Int) (w : World) (h : Glyphs w A n c gs) (hs : s.size ≤ 9223372036854775807) (h2 : IntsAt w A2 n2 c2 l) :
    Calls Try.prog 3 #[.agg #[.bool wd, .slice A n c, .int .i64 ot], .int .i64 code, .string s, .slice A2 n2 c2] w (True_ w) := by
  have hl := h.len
  subst hl
  have hl2 := h2.len
  subst hl2
  have hcap := h.cap
  have htop := h.top
  have hcap2 := h2.cap
  have htop2 := h2.top
  have H := Lib.hid h
  have H2 := Lib.hid h2
  clear h h2
  by_cases q0 : 150 < gs.length
  · go_enter Try.func3, Try.ntmps3
    go_wp2
    go_ret
    exact ⟨rfl, (Below.refl _ _).alloc (Nat.le_refl _) _⟩
  by_cases q1 : 200 < s.size
  · go_enter Try.func3, Try.ntmps3
    go_wp2
    go_ret
    exact ⟨rfl, (Below.refl _ _).alloc (Nat.le_refl _) _⟩
  by_cases q2 : 100 < l.length
  · go_enter Try.func3, Try.ntmps3
    go_wp2
    go_ret
    exact ⟨rfl, (Below.refl _ _).alloc (Nat.le_refl _) _⟩
  have hb0 := ((Below.refl w.heap.size w).alloc (Nat.le_refl _) (.cells #[.bool wd, .slice A gs.length c, .int .i64 ot] 24))
  have HA0 := Lib.hid (And.intro (H.out.below hb0) (And.intro (H2.out.below hb0) (And.intro hb0 (And.intro (FB.made w wd A gs.length c ot) True.intro))))
  clear hb0
  go_enter Try.func3, Try.ntmps3
  go_wp2_with fail
  refine (codes_any wd A gs.length c ot gs s _ HA0.out.1 (by omega)).mono ?_
  rintro e w1 ⟨A3, n3, c3, rfl, hi1, hb⟩
  have HA1 := Lib.hid (And.intro (HA0.out.1.below hb) (And.intro (HA0.out.2.1.below hb) (And.intro (HA0.out.2.2.1.trans (hb.mono HA0.out.2.2.1.size)) (And.intro (HA0.out.2.2.2.1.here hb) True.intro))))
  have HI1 := Lib.hid hi1
  clear hi1
  clear hb HA0
  have hf1 := HA1.out.2.2.2.1
  obtain ⟨f0, f1, f2⟩ := hf1.cells
  have lF := Whole.lt hf1
  clear hf1
  go_wp2_with fail
  clear f0 f1 f2 lF
  refine (rcodes_any wd A gs.length c ot gs s _ HA1.out.1 (by omega) (by omega)).mono ?_
  rintro e w2 ⟨A4, n4, c4, rfl, hi2, hb⟩
  have HA2 := Lib.hid (And.intro (HA1.out.1.below hb) (And.intro (HA1.out.2.1.below hb) (And.intro (HA1.out.2.2.1.trans (hb.mono HA1.out.2.2.1.size)) (And.intro (HA1.out.2.2.2.1.here hb) True.intro))))
  have HI2 := Lib.hid (And.intro (HI1.out.below hb) hi2)
  clear hi2 HI1
  clear hb HA1
  have hf2 := HA2.out.2.2.2.1
  obtain ⟨f0, f1, f2⟩ := hf2.cells
  have lF := Whole.lt hf2
  clear hf2
  go_wp2_with fail
  clear f0 f1 f2 lF
  refine (bytes_any wd A gs.length c ot gs A2 l.length c2 l _ HA2.out.1 HA2.out.2.1 (by omega)).mono ?_
  rintro e w3 ⟨rfl, hb⟩
  have HA3 := Lib.hid (And.intro (HA2.out.1.below hb) (And.intro (HA2.out.2.1.below hb) (And.intro (HA2.out.2.2.1.trans (hb.mono HA2.out.2.2.1.size)) (And.intro (HA2.out.2.2.2.1.here hb) True.intro))))
  have HI3 := Lib.hid (And.intro (HI2.out.1.below hb) (HI2.out.2.below hb))
  clear HI2
  clear hb HA2
  have hf3 := HA3.out.2.2.2.1
  obtain ⟨f0, f1, f2⟩ := hf3.cells
  have lF := Whole.lt hf3
  clear hf3
  go_wp2_with fail
  clear f0 f1 f2 lF
  refine (rbytes_any wd A gs.length c ot gs A2 l.length c2 l _ HA3.out.1 HA3.out.2.1 (by omega) (by omega)).mono ?_
  rintro e w4 ⟨rfl, hb⟩
  have HA4 := Lib.hid (And.intro (HA3.out.1.below hb) (And.intro (HA3.out.2.1.below hb) (And.intro (HA3.out.2.2.1.trans (hb.mono HA3.out.2.2.1.size)) (And.intro (HA3.out.2.2.2.1.here hb) True.intro))))
  have HI4 := Lib.hid (And.intro (HI3.out.1.below hb) (HI3.out.2.below hb))
  clear HI3
  clear hb HA3
  have hf4 := HA4.out.2.2.2.1
  obtain ⟨f0, f1, f2⟩ := hf4.cells
  have lF := Whole.lt hf4
  clear hf4
  go_wp2_with fail
  clear f0 f1 f2 lF
  refine (means_any wd A gs.length c ot gs A2 l.length c2 l _ HA4.out.1 HA4.out.2.1 (by omega) (by omega)).mono ?_
  rintro e w5 ⟨rfl, hb⟩
  have HA5 := Lib.hid (And.intro (HA4.out.1.below hb) (And.intro (HA4.out.2.1.below hb) (And.intro (HA4.out.2.2.1.trans (hb.mono HA4.out.2.2.1.size)) (And.intro (HA4.out.2.2.2.1.here hb) True.intro))))
  have HI5 := Lib.hid (And.intro (HI4.out.1.below hb) (HI4.out.2.below hb))
  clear HI4
  clear hb HA4
  have hf5 := HA5.out.2.2.2.1
  obtain ⟨f0, f1, f2⟩ := hf5.cells
  have lF := Whole.lt hf5
  clear hf5
  go_wp2_with fail
  clear f0 f1 f2 lF
  refine (rmeans19_any wd A gs.length c ot gs A2 l.length c2 l _ HA5.out.1 HA5.out.2.1 (by omega) (by omega)).mono ?_
  rintro e w6 ⟨rfl, hb⟩
  have HA6 := Lib.hid (And.intro (HA5.out.1.below hb) (And.intro (HA5.out.2.1.below hb) (And.intro (HA5.out.2.2.1.trans (hb.mono HA5.out.2.2.1.size)) (And.intro (HA5.out.2.2.2.1.here hb) True.intro))))
  have HI6 := Lib.hid (And.intro (HI5.out.1.below hb) (HI5.out.2.below hb))
  clear HI5
  clear hb HA5
  have hf6 := HA6.out.2.2.2.1
  obtain ⟨f0, f1, f2⟩ := hf6.cells
  have lF := Whole.lt hf6
  clear hf6
  go_wp2_with fail
  clear f0 f1 f2 lF
  generalize codesE wd ot gs s = E1 at *
  generalize chkC wd ot gs l = E2 at *
  generalize bytesS wd ot gs l = S2 at *
  generalize meansE wd ot gs l = E3 at *
  generalize meansS wd ot gs l = S3 at *
  cases hk : chkB wd ot gs
  · have HCK := Lib.hid (chk_f hk)
    have HCB := Lib.hid hk
    clear hk
    have HC : Hid (∀ v, Below w6.heap.size w6 v → (fun v => (v.cell? ⟨w.heap.size, 0, none⟩ = some (.bool wd) ∧ v.cell? ⟨w.heap.size, 1, none⟩ = some (.slice A gs.length c) ∧ v.cell? ⟨w.heap.size, 2, none⟩ = some (.int .i64 ot)) ∧ Below w6.heap.size w6 v) v) := Lib.hid (fun v hb => ⟨(FB.here HA6.out.2.2.2.1 hb).cells, hb⟩)
    have hS := HC.out w6.drew ((Below.refl w6.heap.size w6).drew)
    refine wp_region_C (fun v => (v.cell? ⟨w.heap.size, 0, none⟩ = some (.bool wd) ∧ v.cell? ⟨w.heap.size, 1, none⟩ = some (.slice A gs.length c) ∧ v.cell? ⟨w.heap.size, 2, none⟩ = some (.int .i64 ot)) ∧ Below w6.heap.size w6 v) (by kernel_rfl) ?_
    refine wpAnyC_one (j := 0) (by kernel_rfl) rfl (fun K hK => ?_)
    go_simp
    go_at_call 13
    refine (awake_any _).mono ?_
    rintro e V ⟨rfl, kk⟩
    have hS := HC.out V (hS.2.trans (kk.mono hS.2.size))
    clear kk
    go_wp2_with fail
    refine hK.out _ _ ⟨hS, ?_⟩
    clear hK K
    try simp only [Act.put, List.setIfInBounds_toArray, List.set_cons_zero, List.set_cons_succ]
    refine wpAnyC_take (i := 1) (v := ?v1) rfl (by kernel_rfl) (fun _ _ _ h => h) (Or.inl ⟨by rfl, ?y1⟩) hS ?r1
    case y1 => intro wq _; go_simp; all_goals (first | with_reducible rfl | (simp; done) | (simp; omega) | skip)
    try simp only [Act.put, List.setIfInBounds_toArray, List.set_cons_zero, List.set_cons_succ]
    refine wpAnyC_take (i := 2) (v := ?v2) rfl (by kernel_rfl) (fun _ _ _ h => h) (Or.inl ⟨by rfl, ?y2⟩) hS ?r2
    case y2 => rintro wq ⟨⟨c0, c1, c2⟩, -⟩; go_simp; try with_reducible rfl
    try simp only [Act.put, List.setIfInBounds_toArray, List.set_cons_zero, List.set_cons_succ]
    refine wpAnyC_take (i := 5) (v := ?v3) rfl (by kernel_rfl) (fun _ _ _ h => h) (Or.inl ⟨by rfl, ?y3⟩) hS ?r3
    case y3 => rintro wq ⟨⟨c0, c1, c2⟩, -⟩; go_simp; try with_reducible rfl
    try simp only [Act.put, List.setIfInBounds_toArray, List.set_cons_zero, List.set_cons_succ]
    refine wpAnyC_one (j := 3) (by kernel_rfl) rfl (fun K hK => ?_)
    go_simp
    go_at_call 14
    refine (check_any wd A gs.length c ot gs _ (HA6.out.1.below hS.2)).mono ?_
    rw [HCK.out]
    rintro e V ⟨rfl, kk⟩
    have hS := HC.out V (hS.2.trans (kk.mono hS.2.size))
    clear kk
    go_wp2_with fail
    refine hK.out _ _ ⟨hS, ?_⟩
    clear hK K
    try simp only [Act.put, List.setIfInBounds_toArray, List.set_cons_zero, List.set_cons_succ]
    refine wpAnyC_take (i := 4) (v := .bool false) rfl (by kernel_rfl) (fun _ _ _ h => h) (Or.inl ⟨by rfl, ?y4⟩) hS ?r4
    case y4 => intro wq _; go_simp; all_goals (first | with_reducible rfl | (simp; done) | (simp; omega) | skip)
    try simp only [Act.put, List.setIfInBounds_toArray, List.set_cons_zero, List.set_cons_succ]
    refine wpAnyC_one (j := 6) (by kernel_rfl) rfl (fun K hK => ?_)
    go_simp
    go_at_call 15
    refine (rright_any wd A gs.length c ot gs _ (HA6.out.1.below hS.2) (by omega)).mono ?_
    rw [HCB.out]
    rintro e V ⟨rfl, kk⟩
    have hS := HC.out V (hS.2.trans (kk.mono hS.2.size))
    clear kk
    go_wp2_with fail
    refine hK.out _ _ ⟨hS, ?_⟩
    clear hK K
    try simp only [Act.put, List.setIfInBounds_toArray, List.set_cons_zero, List.set_cons_succ]
    refine wpAnyC_take (i := 7) (v := .bool true) rfl (by kernel_rfl) (fun _ _ _ h => h) (Or.inl ⟨by rfl, ?y5⟩) hS ?r5
    case y5 => intro wq _; go_simp; all_goals (first | with_reducible rfl | (simp; done) | (simp; omega) | skip)
    try simp only [Act.put, List.setIfInBounds_toArray, List.set_cons_zero, List.set_cons_succ]
    refine wpAnyC_take (i := 8) (v := .bool true) rfl (by kernel_rfl) (fun _ _ _ h => h) (Or.inl ⟨by rfl, ?y6⟩) hS ?r6
    case y6 => intro wq _; go_simp; all_goals (first | with_reducible rfl | (simp; done) | (simp; omega) | skip)
    try simp only [Act.put, List.setIfInBounds_toArray, List.set_cons_zero, List.set_cons_succ]
    refine wpAnyC_take (i := 9) (v := ?v7) rfl (by kernel_rfl) (fun _ _ _ h => h) (Or.inl ⟨by rfl, ?y7⟩) hS ?r7
    case y7 => intro wq _; go_simp; all_goals (first | with_reducible rfl | (simp; done) | (simp; omega) | skip)
    try simp only [Act.put, List.setIfInBounds_toArray, List.set_cons_zero, List.set_cons_succ]
    refine wpAnyC_take (i := 10) (v := ?v8) rfl (by kernel_rfl) (fun _ _ _ h => h) (Or.inl ⟨by rfl, ?y8⟩) hS ?r8
    case y8 => rintro wq ⟨⟨c0, c1, c2⟩, -⟩; go_simp; try with_reducible rfl
    try simp only [Act.put, List.setIfInBounds_toArray, List.set_cons_zero, List.set_cons_succ]
    refine wpAnyC_take (i := 11) (v := ?v9) rfl (by kernel_rfl) (fun _ _ _ h => h) (Or.inl ⟨by rfl, ?y9⟩) hS ?r9
    case y9 => intro wq _; go_simp; all_goals (first | with_reducible rfl | (simp; done) | (simp; omega) | skip)
    try simp only [Act.put, List.setIfInBounds_toArray, List.set_cons_zero, List.set_cons_succ]
    refine wpAnyC_take (i := 13) (v := ?v10) rfl (by kernel_rfl) (fun _ _ _ h => h) (Or.inl ⟨by rfl, ?y10⟩) hS ?r10
    case y10 => rintro wq ⟨⟨c0, c1, c2⟩, -⟩; go_simp; try with_reducible rfl
    try simp only [Act.put, List.setIfInBounds_toArray, List.set_cons_zero, List.set_cons_succ]
    refine wpAnyC_take (i := 14) (v := ?v11) rfl (by kernel_rfl) (fun _ _ _ h => h) (Or.inl ⟨by rfl, ?y11⟩) hS ?r11
    case y11 => intro wq _; go_simp; all_goals (first | with_reducible rfl | (simp; done) | (simp; omega) | skip)
    try simp only [Act.put, List.setIfInBounds_toArray, List.set_cons_zero, List.set_cons_succ]
    refine wpAnyC_one (j := 12) (by kernel_rfl) rfl (fun K hK => ?_)
    go_simp
    go_at_call 16
    refine (find_any wd A gs.length c ot gs code _ (HA6.out.1.below hS.2) (by omega)).mono ?_
    rintro e V ⟨rfl, kk⟩
    have hS := HC.out V (hS.2.trans (kk.mono hS.2.size))
    clear kk
    go_wp2_with fail
    refine hK.out _ _ ⟨hS, ?_⟩
    clear hK K
    try simp only [Act.put, List.setIfInBounds_toArray, List.set_cons_zero, List.set_cons_succ]
    refine wpAnyC_one (j := 15) (by kernel_rfl) rfl (fun K hK => ?_)
    go_simp
    go_at_call 17
    refine (rfind_any wd A gs.length c ot gs code _ (HA6.out.1.below hS.2) (by omega)).mono ?_
    rintro e V ⟨rfl, kk⟩
    have hS := HC.out V (hS.2.trans (kk.mono hS.2.size))
    clear kk
    go_wp2_with fail
    refine hK.out _ _ ⟨hS, ?_⟩
    clear hK K
    try simp only [Act.put, List.setIfInBounds_toArray, List.set_cons_zero, List.set_cons_succ]
    refine wpAnyC_take (i := 16) (v := .bool true) rfl (by kernel_rfl) (fun _ _ _ h => h) (Or.inl ⟨by rfl, ?y12⟩) hS ?r12
    case y12 => intro wq _; go_simp; all_goals (first | with_reducible rfl | (simp; done) | (simp; omega) | skip)
    try simp only [Act.put, List.setIfInBounds_toArray, List.set_cons_zero, List.set_cons_succ]
    refine wpAnyC_take (i := 17) (v := .bool true) rfl (by kernel_rfl) (fun _ _ _ h => h) (Or.inl ⟨by rfl, ?y13⟩) hS ?r13
    case y13 => intro wq _; go_simp; all_goals (first | with_reducible rfl | (simp; done) | (simp; omega) | skip)
    try simp only [Act.put, List.setIfInBounds_toArray, List.set_cons_zero, List.set_cons_succ]
    refine wpAnyC_take (i := 18) (v := ?v14) rfl (by kernel_rfl) (fun _ _ _ h => h) (Or.inl ⟨by rfl, ?y14⟩) hS ?r14
    case y14 => intro wq _; go_simp; all_goals (first | with_reducible rfl | (simp; done) | (simp; omega) | skip)
    try simp only [Act.put, List.setIfInBounds_toArray, List.set_cons_zero, List.set_cons_succ]
    refine wpAnyC_take (i := 19) (v := ?v15) rfl (by kernel_rfl) (fun _ _ _ h => h) (Or.inl ⟨by rfl, ?y15⟩) hS ?r15
    case y15 => intro wq _; go_simp; all_goals (first | with_reducible rfl | (simp; done) | (simp; omega) | skip)
    try simp only [Act.put, List.setIfInBounds_toArray, List.set_cons_zero, List.set_cons_succ]
    refine wpAnyC_take (i := 20) (v := ?v16) rfl (by kernel_rfl) (fun _ _ _ h => h) (Or.inl ⟨by rfl, ?y16⟩) hS ?r16
    case y16 => intro wq _; go_simp; all_goals (first | with_reducible rfl | (simp; done) | (simp; omega) | skip)
    try simp only [Act.put, List.setIfInBounds_toArray, List.set_cons_zero, List.set_cons_succ]
    refine wpAnyC_one (j := 21) (by kernel_rfl) rfl (fun K hK => ?_)
    go_simp
    go_at_call 18
    refine (ints_same _ _ _ _ _ _ _ _ (HI6.out.1.below hS.2) (HI6.out.2.below hS.2)).mono ?_
    rintro e V ⟨rfl, kj, rfl⟩
    have hS := HC.out _ (below_drewN hS.2 kj)
    go_wp2_with fail
    refine hK.out _ _ ⟨hS, ?_⟩
    clear hK K
    try simp only [Act.put, List.setIfInBounds_toArray, List.set_cons_zero, List.set_cons_succ]
    refine wpAnyC_take (i := 22) (v := .bool true) rfl (by kernel_rfl) (fun _ _ _ h => h) (Or.inl ⟨by rfl, ?y17⟩) hS ?r17
    case y17 => intro wq _; go_simp; all_goals (first | with_reducible rfl | (simp; done) | (simp; omega) | skip)
    try simp only [Act.put, List.setIfInBounds_toArray, List.set_cons_zero, List.set_cons_succ]
    refine wpAnyC_take (i := 23) (v := ?v18) rfl (by kernel_rfl) (fun _ _ _ h => h) (Or.inl ⟨by rfl, ?y18⟩) hS ?r18
    case y18 => intro wq _; go_simp; all_goals (first | with_reducible rfl | (simp; done) | (simp; omega) | skip)
    try simp only [Act.put, List.setIfInBounds_toArray, List.set_cons_zero, List.set_cons_succ]
    refine wpAnyC_take (i := 24) (v := ?v19) rfl (by kernel_rfl) (fun _ _ _ h => h) (Or.inl ⟨by rfl, ?y19⟩) hS ?r19
    case y19 => intro wq _; go_simp; all_goals (first | with_reducible rfl | (simp; done) | (simp; omega) | skip)
    try simp only [Act.put, List.setIfInBounds_toArray, List.set_cons_zero, List.set_cons_succ]
    refine wpAnyC_take (i := 25) (v := ?v20) rfl (by kernel_rfl) (fun _ _ _ h => h) (Or.inl ⟨by rfl, ?y20⟩) hS ?r20
    case y20 => intro wq _; go_simp; all_goals (first | with_reducible rfl | (simp; done) | (simp; omega) | skip)
    try simp only [Act.put, List.setIfInBounds_toArray, List.set_cons_zero, List.set_cons_succ]
    refine wpAnyC_take (i := 26) (v := .bool true) rfl (by kernel_rfl) (fun _ _ _ h => h) (Or.inl ⟨by rfl, ?y21⟩) hS ?r21
    case y21 => intro wq _; go_simp; all_goals (first | with_reducible rfl | (simp; done) | (simp; omega) | skip)
    try simp only [Act.put, List.setIfInBounds_toArray, List.set_cons_zero, List.set_cons_succ]
    refine wpAnyC_take (i := 27) (v := .bool true) rfl (by kernel_rfl) (fun _ _ _ h => h) (Or.inl ⟨by rfl, ?y22⟩) hS ?r22
    case y22 => intro wq _; go_simp; all_goals (first | with_reducible rfl | (simp; done) | (simp; omega) | skip)
    try simp only [Act.put, List.setIfInBounds_toArray, List.set_cons_zero, List.set_cons_succ]
    refine wpAnyC_take (i := 28) (v := ?v23) rfl (by kernel_rfl) (fun _ _ _ h => h) (Or.inl ⟨by rfl, ?y23⟩) hS ?r23
    case y23 => intro wq _; go_simp; all_goals (first | with_reducible rfl | (simp; done) | (simp; omega) | skip)
    try simp only [Act.put, List.setIfInBounds_toArray, List.set_cons_zero, List.set_cons_succ]
    refine wpAnyC_take (i := 29) (v := ?v24) rfl (by kernel_rfl) (fun _ _ _ h => h) (Or.inl ⟨by rfl, ?y24⟩) hS ?r24
    case y24 => intro wq _; go_simp; all_goals (first | with_reducible rfl | (simp; done) | (simp; omega) | skip)
    try simp only [Act.put, List.setIfInBounds_toArray, List.set_cons_zero, List.set_cons_succ]
    refine wpAnyC_take (i := 30) (v := ?v25) rfl (by kernel_rfl) (fun _ _ _ h => h) (Or.inl ⟨by rfl, ?y25⟩) hS ?r25
    case y25 => intro wq _; go_simp; all_goals (first | with_reducible rfl | (simp; done) | (simp; omega) | skip)
    try simp only [Act.put, List.setIfInBounds_toArray, List.set_cons_zero, List.set_cons_succ]
    refine wpAnyC_take (i := 31) (v := .bool true) rfl (by kernel_rfl) (fun _ _ _ h => h) (Or.inl ⟨by rfl, ?y26⟩) hS ?r26
    case y26 => intro wq _; go_simp; all_goals (first | with_reducible rfl | (simp; done) | (simp; omega) | skip)
    try simp only [Act.put, List.setIfInBounds_toArray, List.set_cons_zero, List.set_cons_succ]
    refine wpAnyC_take (i := 32) (v := .bool true) rfl (by kernel_rfl) (fun _ _ _ h => h) (Or.inl ⟨by rfl, ?y27⟩) hS ?r27
    case y27 => intro wq _; go_simp; all_goals (first | with_reducible rfl | (simp; done) | (simp; omega) | skip)
    try simp only [Act.put, List.setIfInBounds_toArray, List.set_cons_zero, List.set_cons_succ]
    refine wpAnyC_take (i := 33) (v := ?v28) rfl (by kernel_rfl) (fun _ _ _ h => h) (Or.inl ⟨by rfl, ?y28⟩) hS ?r28
    case y28 => intro wq _; go_simp; all_goals (first | with_reducible rfl | (simp; done) | (simp; omega) | skip)
    try simp only [Act.put, List.setIfInBounds_toArray, List.set_cons_zero, List.set_cons_succ]
    refine wpAnyC_take (i := 34) (v := ?v29) rfl (by kernel_rfl) (fun _ _ _ h => h) (Or.inl ⟨by rfl, ?y29⟩) hS ?r29
    case y29 => intro wq _; go_simp; all_goals (first | with_reducible rfl | (simp; done) | (simp; omega) | skip)
    try simp only [Act.put, List.setIfInBounds_toArray, List.set_cons_zero, List.set_cons_succ]
    refine wpAnyC_take (i := 35) (v := ?v30) rfl (by kernel_rfl) (fun _ _ _ h => h) (Or.inl ⟨by rfl, ?y30⟩) hS ?r30
    case y30 => intro wq _; go_simp; all_goals (first | with_reducible rfl | (simp; done) | (simp; omega) | skip)
    try simp only [Act.put, List.setIfInBounds_toArray, List.set_cons_zero, List.set_cons_succ]
    refine wpAnyC_take (i := 36) (v := .bool true) rfl (by kernel_rfl) (fun _ _ _ h => h) (Or.inl ⟨by rfl, ?y31⟩) hS ?r31
    case y31 => intro wq _; go_simp; all_goals (first | with_reducible rfl | (simp; done) | (simp; omega) | skip)
    try simp only [Act.put, List.setIfInBounds_toArray, List.set_cons_zero, List.set_cons_succ]
    refine wpAnyC_take (i := 37) (v := .bool true) rfl (by kernel_rfl) (fun _ _ _ h => h) (Or.inl ⟨by rfl, ?y32⟩) hS ?r32
    case y32 => intro wq _; go_simp; all_goals (first | with_reducible rfl | (simp; done) | (simp; omega) | skip)
    try simp only [Act.put, List.setIfInBounds_toArray, List.set_cons_zero, List.set_cons_succ]
    refine wpAnyC_take (i := 38) (v := ?v33) rfl (by kernel_rfl) (fun _ _ _ h => h) (Or.inl ⟨by rfl, ?y33⟩) hS ?r33
    case y33 => intro wq _; go_simp; all_goals (first | with_reducible rfl | (simp; done) | (simp; omega) | skip)
    try simp only [Act.put, List.setIfInBounds_toArray, List.set_cons_zero, List.set_cons_succ]
    refine wpAnyC_take (i := 39) (v := ?v34) rfl (by kernel_rfl) (fun _ _ _ h => h) (Or.inl ⟨by rfl, ?y34⟩) hS ?r34
    case y34 => intro wq _; go_simp; all_goals (first | with_reducible rfl | (simp; done) | (simp; omega) | skip)
    try simp only [Act.put, List.setIfInBounds_toArray, List.set_cons_zero, List.set_cons_succ]
    refine wpAnyC_take (i := 40) (v := ?v35) rfl (by kernel_rfl) (fun _ _ _ h => h) (Or.inl ⟨by rfl, ?y35⟩) hS ?r35
    case y35 => intro wq _; go_simp; all_goals (first | with_reducible rfl | (simp; done) | (simp; omega) | skip)
    try simp only [Act.put, List.setIfInBounds_toArray, List.set_cons_zero, List.set_cons_succ]
    refine wpAnyC_take (i := 41) (v := .bool true) rfl (by kernel_rfl) (fun _ _ _ h => h) (Or.inl ⟨by rfl, ?y36⟩) hS ?r36
    case y36 => intro wq _; go_simp; all_goals (first | with_reducible rfl | (simp; done) | (simp; omega) | skip)
    try simp only [Act.put, List.setIfInBounds_toArray, List.set_cons_zero, List.set_cons_succ]
    refine wpAnyC_take (i := 42) (v := .bool true) rfl (by kernel_rfl) (fun _ _ _ h => h) (Or.inl ⟨by rfl, ?y37⟩) hS ?r37
    case y37 => intro wq _; go_simp; all_goals (first | with_reducible rfl | (simp; done) | (simp; omega) | skip)
    try simp only [Act.put, List.setIfInBounds_toArray, List.set_cons_zero, List.set_cons_succ]
    refine wpAnyC_take (i := 43) (v := ?v38) rfl (by kernel_rfl) (fun _ _ _ h => h) (Or.inl ⟨by rfl, ?y38⟩) hS ?r38
    case y38 => intro wq _; go_simp; all_goals (first | with_reducible rfl | (simp; done) | (simp; omega) | skip)
    try simp only [Act.put, List.setIfInBounds_toArray, List.set_cons_zero, List.set_cons_succ]
    refine wpAnyC_take (i := 44) (v := ?v39) rfl (by kernel_rfl) (fun _ _ _ h => h) (Or.inl ⟨by rfl, ?y39⟩) hS ?r39
    case y39 => intro wq _; go_simp; all_goals (first | with_reducible rfl | (simp; done) | (simp; omega) | skip)
    try simp only [Act.put, List.setIfInBounds_toArray, List.set_cons_zero, List.set_cons_succ]
    refine wpAnyC_take (i := 45) (v := ?v40) rfl (by kernel_rfl) (fun _ _ _ h => h) (Or.inl ⟨by rfl, ?y40⟩) hS ?r40
    case y40 => intro wq _; go_simp; all_goals (first | with_reducible rfl | (simp; done) | (simp; omega) | skip)
    try simp only [Act.put, List.setIfInBounds_toArray, List.set_cons_zero, List.set_cons_succ]
    refine wpAnyC_take (i := 46) (v := .bool true) rfl (by kernel_rfl) (fun _ _ _ h => h) (Or.inl ⟨by rfl, ?y41⟩) hS ?r41
    case y41 => intro wq _; go_simp; all_goals (first | with_reducible rfl | (simp; done) | (simp; omega) | skip)
    try simp only [Act.put, List.setIfInBounds_toArray, List.set_cons_zero, List.set_cons_succ]
    refine wpAnyC_take (i := 47) (v := .bool true) rfl (by kernel_rfl) (fun _ _ _ h => h) (Or.inl ⟨by rfl, ?y42⟩) hS ?r42
    case y42 => intro wq _; go_simp; all_goals (first | with_reducible rfl | (simp; done) | (simp; omega) | skip)
    try simp only [Act.put, List.setIfInBounds_toArray, List.set_cons_zero, List.set_cons_succ]
    refine wpAnyC_take (i := 48) (v := ?v43) rfl (by kernel_rfl) (fun _ _ _ h => h) (Or.inl ⟨by rfl, ?y43⟩) hS ?r43
    case y43 => intro wq _; go_simp; all_goals (first | with_reducible rfl | (simp; done) | (simp; omega) | skip)
    try simp only [Act.put, List.setIfInBounds_toArray, List.set_cons_zero, List.set_cons_succ]
    refine wpAnyC_done (by kernel_rfl) ?_ _
    go_wp2_with fail
    go_ret
    exact ⟨rfl, HA6.out.2.2.1.trans (hS.2.mono HA6.out.2.2.1.size)⟩
  · have HCK := Lib.hid (chk_t hk)
    have HCB := Lib.hid hk
    clear hk
    have HC : Hid (∀ v, Below w6.heap.size w6 v → (fun v => (v.cell? ⟨w.heap.size, 0, none⟩ = some (.bool wd) ∧ v.cell? ⟨w.heap.size, 1, none⟩ = some (.slice A gs.length c) ∧ v.cell? ⟨w.heap.size, 2, none⟩ = some (.int .i64 ot)) ∧ Below w6.heap.size w6 v) v) := Lib.hid (fun v hb => ⟨(FB.here HA6.out.2.2.2.1 hb).cells, hb⟩)
    have hS := HC.out w6.drew ((Below.refl w6.heap.size w6).drew)
    refine wp_region_C (fun v => (v.cell? ⟨w.heap.size, 0, none⟩ = some (.bool wd) ∧ v.cell? ⟨w.heap.size, 1, none⟩ = some (.slice A gs.length c) ∧ v.cell? ⟨w.heap.size, 2, none⟩ = some (.int .i64 ot)) ∧ Below w6.heap.size w6 v) (by kernel_rfl) ?_
    refine wpAnyC_one (j := 0) (by kernel_rfl) rfl (fun K hK => ?_)
    go_simp
    go_at_call 13
    refine (awake_any _).mono ?_
    rintro e V ⟨rfl, kk⟩
    have hS := HC.out V (hS.2.trans (kk.mono hS.2.size))
    clear kk
    go_wp2_with fail
    refine hK.out _ _ ⟨hS, ?_⟩
    clear hK K
    try simp only [Act.put, List.setIfInBounds_toArray, List.set_cons_zero, List.set_cons_succ]
    refine wpAnyC_take (i := 1) (v := ?v44) rfl (by kernel_rfl) (fun _ _ _ h => h) (Or.inl ⟨by rfl, ?y44⟩) hS ?r44
    case y44 => intro wq _; go_simp; all_goals (first | with_reducible rfl | (simp; done) | (simp; omega) | skip)
    try simp only [Act.put, List.setIfInBounds_toArray, List.set_cons_zero, List.set_cons_succ]
    refine wpAnyC_take (i := 2) (v := ?v45) rfl (by kernel_rfl) (fun _ _ _ h => h) (Or.inl ⟨by rfl, ?y45⟩) hS ?r45
    case y45 => rintro wq ⟨⟨c0, c1, c2⟩, -⟩; go_simp; try with_reducible rfl
    try simp only [Act.put, List.setIfInBounds_toArray, List.set_cons_zero, List.set_cons_succ]
    refine wpAnyC_take (i := 5) (v := ?v46) rfl (by kernel_rfl) (fun _ _ _ h => h) (Or.inl ⟨by rfl, ?y46⟩) hS ?r46
    case y46 => rintro wq ⟨⟨c0, c1, c2⟩, -⟩; go_simp; try with_reducible rfl
    try simp only [Act.put, List.setIfInBounds_toArray, List.set_cons_zero, List.set_cons_succ]
    refine wpAnyC_one (j := 3) (by kernel_rfl) rfl (fun K hK => ?_)
    go_simp
    go_at_call 14
    refine (check_any wd A gs.length c ot gs _ (HA6.out.1.below hS.2)).mono ?_
    rw [HCK.out]
    rintro e V ⟨rfl, kk⟩
    have hS := HC.out V (hS.2.trans (kk.mono hS.2.size))
    clear kk
    go_wp2_with fail
    refine hK.out _ _ ⟨hS, ?_⟩
    clear hK K
    try simp only [Act.put, List.setIfInBounds_toArray, List.set_cons_zero, List.set_cons_succ]
    refine wpAnyC_take (i := 4) (v := .bool true) rfl (by kernel_rfl) (fun _ _ _ h => h) (Or.inl ⟨by rfl, ?y47⟩) hS ?r47
    case y47 => intro wq _; go_simp; all_goals (first | with_reducible rfl | (simp; done) | (simp; omega) | skip)
    try simp only [Act.put, List.setIfInBounds_toArray, List.set_cons_zero, List.set_cons_succ]
    refine wpAnyC_one (j := 6) (by kernel_rfl) rfl (fun K hK => ?_)
    go_simp
    go_at_call 15
    refine (rright_any wd A gs.length c ot gs _ (HA6.out.1.below hS.2) (by omega)).mono ?_
    rw [HCB.out]
    rintro e V ⟨rfl, kk⟩
    have hS := HC.out V (hS.2.trans (kk.mono hS.2.size))
    clear kk
    go_wp2_with fail
    refine hK.out _ _ ⟨hS, ?_⟩
    clear hK K
    try simp only [Act.put, List.setIfInBounds_toArray, List.set_cons_zero, List.set_cons_succ]
    refine wpAnyC_take (i := 7) (v := .bool true) rfl (by kernel_rfl) (fun _ _ _ h => h) (Or.inl ⟨by rfl, ?y48⟩) hS ?r48
    case y48 => intro wq _; go_simp; all_goals (first | with_reducible rfl | (simp; done) | (simp; omega) | skip)
    try simp only [Act.put, List.setIfInBounds_toArray, List.set_cons_zero, List.set_cons_succ]
    refine wpAnyC_take (i := 8) (v := .bool true) rfl (by kernel_rfl) (fun _ _ _ h => h) (Or.inl ⟨by rfl, ?y49⟩) hS ?r49
    case y49 => intro wq _; go_simp; all_goals (first | with_reducible rfl | (simp; done) | (simp; omega) | skip)
    try simp only [Act.put, List.setIfInBounds_toArray, List.set_cons_zero, List.set_cons_succ]
    refine wpAnyC_take (i := 9) (v := ?v50) rfl (by kernel_rfl) (fun _ _ _ h => h) (Or.inl ⟨by rfl, ?y50⟩) hS ?r50
    case y50 => intro wq _; go_simp; all_goals (first | with_reducible rfl | (simp; done) | (simp; omega) | skip)
    try simp only [Act.put, List.setIfInBounds_toArray, List.set_cons_zero, List.set_cons_succ]
    refine wpAnyC_take (i := 10) (v := ?v51) rfl (by kernel_rfl) (fun _ _ _ h => h) (Or.inl ⟨by rfl, ?y51⟩) hS ?r51
    case y51 => rintro wq ⟨⟨c0, c1, c2⟩, -⟩; go_simp; try with_reducible rfl
    try simp only [Act.put, List.setIfInBounds_toArray, List.set_cons_zero, List.set_cons_succ]
    refine wpAnyC_take (i := 11) (v := ?v52) rfl (by kernel_rfl) (fun _ _ _ h => h) (Or.inl ⟨by rfl, ?y52⟩) hS ?r52
    case y52 => intro wq _; go_simp; all_goals (first | with_reducible rfl | (simp; done) | (simp; omega) | skip)
    try simp only [Act.put, List.setIfInBounds_toArray, List.set_cons_zero, List.set_cons_succ]
    refine wpAnyC_take (i := 13) (v := ?v53) rfl (by kernel_rfl) (fun _ _ _ h => h) (Or.inl ⟨by rfl, ?y53⟩) hS ?r53
    case y53 => rintro wq ⟨⟨c0, c1, c2⟩, -⟩; go_simp; try with_reducible rfl
    try simp only [Act.put, List.setIfInBounds_toArray, List.set_cons_zero, List.set_cons_succ]
    refine wpAnyC_take (i := 14) (v := ?v54) rfl (by kernel_rfl) (fun _ _ _ h => h) (Or.inl ⟨by rfl, ?y54⟩) hS ?r54
    case y54 => intro wq _; go_simp; all_goals (first | with_reducible rfl | (simp; done) | (simp; omega) | skip)
    try simp only [Act.put, List.setIfInBounds_toArray, List.set_cons_zero, List.set_cons_succ]
    refine wpAnyC_one (j := 12) (by kernel_rfl) rfl (fun K hK => ?_)
    go_simp
    go_at_call 16
    refine (find_any wd A gs.length c ot gs code _ (HA6.out.1.below hS.2) (by omega)).mono ?_
    rintro e V ⟨rfl, kk⟩
    have hS := HC.out V (hS.2.trans (kk.mono hS.2.size))
    clear kk
    go_wp2_with fail
    refine hK.out _ _ ⟨hS, ?_⟩
    clear hK K
    try simp only [Act.put, List.setIfInBounds_toArray, List.set_cons_zero, List.set_cons_succ]
    refine wpAnyC_one (j := 15) (by kernel_rfl) rfl (fun K hK => ?_)
    go_simp
    go_at_call 17
    refine (rfind_any wd A gs.length c ot gs code _ (HA6.out.1.below hS.2) (by omega)).mono ?_
    rintro e V ⟨rfl, kk⟩
    have hS := HC.out V (hS.2.trans (kk.mono hS.2.size))
    clear kk
    go_wp2_with fail
    refine hK.out _ _ ⟨hS, ?_⟩
    clear hK K
    try simp only [Act.put, List.setIfInBounds_toArray, List.set_cons_zero, List.set_cons_succ]
    refine wpAnyC_take (i := 16) (v := .bool true) rfl (by kernel_rfl) (fun _ _ _ h => h) (Or.inl ⟨by rfl, ?y55⟩) hS ?r55
    case y55 => intro wq _; go_simp; all_goals (first | with_reducible rfl | (simp; done) | (simp; omega) | skip)
    try simp only [Act.put, List.setIfInBounds_toArray, List.set_cons_zero, List.set_cons_succ]
    refine wpAnyC_take (i := 17) (v := .bool true) rfl (by kernel_rfl) (fun _ _ _ h => h) (Or.inl ⟨by rfl, ?y56⟩) hS ?r56
    case y56 => intro wq _; go_simp; all_goals (first | with_reducible rfl | (simp; done) | (simp; omega) | skip)
    try simp only [Act.put, List.setIfInBounds_toArray, List.set_cons_zero, List.set_cons_succ]
    refine wpAnyC_take (i := 18) (v := ?v57) rfl (by kernel_rfl) (fun _ _ _ h => h) (Or.inl ⟨by rfl, ?y57⟩) hS ?r57
    case y57 => intro wq _; go_simp; all_goals (first | with_reducible rfl | (simp; done) | (simp; omega) | skip)
    try simp only [Act.put, List.setIfInBounds_toArray, List.set_cons_zero, List.set_cons_succ]
    refine wpAnyC_take (i := 19) (v := ?v58) rfl (by kernel_rfl) (fun _ _ _ h => h) (Or.inl ⟨by rfl, ?y58⟩) hS ?r58
    case y58 => intro wq _; go_simp; all_goals (first | with_reducible rfl | (simp; done) | (simp; omega) | skip)
    try simp only [Act.put, List.setIfInBounds_toArray, List.set_cons_zero, List.set_cons_succ]
    refine wpAnyC_take (i := 20) (v := ?v59) rfl (by kernel_rfl) (fun _ _ _ h => h) (Or.inl ⟨by rfl, ?y59⟩) hS ?r59
    case y59 => intro wq _; go_simp; all_goals (first | with_reducible rfl | (simp; done) | (simp; omega) | skip)
    try simp only [Act.put, List.setIfInBounds_toArray, List.set_cons_zero, List.set_cons_succ]
    refine wpAnyC_one (j := 21) (by kernel_rfl) rfl (fun K hK => ?_)
    go_simp
    go_at_call 18
    refine (ints_same _ _ _ _ _ _ _ _ (HI6.out.1.below hS.2) (HI6.out.2.below hS.2)).mono ?_
    rintro e V ⟨rfl, kj, rfl⟩
    have hS := HC.out _ (below_drewN hS.2 kj)
    go_wp2_with fail
    refine hK.out _ _ ⟨hS, ?_⟩
    clear hK K
    try simp only [Act.put, List.setIfInBounds_toArray, List.set_cons_zero, List.set_cons_succ]
    refine wpAnyC_take (i := 22) (v := .bool true) rfl (by kernel_rfl) (fun _ _ _ h => h) (Or.inl ⟨by rfl, ?y60⟩) hS ?r60
    case y60 => intro wq _; go_simp; all_goals (first | with_reducible rfl | (simp; done) | (simp; omega) | skip)
    try simp only [Act.put, List.setIfInBounds_toArray, List.set_cons_zero, List.set_cons_succ]
    refine wpAnyC_take (i := 23) (v := ?v61) rfl (by kernel_rfl) (fun _ _ _ h => h) (Or.inl ⟨by rfl, ?y61⟩) hS ?r61
    case y61 => intro wq _; go_simp; all_goals (first | with_reducible rfl | (simp; done) | (simp; omega) | skip)
    try simp only [Act.put, List.setIfInBounds_toArray, List.set_cons_zero, List.set_cons_succ]
    refine wpAnyC_take (i := 24) (v := ?v62) rfl (by kernel_rfl) (fun _ _ _ h => h) (Or.inl ⟨by rfl, ?y62⟩) hS ?r62
    case y62 => intro wq _; go_simp; all_goals (first | with_reducible rfl | (simp; done) | (simp; omega) | skip)
    try simp only [Act.put, List.setIfInBounds_toArray, List.set_cons_zero, List.set_cons_succ]
    refine wpAnyC_take (i := 25) (v := ?v63) rfl (by kernel_rfl) (fun _ _ _ h => h) (Or.inl ⟨by rfl, ?y63⟩) hS ?r63
    case y63 => intro wq _; go_simp; all_goals (first | with_reducible rfl | (simp; done) | (simp; omega) | skip)
    try simp only [Act.put, List.setIfInBounds_toArray, List.set_cons_zero, List.set_cons_succ]
    refine wpAnyC_take (i := 26) (v := .bool true) rfl (by kernel_rfl) (fun _ _ _ h => h) (Or.inl ⟨by rfl, ?y64⟩) hS ?r64
    case y64 => intro wq _; go_simp; all_goals (first | with_reducible rfl | (simp; done) | (simp; omega) | skip)
    try simp only [Act.put, List.setIfInBounds_toArray, List.set_cons_zero, List.set_cons_succ]
    refine wpAnyC_take (i := 27) (v := .bool true) rfl (by kernel_rfl) (fun _ _ _ h => h) (Or.inl ⟨by rfl, ?y65⟩) hS ?r65
    case y65 => intro wq _; go_simp; all_goals (first | with_reducible rfl | (simp; done) | (simp; omega) | skip)
    try simp only [Act.put, List.setIfInBounds_toArray, List.set_cons_zero, List.set_cons_succ]
    refine wpAnyC_take (i := 28) (v := ?v66) rfl (by kernel_rfl) (fun _ _ _ h => h) (Or.inl ⟨by rfl, ?y66⟩) hS ?r66
    case y66 => intro wq _; go_simp; all_goals (first | with_reducible rfl | (simp; done) | (simp; omega) | skip)
    try simp only [Act.put, List.setIfInBounds_toArray, List.set_cons_zero, List.set_cons_succ]
    refine wpAnyC_take (i := 29) (v := ?v67) rfl (by kernel_rfl) (fun _ _ _ h => h) (Or.inl ⟨by rfl, ?y67⟩) hS ?r67
    case y67 => intro wq _; go_simp; all_goals (first | with_reducible rfl | (simp; done) | (simp; omega) | skip)
    try simp only [Act.put, List.setIfInBounds_toArray, List.set_cons_zero, List.set_cons_succ]
    refine wpAnyC_take (i := 30) (v := ?v68) rfl (by kernel_rfl) (fun _ _ _ h => h) (Or.inl ⟨by rfl, ?y68⟩) hS ?r68
    case y68 => intro wq _; go_simp; all_goals (first | with_reducible rfl | (simp; done) | (simp; omega) | skip)
    try simp only [Act.put, List.setIfInBounds_toArray, List.set_cons_zero, List.set_cons_succ]
    refine wpAnyC_take (i := 31) (v := .bool true) rfl (by kernel_rfl) (fun _ _ _ h => h) (Or.inl ⟨by rfl, ?y69⟩) hS ?r69
    case y69 => intro wq _; go_simp; all_goals (first | with_reducible rfl | (simp; done) | (simp; omega) | skip)
    try simp only [Act.put, List.setIfInBounds_toArray, List.set_cons_zero, List.set_cons_succ]
    refine wpAnyC_take (i := 32) (v := .bool true) rfl (by kernel_rfl) (fun _ _ _ h => h) (Or.inl ⟨by rfl, ?y70⟩) hS ?r70
    case y70 => intro wq _; go_simp; all_goals (first | with_reducible rfl | (simp; done) | (simp; omega) | skip)
    try simp only [Act.put, List.setIfInBounds_toArray, List.set_cons_zero, List.set_cons_succ]
    refine wpAnyC_take (i := 33) (v := ?v71) rfl (by kernel_rfl) (fun _ _ _ h => h) (Or.inl ⟨by rfl, ?y71⟩) hS ?r71
    case y71 => intro wq _; go_simp; all_goals (first | with_reducible rfl | (simp; done) | (simp; omega) | skip)
    try simp only [Act.put, List.setIfInBounds_toArray, List.set_cons_zero, List.set_cons_succ]
    refine wpAnyC_take (i := 34) (v := ?v72) rfl (by kernel_rfl) (fun _ _ _ h => h) (Or.inl ⟨by rfl, ?y72⟩) hS ?r72
    case y72 => intro wq _; go_simp; all_goals (first | with_reducible rfl | (simp; done) | (simp; omega) | skip)
    try simp only [Act.put, List.setIfInBounds_toArray, List.set_cons_zero, List.set_cons_succ]
    refine wpAnyC_take (i := 35) (v := ?v73) rfl (by kernel_rfl) (fun _ _ _ h => h) (Or.inl ⟨by rfl, ?y73⟩) hS ?r73
    case y73 => intro wq _; go_simp; all_goals (first | with_reducible rfl | (simp; done) | (simp; omega) | skip)
    try simp only [Act.put, List.setIfInBounds_toArray, List.set_cons_zero, List.set_cons_succ]
    refine wpAnyC_take (i := 36) (v := .bool true) rfl (by kernel_rfl) (fun _ _ _ h => h) (Or.inl ⟨by rfl, ?y74⟩) hS ?r74
    case y74 => intro wq _; go_simp; all_goals (first | with_reducible rfl | (simp; done) | (simp; omega) | skip)
    try simp only [Act.put, List.setIfInBounds_toArray, List.set_cons_zero, List.set_cons_succ]
    refine wpAnyC_take (i := 37) (v := .bool true) rfl (by kernel_rfl) (fun _ _ _ h => h) (Or.inl ⟨by rfl, ?y75⟩) hS ?r75
    case y75 => intro wq _; go_simp; all_goals (first | with_reducible rfl | (simp; done) | (simp; omega) | skip)
    try simp only [Act.put, List.setIfInBounds_toArray, List.set_cons_zero, List.set_cons_succ]
    refine wpAnyC_take (i := 38) (v := ?v76) rfl (by kernel_rfl) (fun _ _ _ h => h) (Or.inl ⟨by rfl, ?y76⟩) hS ?r76
    case y76 => intro wq _; go_simp; all_goals (first | with_reducible rfl | (simp; done) | (simp; omega) | skip)
    try simp only [Act.put, List.setIfInBounds_toArray, List.set_cons_zero, List.set_cons_succ]
    refine wpAnyC_take (i := 39) (v := ?v77) rfl (by kernel_rfl) (fun _ _ _ h => h) (Or.inl ⟨by rfl, ?y77⟩) hS ?r77
    case y77 => intro wq _; go_simp; all_goals (first | with_reducible rfl | (simp; done) | (simp; omega) | skip)
    try simp only [Act.put, List.setIfInBounds_toArray, List.set_cons_zero, List.set_cons_succ]
    refine wpAnyC_take (i := 40) (v := ?v78) rfl (by kernel_rfl) (fun _ _ _ h => h) (Or.inl ⟨by rfl, ?y78⟩) hS ?r78
    case y78 => intro wq _; go_simp; all_goals (first | with_reducible rfl | (simp; done) | (simp; omega) | skip)
    try simp only [Act.put, List.setIfInBounds_toArray, List.set_cons_zero, List.set_cons_succ]
    refine wpAnyC_take (i := 41) (v := .bool true) rfl (by kernel_rfl) (fun _ _ _ h => h) (Or.inl ⟨by rfl, ?y79⟩) hS ?r79
    case y79 => intro wq _; go_simp; all_goals (first | with_reducible rfl | (simp; done) | (simp; omega) | skip)
    try simp only [Act.put, List.setIfInBounds_toArray, List.set_cons_zero, List.set_cons_succ]
    refine wpAnyC_take (i := 42) (v := .bool true) rfl (by kernel_rfl) (fun _ _ _ h => h) (Or.inl ⟨by rfl, ?y80⟩) hS ?r80
    case y80 => intro wq _; go_simp; all_goals (first | with_reducible rfl | (simp; done) | (simp; omega) | skip)
    try simp only [Act.put, List.setIfInBounds_toArray, List.set_cons_zero, List.set_cons_succ]
    refine wpAnyC_take (i := 43) (v := ?v81) rfl (by kernel_rfl) (fun _ _ _ h => h) (Or.inl ⟨by rfl, ?y81⟩) hS ?r81
    case y81 => intro wq _; go_simp; all_goals (first | with_reducible rfl | (simp; done) | (simp; omega) | skip)
    try simp only [Act.put, List.setIfInBounds_toArray, List.set_cons_zero, List.set_cons_succ]
    refine wpAnyC_take (i := 44) (v := ?v82) rfl (by kernel_rfl) (fun _ _ _ h => h) (Or.inl ⟨by rfl, ?y82⟩) hS ?r82
    case y82 => intro wq _; go_simp; all_goals (first | with_reducible rfl | (simp; done) | (simp; omega) | skip)
    try simp only [Act.put, List.setIfInBounds_toArray, List.set_cons_zero, List.set_cons_succ]
    refine wpAnyC_take (i := 45) (v := ?v83) rfl (by kernel_rfl) (fun _ _ _ h => h) (Or.inl ⟨by rfl, ?y83⟩) hS ?r83
    case y83 => intro wq _; go_simp; all_goals (first | with_reducible rfl | (simp; done) | (simp; omega) | skip)
    try simp only [Act.put, List.setIfInBounds_toArray, List.set_cons_zero, List.set_cons_succ]
    refine wpAnyC_take (i := 46) (v := .bool true) rfl (by kernel_rfl) (fun _ _ _ h => h) (Or.inl ⟨by rfl, ?y84⟩) hS ?r84
    case y84 => intro wq _; go_simp; all_goals (first | with_reducible rfl | (simp; done) | (simp; omega) | skip)
    try simp only [Act.put, List.setIfInBounds_toArray, List.set_cons_zero, List.set_cons_succ]
    refine wpAnyC_take (i := 47) (v := .bool true) rfl (by kernel_rfl) (fun _ _ _ h => h) (Or.inl ⟨by rfl, ?y85⟩) hS ?r85
    case y85 => intro wq _; go_simp; all_goals (first | with_reducible rfl | (simp; done) | (simp; omega) | skip)
    try simp only [Act.put, List.setIfInBounds_toArray, List.set_cons_zero, List.set_cons_succ]
    refine wpAnyC_take (i := 48) (v := ?v86) rfl (by kernel_rfl) (fun _ _ _ h => h) (Or.inl ⟨by rfl, ?y86⟩) hS ?r86
    case y86 => intro wq _; go_simp; all_goals (first | with_reducible rfl | (simp; done) | (simp; omega) | skip)
    try simp only [Act.put, List.setIfInBounds_toArray, List.set_cons_zero, List.set_cons_succ]
    refine wpAnyC_done (by kernel_rfl) ?_ _
    go_wp2_with fail
    go_ret
    exact ⟨rfl, HA6.out.2.2.1.trans (hS.2.mono HA6.out.2.2.1.size)⟩
end Go.Proofs.Ytldhkhaciflmoaa
