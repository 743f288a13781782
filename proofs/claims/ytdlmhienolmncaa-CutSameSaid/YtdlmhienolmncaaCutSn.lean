/- cut: two rows of fonts that are the same; CutSame, walked. -/
import Derived.Test.YtdlmhienolmncaaCutFn
import Derived.Test.YtdlmhienolmncaaCutW
namespace Go.Proofs.Ytdlmhienolmncaa
open Go.RowKit Dec

theorem key_get {l l2 : List Nm} (h : l2.map keyN = l.map keyN) {i : Nat} {x : Nm} (hx : l[i]? = some x) : ∃ s, l2[i]? = some ⟨x.name, x.wd, s, x.ot, x.gs⟩ := by
  have e : (l2.map keyN)[i]? = (l.map keyN)[i]? := by rw [h]
  rw [List.getElem?_map, List.getElem?_map, hx] at e
  cases hy : l2[i]? with
  | none => rw [hy] at e; cases e
  | some y =>
    rw [hy] at e
    injection e with e
    obtain ⟨yn, yw, ys, yo, yg⟩ := y
    unfold keyN at e
    injection e with e1 e
    injection e with e2 e
    injection e with e3 e4
    exact ⟨ys, by rw [show yn = x.name from e1, show yw = x.wd from e2, show yo = x.ot from e3, show yg = x.gs from e4]⟩
set_option maxRecDepth 100000 in
set_option maxHeartbeats 8000000 in
theorem same23_any (A : Option Addr) (n c : Nat) (l : List Nm) (A2 : Option Addr) (c2 : Nat) (l2 : List Nm) (w : World) (h : NmsAt w A n c l) (h2 : NmsAt w A2 n c2 l2) (he : l2.map keyN = l.map keyN) (h60 : ∀ f ∈ l, f.s.n ≤ 1000000) :
    Calls Try.prog 16 #[.slice A n c, .slice A2 n c2] w (BoolTrue w) := by
  have hcap := h.row.cap
  have htop := h.row.top
  have hcap2 := h2.row.cap
  have htop2 := h2.row.top
  have HL := Lib.hid h.len
  have H := Lib.hid (And.intro h h2)
  have HE := Lib.hid he
  have H60 := Lib.hid h60
  clear h h2 he h60
  go_enter Try.func16, Try.ntmps16
  go_wp2_with fail
  go_loopw [5] (fun s5 wr => ∃ (i : Nat), i ≤ n ∧ s5 = .int .i64 (i : Int) ∧ Hid (Below w.heap.size w wr)) (fun s5 _ => n - (intOf s5).toNat)
  case atStart => exact ⟨0, by omega, rfl, Lib.hid (Below.refl _ _)⟩
  case round =>
    obtain ⟨i, hi, rfl, HB⟩ := hrel
    by_cases hlt : i < n
    · have d1 : decide ((i : Int) < (n : Int)) = true := decide_eq_true (by omega)
      obtain ⟨x, hx⟩ : ∃ x, l[i]? = some x := ⟨_, List.getElem?_eq_getElem (by rw [HL.out]; exact hlt)⟩
      obtain ⟨s, hy⟩ := key_get HE.out hx
      obtain ⟨R, o, rfl, hR, ⟨q0, q1, q2, q3⟩, hk⟩ := (H.out.1.below HB.out).get hx
      obtain ⟨R2, o2, rfl, hR2, ⟨z0, z1, z2, z3⟩, hk2⟩ := (H.out.2.below HB.out).get hy
      have hsn : s.n = x.s.n := by
        have e1 := hk.2.len
        have e2 : x.gs.length = s.n := hk2.2.len
        omega
      have hg2 : Glyphs wr s.A x.s.n s.c x.gs := by
        have := hk2.2
        rw [← hsn]
        exact this
      have z2' : wr.cell? ⟨R2, o2 + i * 4 + 2, none⟩ = some (.slice s.A x.s.n s.c) := by rw [← hsn]; exact z2
      have HC := Lib.hid (same19 x.wd x.s.A x.s.n x.s.c s.A s.c x.ot x.gs wr.drew (hk.2.below (Below.refl _ _).drew) (hg2.below (Below.refl _ _).drew) (H60.out x (List.mem_of_getElem? hx)))
      have g1 : (0 : Int) ≤ (i : Int) := by omega
      have g2 : (i : Int) < (n : Int) := by omega
      have hse := str_eq (a := x.name) (b := x.name) rfl
      clear hx hy hk hk2 hg2 z2 hsn
      go_upto_region 6 with fail
      have HCC : Hid (∀ v, Below wr.heap.size wr v → (fun v => (v.cell? ⟨R, o + i * 4, none⟩ = some (.string x.name) ∧ v.cell? ⟨R, o + i * 4 + 1, none⟩ = some (.bool x.wd) ∧ v.cell? ⟨R, o + i * 4 + 2, none⟩ = some (.slice x.s.A x.s.n x.s.c) ∧ v.cell? ⟨R, o + i * 4 + 3, none⟩ = some (.int .i64 x.ot)) ∧ (v.cell? ⟨R2, o2 + i * 4, none⟩ = some (.string x.name) ∧ v.cell? ⟨R2, o2 + i * 4 + 1, none⟩ = some (.bool x.wd) ∧ v.cell? ⟨R2, o2 + i * 4 + 2, none⟩ = some (.slice s.A x.s.n s.c) ∧ v.cell? ⟨R2, o2 + i * 4 + 3, none⟩ = some (.int .i64 x.ot)) ∧ Below wr.heap.size wr v) v) := Lib.hid (fun v hb => ⟨⟨(hb.cell hR).trans q0, (hb.cell hR).trans q1, (hb.cell hR).trans q2, (hb.cell hR).trans q3⟩, ⟨(hb.cell hR2).trans z0, (hb.cell hR2).trans z1, (hb.cell hR2).trans z2', (hb.cell hR2).trans z3⟩, hb⟩)
      have hS := HCC.out wr.drew ((Below.refl wr.heap.size wr).drew)
      refine wp_region_C (fun v => (v.cell? ⟨R, o + i * 4, none⟩ = some (.string x.name) ∧ v.cell? ⟨R, o + i * 4 + 1, none⟩ = some (.bool x.wd) ∧ v.cell? ⟨R, o + i * 4 + 2, none⟩ = some (.slice x.s.A x.s.n x.s.c) ∧ v.cell? ⟨R, o + i * 4 + 3, none⟩ = some (.int .i64 x.ot)) ∧ (v.cell? ⟨R2, o2 + i * 4, none⟩ = some (.string x.name) ∧ v.cell? ⟨R2, o2 + i * 4 + 1, none⟩ = some (.bool x.wd) ∧ v.cell? ⟨R2, o2 + i * 4 + 2, none⟩ = some (.slice s.A x.s.n s.c) ∧ v.cell? ⟨R2, o2 + i * 4 + 3, none⟩ = some (.int .i64 x.ot)) ∧ Below wr.heap.size wr v) (by kernel_rfl) ?_
      refine wpAnyC_take (i := 0) (v := ?v1) rfl (by kernel_rfl) (fun _ _ _ h => h) (Or.inl ⟨by rfl, ?y1⟩) hS ?r1
      case y1 => intro wq _; go_simp; all_goals (first | with_reducible rfl | go_num | (simp; done) | (simp; omega) | skip)
      try simp only [Act.put, List.setIfInBounds_toArray, List.set_cons_zero, List.set_cons_succ]
      refine wpAnyC_take (i := 1) (v := ?v2) rfl (by kernel_rfl) (fun _ _ _ h => h) (Or.inl ⟨by rfl, ?y2⟩) hS ?r2
      case y2 => intro wq _; go_simp; all_goals (first | with_reducible rfl | go_num | (simp; done) | (simp; omega) | skip)
      try simp only [Act.put, List.setIfInBounds_toArray, List.set_cons_zero, List.set_cons_succ]
      refine wpAnyC_take (i := 2) (v := .pointer (some ⟨R, o + i * 4, none⟩)) rfl (by kernel_rfl) (fun _ _ _ h => h) (Or.inl ⟨by rfl, ?y3⟩) hS ?r3
      case y3 => intro wq _; go_simp; all_goals (first | with_reducible rfl | go_num | (simp; done) | (simp; omega) | skip)
      try simp only [Act.put, List.setIfInBounds_toArray, List.set_cons_zero, List.set_cons_succ]
      refine wpAnyC_take (i := 3) (v := .pointer (some ⟨R, o + i * 4, none⟩)) rfl (by kernel_rfl) (fun _ _ _ h => h) (Or.inl ⟨by rfl, ?y4⟩) hS ?r4
      case y4 => intro wq _; go_simp; all_goals (first | with_reducible rfl | go_num | (simp; done) | (simp; omega) | skip)
      try simp only [Act.put, List.setIfInBounds_toArray, List.set_cons_zero, List.set_cons_succ]
      refine wpAnyC_take (i := 4) (v := .string x.name) rfl (by kernel_rfl) (fun _ _ _ h => h) (Or.inl ⟨by rfl, ?y5⟩) hS ?r5
      case y5 => rintro wq ⟨⟨c0, c1, c2, c3⟩, -, -⟩; go_simp; try with_reducible rfl
      try simp only [Act.put, List.setIfInBounds_toArray, List.set_cons_zero, List.set_cons_succ]
      refine wpAnyC_take (i := 5) (v := ?v6) rfl (by kernel_rfl) (fun _ _ _ h => h) (Or.inl ⟨by rfl, ?y6⟩) hS ?r6
      case y6 => intro wq _; go_simp; all_goals (first | with_reducible rfl | go_num | (simp; done) | (simp; omega) | skip)
      try simp only [Act.put, List.setIfInBounds_toArray, List.set_cons_zero, List.set_cons_succ]
      refine wpAnyC_take (i := 6) (v := ?v7) rfl (by kernel_rfl) (fun _ _ _ h => h) (Or.inl ⟨by rfl, ?y7⟩) hS ?r7
      case y7 => intro wq _; go_simp; all_goals (first | with_reducible rfl | go_num | (simp; done) | (simp; omega) | skip)
      try simp only [Act.put, List.setIfInBounds_toArray, List.set_cons_zero, List.set_cons_succ]
      refine wpAnyC_take (i := 7) (v := .pointer (some ⟨R2, o2 + i * 4, none⟩)) rfl (by kernel_rfl) (fun _ _ _ h => h) (Or.inl ⟨by rfl, ?y8⟩) hS ?r8
      case y8 => intro wq _; go_simp; all_goals (first | with_reducible rfl | go_num | (simp; done) | (simp; omega) | skip)
      try simp only [Act.put, List.setIfInBounds_toArray, List.set_cons_zero, List.set_cons_succ]
      refine wpAnyC_take (i := 8) (v := .pointer (some ⟨R2, o2 + i * 4, none⟩)) rfl (by kernel_rfl) (fun _ _ _ h => h) (Or.inl ⟨by rfl, ?y9⟩) hS ?r9
      case y9 => intro wq _; go_simp; all_goals (first | with_reducible rfl | go_num | (simp; done) | (simp; omega) | skip)
      try simp only [Act.put, List.setIfInBounds_toArray, List.set_cons_zero, List.set_cons_succ]
      refine wpAnyC_take (i := 9) (v := .string x.name) rfl (by kernel_rfl) (fun _ _ _ h => h) (Or.inl ⟨by rfl, ?y10⟩) hS ?r10
      case y10 => rintro wq ⟨-, ⟨c0, c1, c2, c3⟩, -⟩; go_simp; try with_reducible rfl
      try simp only [Act.put, List.setIfInBounds_toArray, List.set_cons_zero, List.set_cons_succ]
      refine wpAnyC_take (i := 10) (v := .bool false) rfl (by kernel_rfl) (fun _ _ _ h => h) (Or.inl ⟨by rfl, ?y11⟩) hS ?r11
      case y11 => intro wq _; go_simp; all_goals (first | with_reducible rfl | go_num | (simp; done) | (simp; omega) | skip)
      try simp only [Act.put, List.setIfInBounds_toArray, List.set_cons_zero, List.set_cons_succ]
      refine wpAnyC_take (i := 11) (v := .bool false) rfl (by kernel_rfl) (fun _ _ _ h => h) (Or.inl ⟨by rfl, ?y12⟩) hS ?r12
      case y12 => intro wq _; go_simp; all_goals (first | with_reducible rfl | go_num | (simp; done) | (simp; omega) | skip)
      try simp only [Act.put, List.setIfInBounds_toArray, List.set_cons_zero, List.set_cons_succ]
      refine wpAnyC_take (i := 12) (v := ?v13) rfl (by kernel_rfl) (fun _ _ _ h => h) (Or.inl ⟨by rfl, ?y13⟩) hS ?r13
      case y13 => intro wq _; go_simp; all_goals (first | with_reducible rfl | go_num | (simp; done) | (simp; omega) | skip)
      try simp only [Act.put, List.setIfInBounds_toArray, List.set_cons_zero, List.set_cons_succ]
      refine wpAnyC_take (i := 13) (v := ?v14) rfl (by kernel_rfl) (fun _ _ _ h => h) (Or.inl ⟨by rfl, ?y14⟩) hS ?r14
      case y14 => intro wq _; go_simp; all_goals (first | with_reducible rfl | go_num | (simp; done) | (simp; omega) | skip)
      try simp only [Act.put, List.setIfInBounds_toArray, List.set_cons_zero, List.set_cons_succ]
      refine wpAnyC_take (i := 14) (v := .pointer (some ⟨R, o + i * 4, none⟩)) rfl (by kernel_rfl) (fun _ _ _ h => h) (Or.inl ⟨by rfl, ?y15⟩) hS ?r15
      case y15 => intro wq _; go_simp; all_goals (first | with_reducible rfl | go_num | (simp; done) | (simp; omega) | skip)
      try simp only [Act.put, List.setIfInBounds_toArray, List.set_cons_zero, List.set_cons_succ]
      refine wpAnyC_take (i := 15) (v := .pointer (some ⟨R, o + i * 4 + 1, none⟩)) rfl (by kernel_rfl) (fun _ _ _ h => h) (Or.inl ⟨by rfl, ?y16⟩) hS ?r16
      case y16 => intro wq _; go_simp; all_goals (first | with_reducible rfl | go_num | (simp; done) | (simp; omega) | skip)
      try simp only [Act.put, List.setIfInBounds_toArray, List.set_cons_zero, List.set_cons_succ]
      refine wpAnyC_take (i := 16) (v := .agg #[.bool x.wd, .slice x.s.A x.s.n x.s.c, .int .i64 x.ot]) rfl (by kernel_rfl) (fun _ _ _ h => h) (Or.inl ⟨by rfl, ?y17⟩) hS ?r17
      case y17 => rintro wq ⟨⟨c0, c1, c2, c3⟩, -, -⟩; go_simp; try with_reducible rfl
      try simp only [Act.put, List.setIfInBounds_toArray, List.set_cons_zero, List.set_cons_succ]
      refine wpAnyC_take (i := 17) (v := ?v18) rfl (by kernel_rfl) (fun _ _ _ h => h) (Or.inl ⟨by rfl, ?y18⟩) hS ?r18
      case y18 => intro wq _; go_simp; all_goals (first | with_reducible rfl | go_num | (simp; done) | (simp; omega) | skip)
      try simp only [Act.put, List.setIfInBounds_toArray, List.set_cons_zero, List.set_cons_succ]
      refine wpAnyC_take (i := 18) (v := ?v19) rfl (by kernel_rfl) (fun _ _ _ h => h) (Or.inl ⟨by rfl, ?y19⟩) hS ?r19
      case y19 => intro wq _; go_simp; all_goals (first | with_reducible rfl | go_num | (simp; done) | (simp; omega) | skip)
      try simp only [Act.put, List.setIfInBounds_toArray, List.set_cons_zero, List.set_cons_succ]
      refine wpAnyC_take (i := 19) (v := .pointer (some ⟨R2, o2 + i * 4, none⟩)) rfl (by kernel_rfl) (fun _ _ _ h => h) (Or.inl ⟨by rfl, ?y20⟩) hS ?r20
      case y20 => intro wq _; go_simp; all_goals (first | with_reducible rfl | go_num | (simp; done) | (simp; omega) | skip)
      try simp only [Act.put, List.setIfInBounds_toArray, List.set_cons_zero, List.set_cons_succ]
      refine wpAnyC_take (i := 20) (v := .pointer (some ⟨R2, o2 + i * 4 + 1, none⟩)) rfl (by kernel_rfl) (fun _ _ _ h => h) (Or.inl ⟨by rfl, ?y21⟩) hS ?r21
      case y21 => intro wq _; go_simp; all_goals (first | with_reducible rfl | go_num | (simp; done) | (simp; omega) | skip)
      try simp only [Act.put, List.setIfInBounds_toArray, List.set_cons_zero, List.set_cons_succ]
      refine wpAnyC_take (i := 21) (v := .agg #[.bool x.wd, .slice s.A x.s.n s.c, .int .i64 x.ot]) rfl (by kernel_rfl) (fun _ _ _ h => h) (Or.inl ⟨by rfl, ?y22⟩) hS ?r22
      case y22 => rintro wq ⟨-, ⟨c0, c1, c2, c3⟩, -⟩; go_simp; try with_reducible rfl
      try simp only [Act.put, List.setIfInBounds_toArray, List.set_cons_zero, List.set_cons_succ]
      refine wpAnyC_one (j := 22) (by kernel_rfl) rfl (fun K hK => ?_)
      go_simp
      go_at_call 38
      refine HC.out.mono ?_
      rintro e v2 ⟨rfl, kk⟩
      have hb2 : Below wr.heap.size wr v2 := ((Below.refl wr.heap.size wr).drew).trans (kk.mono ((Below.refl wr.heap.size wr).drew).size)
      clear kk
      have hS := HCC.out v2 hb2
      go_wp2_with fail
      refine hK.out _ _ ⟨hS, ?_⟩
      clear hK K
      try simp only [Act.put, List.setIfInBounds_toArray, List.set_cons_zero, List.set_cons_succ]
      refine wpAnyC_take (i := 23) (v := .bool false) rfl (by kernel_rfl) (fun _ _ _ h => h) (Or.inl ⟨by rfl, ?y23⟩) hS ?r23
      case y23 => intro wq _; go_simp; all_goals (first | with_reducible rfl | go_num | (simp; done) | (simp; omega) | skip)
      try simp only [Act.put, List.setIfInBounds_toArray, List.set_cons_zero, List.set_cons_succ]
      refine wpAnyC_take (i := 24) (v := .bool false) rfl (by kernel_rfl) (fun _ _ _ h => h) (Or.inl ⟨by rfl, ?y24⟩) hS ?r24
      case y24 => intro wq _; go_simp; all_goals (first | with_reducible rfl | go_num | (simp; done) | (simp; omega) | skip)
      try simp only [Act.put, List.setIfInBounds_toArray, List.set_cons_zero, List.set_cons_succ]
      refine wpAnyC_done (by kernel_rfl) ?_ _
      clear hS HCC
      have HB3 := Lib.hid (HB.out.trans (hb2.mono HB.out.size))
      clear hb2 q0 q1 q2 q3 z0 z1 z2' z3
      go_wp2_with fail
      go_roundw
      case rel => exact ⟨i + 1, by omega, by go_num, HB3⟩
      case measure => simp [intOf]; omega
    · obtain rfl : i = n := by omega
      have d1 : decide ((i : Int) < (i : Int)) = false := by simp
      go_wp2_with fail
      go_ret
      exact ⟨rfl, HB.out⟩
set_option maxRecDepth 100000 in
set_option maxHeartbeats 8000000 in
theorem same_law (A : Option Addr) (n c : Nat) (l : List Mk) (A1 : Option Addr) (n1 c1 : Nat) (fs : List Nm) (t : ByteArray) (w : World) (h : MarksAt w A n c l) (h1 : NmsAt w A1 n1 c1 fs) (hM : MX w) :
    Calls Try.prog 5 #[.slice A n c, .slice A1 n1 c1, .string t] w (True_ w) := by
  have H0 := Lib.hid (And.intro h h1)
  have HMX := Lib.hid hM
  have HF := Lib.hid (few23_any A n c l none 0 0 [] A1 n1 c1 fs w h (bxs_nil w) h1)
  have HL := Lib.hid (And.intro h.len h1.len)
  clear h h1 hM
  go_enter Try.func5, Try.ntmps5
  go_wp2_with fail
  refine HF.out.mono ?_
  rintro e w1 ⟨r, rfl, hr, hb⟩
  have HB1 := Lib.hid hb
  have HP := Lib.hid hr
  clear hb hr HF
  cases r
  · go_wp2_with fail
    go_ret
    exact ⟨rfl, HB1.out⟩
  obtain ⟨b60, -, b10, bs⟩ := HP.out rfl
  have HS60 := Lib.hid (show ∀ f ∈ fs, f.s.n ≤ 1000000 from fun f hf => Nat.le_trans (bs f hf) (by omega))
  clear bs HP
  by_cases h300 : 300 < t.size
  · have d2 : decide ((t.size : Int) > 300) = true := decide_eq_true (by omega)
    go_wp2_with fail
    go_ret
    exact ⟨rfl, HB1.out⟩
  have d2 : decide ((t.size : Int) > 300) = false := decide_eq_false (by omega)
  have H1 := Lib.hid (And.intro (H0.out.1.below HB1.out) (H0.out.2.below HB1.out))
  have HC1 := Lib.hid (fontsC_any A1 n1 c1 fs A n c l w1 H1.out.2 (by omega) HS60.out H1.out.1 (by omega))
  unfold FontsSaid at HC1
  go_wp2_with fail
  refine HC1.out.mono ?_
  rintro e w2 ⟨A', n', c', a, rfl, hna, han, hb, hif⟩
  have hal := hna.len
  have H2 := Lib.hid (And.intro (H1.out.1.below hb) (And.intro (H1.out.2.below hb) (And.intro hna (HB1.out.trans (hb.mono HB1.out.size)))))
  have HA60 := Lib.hid han
  clear hb hna han H1 HB1 HC1
  cases hk : knownB fs l
  · have hke : knownE fs l = 1 := by unfold knownE; rw [hk]; rfl
    rw [hk, if_neg (by decide)] at hif
    subst hif
    obtain rfl : n' = 0 := hal.symm
    rw [hke]
    clear hk hke hal
    go_wp2_with fail
    refine (awake23 _ (HMX.out.later H2.out.2.2.2)).mono ?_
    rintro e w9 ⟨rfl, hb⟩
    have H9 := Lib.hid (H2.out.2.2.2.trans (hb.mono H2.out.2.2.2.size))
    clear hb H2
    go_wp2_with fail
    go_ret
    exact ⟨rfl, H9.out⟩
  have hke : knownE fs l = 0 := by unfold knownE; rw [hk]; rfl
  rw [hk, if_pos rfl] at hif
  have hl4 : l.length ≤ 4096 := by rw [HL.out.1]; omega
  have HIF := Lib.hid hif
  have HKA := Lib.hid (known_cut hif hk hl4)
  have HRD := Lib.hid (And.intro (read_cut hif hk hl4) (And.intro (text_cut hif hk hl4) (finds_cut hif hk hl4 t)))
  have hn' : n' ≤ 10 := by
    have e := congrArg List.length hif
    rw [List.length_map, List.length_map] at e
    have e2 := List.length_filter_le (useB l) fs
    have e3 := HL.out.2
    omega
  rw [hke]
  clear hk hke hif hl4
  obtain ⟨S, hS⟩ : ∃ S : ByteArray, (⟨(textR fs l).toArray⟩ : ByteArray) = S := ⟨_, rfl⟩
  obtain ⟨E, hE⟩ : ∃ E, readE fs l = E := ⟨_, rfl⟩
  have HT1 := Lib.hid (textC_any A n c l A1 n1 c1 fs w2 H2.out.1 (by omega) H2.out.2.1 HS60.out)
  rw [hS, hE] at HT1
  go_wp2_with fail
  refine HT1.out.mono ?_
  rintro e w3 ⟨rfl, hb⟩
  have H3 := Lib.hid (And.intro (H2.out.1.below hb) (And.intro (H2.out.2.1.below hb) (And.intro (H2.out.2.2.1.below hb) (H2.out.2.2.2.trans (hb.mono H2.out.2.2.2.size)))))
  clear hb H2 HT1
  have HT2 := Lib.hid (textC_any A n c l A' n' c' a w3 H3.out.1 (by omega) H3.out.2.2.1 HA60.out)
  rw [HRD.out.1, HRD.out.2.1, hS, hE] at HT2
  clear hS hE
  go_wp2_with fail
  refine HT2.out.mono ?_
  rintro e w4 ⟨rfl, hb⟩
  have H4 := Lib.hid (And.intro (H3.out.1.below hb) (And.intro (H3.out.2.1.below hb) (And.intro (H3.out.2.2.1.below hb) (H3.out.2.2.2.trans (hb.mono H3.out.2.2.2.size)))))
  clear hb H3 HT2
  obtain ⟨bx, hbx⟩ : ∃ b, findL fs l t = b := ⟨_, rfl⟩
  obtain ⟨e1, he1⟩ : ∃ e, findE fs l t = e := ⟨_, rfl⟩
  have HX1 := Lib.hid (findC_any A n c l A1 n1 c1 fs t w4 H4.out.1 (by omega) H4.out.2.1 HS60.out (by omega) (HMX.out.later H4.out.2.2.2))
  unfold FindSaid at HX1
  rw [hbx, he1] at HX1
  go_wp2_with fail
  refine HX1.out.mono ?_
  rintro e w5 ⟨Ax, cx, rfl, hxx, hb⟩
  have H5 := Lib.hid (And.intro (H4.out.1.below hb) (And.intro (H4.out.2.2.1.below hb) (And.intro hxx (H4.out.2.2.2.trans (hb.mono H4.out.2.2.2.size)))))
  clear hb hxx H4 HX1
  have HX2 := Lib.hid (findC_any A n c l A' n' c' a t w5 H5.out.1 (by omega) H5.out.2.1 HA60.out (by omega) (HMX.out.later H5.out.2.2.2))
  unfold FindSaid at HX2
  rw [HRD.out.2.2.1, HRD.out.2.2.2, hbx, he1] at HX2
  clear hbx he1
  go_wp2_with fail
  refine HX2.out.mono ?_
  rintro e w6 ⟨Ay, cy, rfl, hxy, hb⟩
  have H6 := Lib.hid (And.intro (H5.out.1.below hb) (And.intro (H5.out.2.1.below hb) (And.intro (H5.out.2.2.1.below hb) (And.intro hxy (H5.out.2.2.2.trans (hb.mono H5.out.2.2.2.size))))))
  clear hb hxy H5 HX2
  have HC2 := Lib.hid (fontsC_any A' n' c' a A n c l w6 H6.out.2.1 (by omega) HA60.out H6.out.1 (by omega))
  unfold FontsSaid at HC2
  have hke2 : knownE a l = 0 := by unfold knownE; rw [HKA.out]; rfl
  rw [hke2, HKA.out] at HC2
  clear hke2
  go_wp2_with fail
  refine HC2.out.mono ?_
  rintro e w7 ⟨Ab, nb, cb, b, rfl, hnb, -, hb, hif⟩
  rw [if_pos trivial] at hif
  have hkb := fonts_again HIF.out hif
  obtain rfl : nb = n' := by
    have e1 := congrArg List.length hkb
    rw [List.length_map, List.length_map] at e1
    have e2 := hnb.len
    omega
  have H7 := Lib.hid (And.intro (H6.out.2.1.below hb) (And.intro hnb (And.intro (H6.out.2.2.1.below hb) (And.intro (H6.out.2.2.2.1.below hb) (H6.out.2.2.2.2.trans (hb.mono H6.out.2.2.2.2.size))))))
  have HKB := Lib.hid hkb
  clear hb hnb hif hkb H6 HC2
  have p1 := str_eq (a := S) (b := S) rfl
  have p2 : (E == E) = true := by simp
  have p3 : (e1 == e1) = true := by simp
  go_wp2_with fail
  refine (awake23 _ (HMX.out.later H7.out.2.2.2.2)).mono ?_
  rintro e w8 ⟨rfl, hb⟩
  have H8 := Lib.hid (And.intro (H7.out.1.below hb) (And.intro (H7.out.2.1.below hb) (And.intro (H7.out.2.2.1.below hb) (And.intro (H7.out.2.2.2.1.below hb) (H7.out.2.2.2.2.trans (hb.mono H7.out.2.2.2.2.size))))))
  clear hb H7
  go_wp2_with fail
  refine (boxes_same _ _ _ _ _ _ _ H8.out.2.2.1 H8.out.2.2.2.1).mono ?_
  rintro e w9 ⟨rfl, hb⟩
  have H9 := Lib.hid (And.intro (H8.out.1.below hb) (And.intro (H8.out.2.1.below hb) (H8.out.2.2.2.2.trans (hb.mono H8.out.2.2.2.2.size))))
  clear hb H8
  go_wp2_with fail
  refine (same23_any _ _ _ _ _ _ _ _ H9.out.1 H9.out.2.1 HKB.out HA60.out).mono ?_
  rintro e w10 ⟨rfl, hb⟩
  have H10 := Lib.hid (H9.out.2.2.trans (hb.mono H9.out.2.2.size))
  clear hb H9
  go_wp2_with fail
  go_ret
  exact ⟨rfl, H10.out⟩
end Go.Proofs.Ytdlmhienolmncaa
