/- cut: CutClear, walked. -/
import Derived.Test.YtdlmhienolmncaaCutW
import Derived.Test.YtdlmhienolmncaaRegionC
namespace Go.Proofs.Ytdlmhienolmncaa
open Go.RowKit Dec

/-- One of a list, as a part of a row. -/
theorem MarksAt.one {w : World} {R o n c : Nat} {l : List Mk} (h : MarksAt w (some ⟨R, o, none⟩) n c l) {i : Nat} {x : Mk} (hx : l[i]? = some x) : MarksAt w (some ⟨R, o + i * 25, none⟩) 1 (c - i) [x] := by
  have hi := (List.getElem?_eq_some_iff.1 hx).1
  have hl := h.len
  have hp := h.row.part i (i + 1) (by omega) (by omega)
  rw [show i + 1 - i = 1 by omega] at hp
  have hd : l.drop i = x :: l.drop (i + 1) := by
    have hg := (List.getElem?_eq_some_iff.1 hx).2
    rw [← hg]; exact List.drop_eq_getElem_cons hi
  refine ⟨?_, fun y hy => ?_⟩
  · rw [← List.map_drop, hd] at hp
    exact hp
  · rw [List.mem_singleton] at hy
    subst hy
    exact h.ok _ (List.mem_of_getElem? hx)
theorem cut_all {l : List Mk} {rs : List BV} (h : cutB l rs = true) : (∀ b ∈ rs, b.Ok) ∧ ∀ x ∈ l, x.box.Ok := by
  unfold cutB at h
  simp only [Bool.and_eq_true, List.all_eq_true] at h
  refine ⟨fun b hb => of_decide_eq_true (h.1 b hb), fun x hx => ?_⟩
  have := h.2 x hx
  unfold mkB at this
  simp only [Bool.and_eq_true] at this
  exact of_decide_eq_true this.1
theorem any_step {α : Type} (p : α → Bool) {l : List α} {k : Nat} {x : α} (h : l[k]? = some x) : (l.take (k + 1)).any p = ((l.take k).any p || p x) := by
  rw [List.take_add_one, h, List.any_append]
  show (_ || List.any [x] p) = _
  simp
theorem filt_at {α : Type} (p : α → Bool) {l : List α} {k : Nat} {x : α} (h : l[k]? = some x) (hp : p x = true) : (l.filter p)[((l.take k).filter p).length]? = some x := by
  have hk := (List.getElem?_eq_some_iff.1 h).1
  have hd : l.drop k = x :: l.drop (k + 1) := by
    rw [← (List.getElem?_eq_some_iff.1 h).2]; exact List.drop_eq_getElem_cons hk
  have e : l.filter p = (l.take k).filter p ++ x :: (l.drop (k + 1)).filter p := by
    conv => lhs; rw [← List.take_append_drop k l, List.filter_append, hd, List.filter_cons, if_pos hp]
  rw [e, List.getElem?_append_right (Nat.le_refl _), Nat.sub_self]
  rfl
set_option maxRecDepth 100000 in
set_option maxHeartbeats 8000000 in
theorem clear_law (A : Option Addr) (n c : Nat) (l : List Mk) (A1 : Option Addr) (n1 c1 : Nat) (rs : List BV) (w : World) (h : MarksAt w A n c l) (h1 : BxsAt w A1 n1 c1 rs) (hM : MX w) :
    Calls Try.prog 4 #[.slice A n c, .slice A1 n1 c1] w (True_ w) := by
  have hcap := h.row.cap
  have htop := h.row.top
  have hcap1 := RowAt.cap h1
  have htop1 := RowAt.top h1
  have H0 := Lib.hid (And.intro h h1)
  have HMX := Lib.hid hM
  have HF := Lib.hid (few23_any A n c l A1 n1 c1 rs none 0 0 [] w h h1 (nms_nil w))
  have HL := Lib.hid (And.intro h.len h1.len)
  clear h h1 hM
  go_enter Try.func4, Try.ntmps4
  go_wp2_with fail
  refine HF.out.mono ?_
  rintro e w1 ⟨r, rfl, hr, hb⟩
  have HB1 := Lib.hid hb
  have HP := Lib.hid hr
  clear hb hr HF
  cases r
  · go_wp2_with fail
    go_ret
    exact ⟨rfl, HB1.out⟩
  obtain ⟨b60, b20, -⟩ := HP.out rfl
  have H1 := Lib.hid (And.intro (H0.out.1.below HB1.out) (H0.out.2.below HB1.out))
  obtain ⟨a, ha⟩ : ∃ a, cutL l rs = a := ⟨_, rfl⟩
  obtain ⟨e1, he1⟩ : ∃ e, cutE l rs = e := ⟨_, rfl⟩
  have HA := Lib.hid (And.intro ha he1)
  have hal : a.length ≤ 60 := by rw [← ha]; exact Nat.le_trans (cutL_len _ _) (by rw [HL.out.1]; exact b60)
  have HCa := Lib.hid (cutM_any l rs A n c A1 n1 c1 w1 H1.out.1 (by omega) H1.out.2 (by omega))
  unfold CutSaidM at HCa
  rw [ha, he1] at HCa
  clear ha he1
  go_wp2_with fail
  refine HCa.out.mono ?_
  rintro e w2 ⟨Aa, ca, rfl, hma, hb⟩
  have H2 := Lib.hid (And.intro (H1.out.1.below hb) (And.intro (H1.out.2.below hb) (And.intro hma (HB1.out.trans (hb.mono HB1.out.size)))))
  have hcapA := hma.row.cap
  have htopA := hma.row.top
  clear hb hma H1 HB1 HCa
  rcases cutE_two l rs with hz | hz
  · have hcb := cut_zero.1 hz
    have p1 : e1 = 0 := HA.out.2.symm.trans hz
    have hAL : a = l.filter (stays rs) := HA.out.1.symm.trans (cutL_ok hcb)
    have HK := Lib.hid (And.intro (cut_all hcb) hAL)
    subst p1
    clear hz hcb hAL HA
    obtain ⟨m, hm⟩ : ∃ m, a.length = m := ⟨_, rfl⟩
    rw [hm] at hal ⊢
    try rw [hm] at hcapA
    try rw [hm] at htopA
    have HMA := Lib.hid hm
    have H2' : Hid (MarksAt w2 Aa m ca a) := Lib.hid (by rw [← hm]; exact H2.out.2.2.1)
    clear hm
    go_wp2_with fail
    go_loopw [7, 8] (fun s7 s8 wr => ∃ (i t : Nat), i ≤ n ∧ t ≤ m ∧ s8 = .int .i64 (i : Int) ∧ s7 = .int .i64 (t : Int) ∧ Hid (((l.take i).filter (stays rs)).length = t) ∧ Hid (Below w2.heap.size w2 wr)) (fun _ s8 _ => n - (intOf s8).toNat)
    case atStart => exact ⟨0, 0, by omega, by omega, rfl, rfl, Lib.hid (by simp), Lib.hid (Below.refl _ _)⟩
    case round =>
      obtain ⟨i, t, hi, ht, rfl, rfl, HT, HB⟩ := hrel
      by_cases hlt : i < n
      · have d1 : decide ((i : Int) < (n : Int)) = true := decide_eq_true (by omega)
        obtain ⟨x, hx⟩ : ∃ x, l[i]? = some x := ⟨_, List.getElem?_eq_getElem (by rw [HL.out.1]; exact hlt)⟩
        have HX := Lib.hid hx
        have hxm := List.mem_of_getElem? hx
        rename World => wo
        go_wp2_with fail
        go_loopw [9, 10] (fun s9 s10 ws => ∃ (k : Nat), k ≤ n1 ∧ s10 = .int .i64 (k : Int) ∧ s9 = .bool ((rs.take k).any (meetsB x.box)) ∧ Hid (Below wo.heap.size wo ws)) (fun _ s10 _ => n1 - (intOf s10).toNat)
        case atStart => exact ⟨0, by omega, rfl, rfl, Lib.hid (Below.refl _ _)⟩
        case round =>
          obtain ⟨k, hk, rfl, rfl, HB2⟩ := hrel
          have HBX := Lib.hid (HB.out.trans (HB2.out.mono HB.out.size))
          obtain ⟨R, o, hAe, hR, hc, -, -⟩ := (H2.out.1.below HBX.out).get hx
          subst hAe
          obtain ⟨c0, -, -, -, -, -, -, -, -, -, -, -, -, s2, -, -, -, x0, x1, x2, x3, x4, x5, x6, x7⟩ := hc.cells
          clear hc
          by_cases hlt2 : k < n1
          · have d2 : decide ((k : Int) < (n1 : Int)) = true := decide_eq_true (by omega)
            obtain ⟨b, hb⟩ : ∃ b, rs[k]? = some b := ⟨_, List.getElem?_eq_getElem (by rw [HL.out.2]; exact hlt2)⟩
            obtain ⟨R2, o2, rfl, hR2, y0, y1, y2, y3, y4, y5, y6, y7⟩ := (H2.out.2.1.below HBX.out).get hb
            have HS := Lib.hid (any_step (meetsB x.box) hb)
            have hok : x.box.Ok ∧ b.Ok := ⟨HK.out.1.2 x hxm, HK.out.1.1 b (List.mem_of_getElem? hb)⟩
            have HME := Lib.hid (meetsB_ok hok.1 hok.2)
            have HC := Lib.hid (meets_any x.box b wr.drew (meetB x.box b) 0 (.inl ⟨hok.1, hok.2, rfl, rfl⟩))
            obtain ⟨q, hq⟩ : ∃ q, meetB x.box b = q := ⟨_, rfl⟩
            rw [hq] at HC HME
            rw [HME.out] at HS
            obtain ⟨p, hp⟩ : ∃ p, (rs.take k).any (meetsB x.box) = p := ⟨_, rfl⟩
            rw [hp] at HS ⊢
            have g1 : (0 : Int) ≤ (i : Int) := by omega
            have g2 : (i : Int) < (n : Int) := by omega
            have g3 : (0 : Int) ≤ (k : Int) := by omega
            have g4 : (k : Int) < (n1 : Int) := by omega
            unfold BV.val at HC
            clear hb hok hq hp hx hxm c0 s2
            go_upto_region 14 with fail
            have HCC : Hid (∀ v, Below wr.heap.size wr v → (fun v => (v.cell? ⟨R, o + i * 25 + 17, none⟩ = some (.int .i64 x.box.x0.m) ∧ v.cell? ⟨R, o + i * 25 + 18, none⟩ = some (.int .i64 x.box.x0.s) ∧ v.cell? ⟨R, o + i * 25 + 19, none⟩ = some (.int .i64 x.box.y0.m) ∧ v.cell? ⟨R, o + i * 25 + 20, none⟩ = some (.int .i64 x.box.y0.s) ∧ v.cell? ⟨R, o + i * 25 + 21, none⟩ = some (.int .i64 x.box.x1.m) ∧ v.cell? ⟨R, o + i * 25 + 22, none⟩ = some (.int .i64 x.box.x1.s) ∧ v.cell? ⟨R, o + i * 25 + 23, none⟩ = some (.int .i64 x.box.y1.m) ∧ v.cell? ⟨R, o + i * 25 + 24, none⟩ = some (.int .i64 x.box.y1.s)) ∧ (v.cell? ⟨R2, o2 + k * 8, none⟩ = some (.int .i64 b.x0.m) ∧ v.cell? ⟨R2, o2 + k * 8 + 1, none⟩ = some (.int .i64 b.x0.s) ∧ v.cell? ⟨R2, o2 + k * 8 + 2, none⟩ = some (.int .i64 b.y0.m) ∧ v.cell? ⟨R2, o2 + k * 8 + 3, none⟩ = some (.int .i64 b.y0.s) ∧ v.cell? ⟨R2, o2 + k * 8 + 4, none⟩ = some (.int .i64 b.x1.m) ∧ v.cell? ⟨R2, o2 + k * 8 + 5, none⟩ = some (.int .i64 b.x1.s) ∧ v.cell? ⟨R2, o2 + k * 8 + 6, none⟩ = some (.int .i64 b.y1.m) ∧ v.cell? ⟨R2, o2 + k * 8 + 7, none⟩ = some (.int .i64 b.y1.s)) ∧ Below wr.heap.size wr v) v) := Lib.hid (fun v hb => ⟨⟨(hb.cell hR).trans x0, (hb.cell hR).trans x1, (hb.cell hR).trans x2, (hb.cell hR).trans x3, (hb.cell hR).trans x4, (hb.cell hR).trans x5, (hb.cell hR).trans x6, (hb.cell hR).trans x7⟩, ⟨(hb.cell hR2).trans y0, (hb.cell hR2).trans y1, (hb.cell hR2).trans y2, (hb.cell hR2).trans y3, (hb.cell hR2).trans y4, (hb.cell hR2).trans y5, (hb.cell hR2).trans y6, (hb.cell hR2).trans y7⟩, hb⟩)
            have hS := HCC.out wr.drew ((Below.refl wr.heap.size wr).drew)
            refine wp_region_C (fun v => (v.cell? ⟨R, o + i * 25 + 17, none⟩ = some (.int .i64 x.box.x0.m) ∧ v.cell? ⟨R, o + i * 25 + 18, none⟩ = some (.int .i64 x.box.x0.s) ∧ v.cell? ⟨R, o + i * 25 + 19, none⟩ = some (.int .i64 x.box.y0.m) ∧ v.cell? ⟨R, o + i * 25 + 20, none⟩ = some (.int .i64 x.box.y0.s) ∧ v.cell? ⟨R, o + i * 25 + 21, none⟩ = some (.int .i64 x.box.x1.m) ∧ v.cell? ⟨R, o + i * 25 + 22, none⟩ = some (.int .i64 x.box.x1.s) ∧ v.cell? ⟨R, o + i * 25 + 23, none⟩ = some (.int .i64 x.box.y1.m) ∧ v.cell? ⟨R, o + i * 25 + 24, none⟩ = some (.int .i64 x.box.y1.s)) ∧ (v.cell? ⟨R2, o2 + k * 8, none⟩ = some (.int .i64 b.x0.m) ∧ v.cell? ⟨R2, o2 + k * 8 + 1, none⟩ = some (.int .i64 b.x0.s) ∧ v.cell? ⟨R2, o2 + k * 8 + 2, none⟩ = some (.int .i64 b.y0.m) ∧ v.cell? ⟨R2, o2 + k * 8 + 3, none⟩ = some (.int .i64 b.y0.s) ∧ v.cell? ⟨R2, o2 + k * 8 + 4, none⟩ = some (.int .i64 b.x1.m) ∧ v.cell? ⟨R2, o2 + k * 8 + 5, none⟩ = some (.int .i64 b.x1.s) ∧ v.cell? ⟨R2, o2 + k * 8 + 6, none⟩ = some (.int .i64 b.y1.m) ∧ v.cell? ⟨R2, o2 + k * 8 + 7, none⟩ = some (.int .i64 b.y1.s)) ∧ Below wr.heap.size wr v) (by kernel_rfl) ?_
            refine wpAnyC_take (i := 0) (v := ?v1) rfl (by kernel_rfl) (fun _ _ _ h => h) (Or.inl ⟨by rfl, ?y1⟩) hS ?r1
            case y1 => intro wq _; go_simp; all_goals (first | with_reducible rfl | go_num | (simp; done) | (simp; omega) | skip)
            try simp only [Act.put, List.setIfInBounds_toArray, List.set_cons_zero, List.set_cons_succ]
            refine wpAnyC_take (i := 1) (v := ?v2) rfl (by kernel_rfl) (fun _ _ _ h => h) (Or.inl ⟨by rfl, ?y2⟩) hS ?r2
            case y2 => intro wq _; go_simp; all_goals (first | with_reducible rfl | go_num | (simp; done) | (simp; omega) | skip)
            try simp only [Act.put, List.setIfInBounds_toArray, List.set_cons_zero, List.set_cons_succ]
            refine wpAnyC_take (i := 2) (v := .pointer (some ⟨R, o + i * 25, none⟩)) rfl (by kernel_rfl) (fun _ _ _ h => h) (Or.inl ⟨by rfl, ?y3⟩) hS ?r3
            case y3 => intro wq _; go_simp; all_goals (first | with_reducible rfl | go_num | (simp; done) | (simp; omega) | skip)
            try simp only [Act.put, List.setIfInBounds_toArray, List.set_cons_zero, List.set_cons_succ]
            refine wpAnyC_take (i := 3) (v := .pointer (some ⟨R, o + i * 25 + 17, none⟩)) rfl (by kernel_rfl) (fun _ _ _ h => h) (Or.inl ⟨by rfl, ?y4⟩) hS ?r4
            case y4 => intro wq _; go_simp; all_goals (first | with_reducible rfl | go_num | (simp; done) | (simp; omega) | skip)
            try simp only [Act.put, List.setIfInBounds_toArray, List.set_cons_zero, List.set_cons_succ]
            refine wpAnyC_take (i := 4) (v := .agg #[.int .i64 x.box.x0.m, .int .i64 x.box.x0.s, .int .i64 x.box.y0.m, .int .i64 x.box.y0.s, .int .i64 x.box.x1.m, .int .i64 x.box.x1.s, .int .i64 x.box.y1.m, .int .i64 x.box.y1.s]) rfl (by kernel_rfl) (fun _ _ _ h => h) (Or.inl ⟨by rfl, ?y5⟩) hS ?r5
            case y5 => rintro wq ⟨⟨c0, c1, c2, c3, c4, c5, c6, c7⟩, -, -⟩; go_simp; try with_reducible rfl
            try simp only [Act.put, List.setIfInBounds_toArray, List.set_cons_zero, List.set_cons_succ]
            refine wpAnyC_take (i := 5) (v := ?v6) rfl (by kernel_rfl) (fun _ _ _ h => h) (Or.inl ⟨by rfl, ?y6⟩) hS ?r6
            case y6 => intro wq _; go_simp; all_goals (first | with_reducible rfl | go_num | (simp; done) | (simp; omega) | skip)
            try simp only [Act.put, List.setIfInBounds_toArray, List.set_cons_zero, List.set_cons_succ]
            refine wpAnyC_take (i := 6) (v := ?v7) rfl (by kernel_rfl) (fun _ _ _ h => h) (Or.inl ⟨by rfl, ?y7⟩) hS ?r7
            case y7 => intro wq _; go_simp; all_goals (first | with_reducible rfl | go_num | (simp; done) | (simp; omega) | skip)
            try simp only [Act.put, List.setIfInBounds_toArray, List.set_cons_zero, List.set_cons_succ]
            refine wpAnyC_take (i := 7) (v := .pointer (some ⟨R2, o2 + k * 8, none⟩)) rfl (by kernel_rfl) (fun _ _ _ h => h) (Or.inl ⟨by rfl, ?y8⟩) hS ?r8
            case y8 => intro wq _; go_simp; all_goals (first | with_reducible rfl | go_num | (simp; done) | (simp; omega) | skip)
            try simp only [Act.put, List.setIfInBounds_toArray, List.set_cons_zero, List.set_cons_succ]
            refine wpAnyC_take (i := 8) (v := .agg #[.int .i64 b.x0.m, .int .i64 b.x0.s, .int .i64 b.y0.m, .int .i64 b.y0.s, .int .i64 b.x1.m, .int .i64 b.x1.s, .int .i64 b.y1.m, .int .i64 b.y1.s]) rfl (by kernel_rfl) (fun _ _ _ h => h) (Or.inl ⟨by rfl, ?y9⟩) hS ?r9
            case y9 => rintro wq ⟨-, ⟨c0, c1, c2, c3, c4, c5, c6, c7⟩, -⟩; go_simp; try with_reducible rfl
            try simp only [Act.put, List.setIfInBounds_toArray, List.set_cons_zero, List.set_cons_succ]
            refine wpAnyC_one (j := 9) (by kernel_rfl) rfl (fun K hK => ?_)
            go_simp
            go_at_call 11
            refine HC.out.mono ?_
            rintro e v2 ⟨rfl, kk⟩
            have hb2 : Below wr.heap.size wr v2 := ((Below.refl wr.heap.size wr).drew).trans (kk.mono ((Below.refl wr.heap.size wr).drew).size)
            clear kk
            have hS := HCC.out v2 hb2
            go_wp2_with fail
            refine hK.out _ _ ⟨hS, ?_⟩
            clear hK K
            try simp only [Act.put, List.setIfInBounds_toArray, List.set_cons_zero, List.set_cons_succ]
            refine wpAnyC_take (i := 10) (v := ?v10) rfl (by kernel_rfl) (fun _ _ _ h => h) (Or.inl ⟨by rfl, ?y10⟩) hS ?r10
            case y10 => intro wq _; go_simp; all_goals (first | with_reducible rfl | go_num | (simp; done) | (simp; omega) | skip)
            try simp only [Act.put, List.setIfInBounds_toArray, List.set_cons_zero, List.set_cons_succ]
            refine wpAnyC_take (i := 11) (v := ?v11) rfl (by kernel_rfl) (fun _ _ _ h => h) (Or.inl ⟨by rfl, ?y11⟩) hS ?r11
            case y11 => intro wq _; go_simp; all_goals (first | with_reducible rfl | go_num | (simp; done) | (simp; omega) | skip)
            try simp only [Act.put, List.setIfInBounds_toArray, List.set_cons_zero, List.set_cons_succ]
            refine wpAnyC_take (i := 12) (v := ?v12) rfl (by kernel_rfl) (fun _ _ _ h => h) (Or.inl ⟨by rfl, ?y12⟩) hS ?r12
            case y12 => intro wq _; go_simp; all_goals (first | with_reducible rfl | go_num | (simp; done) | (simp; omega) | skip)
            try simp only [Act.put, List.setIfInBounds_toArray, List.set_cons_zero, List.set_cons_succ]
            refine wpAnyC_take (i := 13) (v := ?v13) rfl (by kernel_rfl) (fun _ _ _ h => h) (Or.inl ⟨by rfl, ?y13⟩) hS ?r13
            case y13 => intro wq _; go_simp; all_goals (first | with_reducible rfl | go_num | (simp; done) | (simp; omega) | skip)
            try simp only [Act.put, List.setIfInBounds_toArray, List.set_cons_zero, List.set_cons_succ]
            refine wpAnyC_take (i := 14) (v := ?v14) rfl (by kernel_rfl) (fun _ _ _ h => h) (Or.inl ⟨by rfl, ?y14⟩) hS ?r14
            case y14 => intro wq _; go_simp; all_goals (first | with_reducible rfl | go_num | (simp; done) | (simp; omega) | skip)
            try simp only [Act.put, List.setIfInBounds_toArray, List.set_cons_zero, List.set_cons_succ]
            refine wpAnyC_done (by kernel_rfl) ?_ _
            clear hS HCC
            have HB3 := Lib.hid (HB2.out.trans (hb2.mono HB2.out.size))
            clear hb2 x0 x1 x2 x3 x4 x5 x6 x7 y0 y1 y2 y3 y4 y5 y6 y7
            cases p
            all_goals
              go_wp2_with fail
              go_roundw
              case rel => exact ⟨k + 1, by omega, by go_num, by rw [HS.out]; rfl, HB3⟩
              case measure => simp [intOf]; omega
          · obtain rfl : k = n1 := by omega
            have d2 : decide ((k : Int) < (k : Int)) = false := by simp
            have hall : (rs.take k).any (meetsB x.box) = rs.any (meetsB x.box) := by rw [List.take_of_length_le (by rw [HL.out.2]; exact Nat.le_refl _)]
            rw [hall]
            have HST := Lib.hid (show stays rs x = (imgB x || !(rs.any (meetsB x.box))) from rfl)
            obtain ⟨p, hp⟩ : ∃ p, rs.any (meetsB x.box) = p := ⟨_, rfl⟩
            rw [hp] at HST ⊢
            clear hall hp x0 x1 x2 x3 x4 x5 x6 x7
            have HFS := Lib.hid (filt_step (stays rs) hx)
            have HFA := Lib.hid (filt_at (stays rs) hx)
            have g1 : (0 : Int) ≤ (i : Int) := by omega
            have g2 : (i : Int) < (n : Int) := by omega
            have hgo : ∀ z : Bool, stays rs x = z → (z = true ∧ (p = false ∨ (p = true ∧ x.kind = 3 ∧ ¬ x.name.size = 0))) ∨ (z = false ∧ p = true ∧ (¬ x.kind = 3 ∨ (x.kind = 3 ∧ x.name.size = 0))) := by
              intro z hz
              rw [HST.out] at hz
              unfold imgB at hz
              subst hz
              cases p
              · exact .inl ⟨by simp, .inl rfl⟩
              · by_cases h3 : x.kind = 3
                · by_cases h4 : x.name.size = 0
                  · exact .inr ⟨by simp [h4], rfl, .inr ⟨h3, h4⟩⟩
                  · exact .inl ⟨by simp [h3, h4], .inr ⟨rfl, h3, h4⟩⟩
                · exact .inr ⟨by simp [h3], rfl, .inl h3⟩
            rcases hgo _ rfl with ⟨hst, hcs⟩ | ⟨hst, rfl, hcs⟩
            · have hat := HFA.out hst
              have hfs := HFS.out
              rw [if_pos hst] at hfs
              rw [HT.out, ← HK.out.2] at hat
              have htm := (List.getElem?_eq_some_iff.1 hat).1
              rw [HMA.out] at htm
              have HN := Lib.hid (show ((l.take (i + 1)).filter (stays rs)).length = t + 1 by rw [hfs, List.length_append, HT.out]; rfl)
              obtain ⟨RA, oA, rfl, hRA, -, -⟩ := (H2'.out.below HBX.out).get hat
              have HSA := Lib.hid (MarksAt.one (H2'.out.below HBX.out) hat)
              have HSL := Lib.hid (MarksAt.one (H2.out.1.below HBX.out) hx)
              have HSC := Lib.hid (same21_any _ _ _ _ _ _ _ (HSA.out.below (Below.refl _ _).drew) (HSL.out.below (Below.refl _ _).drew))
              clear hat hfs HSA HSL hx hxm hst HFS HFA hgo HST
              have g5 : decide ((t : Int) ≥ (m : Int)) = false := decide_eq_false (by omega)
              have g6 : (0 : Int) ≤ (t : Int) := by omega
              rcases hcs with rfl | ⟨rfl, h3, h4⟩
              · clear c0 s2
                have HC := HSC
                have f1 : (0 : Int) ≤ (t : Int) + 1 ∧ (t : Int) + 1 ≤ (ca : Int) := ⟨by omega, by omega⟩
                have f2 : (0 : Int) ≤ (i : Int) + 1 ∧ (i : Int) + 1 ≤ (c : Int) := ⟨by omega, by omega⟩
                have f3 : ¬ ca = t := by omega
                have f4 : ¬ c = i := by omega
                go_upto_region 20 with fail
                have HCC : Hid (∀ v, Below wr.heap.size wr v → (fun v => Below wr.heap.size wr v) v) := Lib.hid (fun v hb => hb)
                have hS := HCC.out wr.drew ((Below.refl wr.heap.size wr).drew)
                refine wp_region_C (fun v => Below wr.heap.size wr v) (by kernel_rfl) ?_
                refine wpAnyC_take (i := 0) (v := ?v15) rfl (by kernel_rfl) (fun _ _ _ h => h) (Or.inl ⟨by rfl, ?y15⟩) hS ?r15
                case y15 => intro wq _; go_simp; all_goals (first | with_reducible rfl | go_num | (simp; done) | (simp; omega) | skip)
                try simp only [Act.put, List.setIfInBounds_toArray, List.set_cons_zero, List.set_cons_succ]
                refine wpAnyC_take (i := 1) (v := ?v16) rfl (by kernel_rfl) (fun _ _ _ h => h) (Or.inl ⟨by rfl, ?y16⟩) hS ?r16
                case y16 => intro wq _; go_simp; all_goals (first | with_reducible rfl | go_num | (simp; done) | (simp; omega) | skip)
                try simp only [Act.put, List.setIfInBounds_toArray, List.set_cons_zero, List.set_cons_succ]
                refine wpAnyC_take (i := 2) (v := ?v17) rfl (by kernel_rfl) (fun _ _ _ h => h) (Or.inl ⟨by rfl, ?y17⟩) hS ?r17
                case y17 => intro wq _; go_simp; all_goals (first | with_reducible rfl | go_num | (simp; done) | (simp; omega) | skip)
                try simp only [Act.put, List.setIfInBounds_toArray, List.set_cons_zero, List.set_cons_succ]
                refine wpAnyC_take (i := 3) (v := .bool false) rfl (by kernel_rfl) (fun _ _ _ h => h) (Or.inl ⟨by rfl, ?y18⟩) hS ?r18
                case y18 => intro wq _; go_simp; all_goals (first | with_reducible rfl | go_num | (simp; done) | (simp; omega) | skip)
                try simp only [Act.put, List.setIfInBounds_toArray, List.set_cons_zero, List.set_cons_succ]
                refine wpAnyC_take (i := 4) (v := ?v19) rfl (by kernel_rfl) (fun _ _ _ h => h) (Or.inl ⟨by rfl, ?y19⟩) hS ?r19
                case y19 => intro wq _; go_simp; all_goals (first | with_reducible rfl | go_num | (simp; done) | (simp; omega) | skip)
                try simp only [Act.put, List.setIfInBounds_toArray, List.set_cons_zero, List.set_cons_succ]
                refine wpAnyC_take (i := 5) (v := ?v20) rfl (by kernel_rfl) (fun _ _ _ h => h) (Or.inl ⟨by rfl, ?y20⟩) hS ?r20
                case y20 => intro wq _; go_simp; all_goals (first | with_reducible rfl | go_num | (simp; done) | (simp; omega) | skip)
                try simp only [Act.put, List.setIfInBounds_toArray, List.set_cons_zero, List.set_cons_succ]
                refine wpAnyC_take (i := 6) (v := ?v21) rfl (by kernel_rfl) (fun _ _ _ h => h) (Or.inl ⟨by rfl, ?y21⟩) hS ?r21
                case y21 => intro wq _; go_simp; all_goals (first | with_reducible rfl | go_num | (simp; done) | (simp; omega) | skip)
                try simp only [Act.put, List.setIfInBounds_toArray, List.set_cons_zero, List.set_cons_succ]
                refine wpAnyC_take (i := 7) (v := ?v22) rfl (by kernel_rfl) (fun _ _ _ h => h) (Or.inl ⟨by rfl, ?y22⟩) hS ?r22
                case y22 => intro wq _; go_simp; all_goals (first | with_reducible rfl | go_num | (simp; done) | (simp; omega) | skip)
                try simp only [Act.put, List.setIfInBounds_toArray, List.set_cons_zero, List.set_cons_succ]
                refine wpAnyC_take (i := 8) (v := .int .i64 ((t : Int) + 1)) rfl (by kernel_rfl) (fun _ _ _ h => h) (Or.inl ⟨by rfl, ?y23⟩) hS ?r23
                case y23 => intro wq _; go_simp; all_goals (rw [IntWalk.i64_in _ (by omega)])
                try simp only [Act.put, List.setIfInBounds_toArray, List.set_cons_zero, List.set_cons_succ]
                refine wpAnyC_take (i := 9) (v := .slice (some ⟨RA, oA + t * 25, none⟩) 1 (ca - t)) rfl (by kernel_rfl) (fun _ _ _ h => h) (Or.inl ⟨by rfl, ?y24⟩) hS ?r24
                case y24 => intro wq _; go_simp; all_goals (rw [if_pos f1, if_neg f3])
                try simp only [Act.put, List.setIfInBounds_toArray, List.set_cons_zero, List.set_cons_succ]
                refine wpAnyC_take (i := 10) (v := ?v25) rfl (by kernel_rfl) (fun _ _ _ h => h) (Or.inl ⟨by rfl, ?y25⟩) hS ?r25
                case y25 => intro wq _; go_simp; all_goals (first | with_reducible rfl | go_num | (simp; done) | (simp; omega) | skip)
                try simp only [Act.put, List.setIfInBounds_toArray, List.set_cons_zero, List.set_cons_succ]
                refine wpAnyC_take (i := 11) (v := ?v26) rfl (by kernel_rfl) (fun _ _ _ h => h) (Or.inl ⟨by rfl, ?y26⟩) hS ?r26
                case y26 => intro wq _; go_simp; all_goals (first | with_reducible rfl | go_num | (simp; done) | (simp; omega) | skip)
                try simp only [Act.put, List.setIfInBounds_toArray, List.set_cons_zero, List.set_cons_succ]
                refine wpAnyC_take (i := 12) (v := ?v27) rfl (by kernel_rfl) (fun _ _ _ h => h) (Or.inl ⟨by rfl, ?y27⟩) hS ?r27
                case y27 => intro wq _; go_simp; all_goals (first | with_reducible rfl | go_num | (simp; done) | (simp; omega) | skip)
                try simp only [Act.put, List.setIfInBounds_toArray, List.set_cons_zero, List.set_cons_succ]
                refine wpAnyC_take (i := 13) (v := .int .i64 ((i : Int) + 1)) rfl (by kernel_rfl) (fun _ _ _ h => h) (Or.inl ⟨by rfl, ?y28⟩) hS ?r28
                case y28 => intro wq _; go_simp; all_goals (rw [IntWalk.i64_in _ (by omega)])
                try simp only [Act.put, List.setIfInBounds_toArray, List.set_cons_zero, List.set_cons_succ]
                refine wpAnyC_take (i := 14) (v := .slice (some ⟨R, o + i * 25, none⟩) 1 (c - i)) rfl (by kernel_rfl) (fun _ _ _ h => h) (Or.inl ⟨by rfl, ?y29⟩) hS ?r29
                case y29 => intro wq _; go_simp; all_goals (rw [if_pos f2, if_neg f4])
                try simp only [Act.put, List.setIfInBounds_toArray, List.set_cons_zero, List.set_cons_succ]
                refine wpAnyC_one (j := 15) (by kernel_rfl) rfl (fun K hK => ?_)
                go_simp
                go_at_call 10
                refine HC.out.mono ?_
                rintro e v2 ⟨rfl, kk⟩
                have hb2 : Below wr.heap.size wr v2 := ((Below.refl wr.heap.size wr).drew).trans (kk.mono ((Below.refl wr.heap.size wr).drew).size)
                clear kk
                have hS := HCC.out v2 hb2
                go_wp2_with fail
                refine hK.out _ _ ⟨hS, ?_⟩
                clear hK K
                try simp only [Act.put, List.setIfInBounds_toArray, List.set_cons_zero, List.set_cons_succ]
                refine wpAnyC_take (i := 16) (v := .bool false) rfl (by kernel_rfl) (fun _ _ _ h => h) (Or.inl ⟨by rfl, ?y30⟩) hS ?r30
                case y30 => intro wq _; go_simp; all_goals (first | with_reducible rfl | go_num | (simp; done) | (simp; omega) | skip)
                try simp only [Act.put, List.setIfInBounds_toArray, List.set_cons_zero, List.set_cons_succ]
                refine wpAnyC_take (i := 17) (v := .bool false) rfl (by kernel_rfl) (fun _ _ _ h => h) (Or.inl ⟨by rfl, ?y31⟩) hS ?r31
                case y31 => intro wq _; go_simp; all_goals (first | with_reducible rfl | go_num | (simp; done) | (simp; omega) | skip)
                try simp only [Act.put, List.setIfInBounds_toArray, List.set_cons_zero, List.set_cons_succ]
                refine wpAnyC_done (by kernel_rfl) ?_ _
                clear hS HCC
                have HB3 := Lib.hid (HB.out.trans ((HB2.out.trans (hb2.mono HB2.out.size)).mono HB.out.size))
                clear hb2
                go_wp2_with fail
                go_roundw
                case rel => exact ⟨i + 1, t + 1, by omega, by omega, by go_num, by go_num, HN, HB3⟩
                case measure => simp [intOf]; omega
              · have hz2 := full_text (s := x.name) (by omega)
                have d3 : (x.kind == 3) = true := by simp [h3]
                clear h3 h4
                have HC := HSC
                have f1 : (0 : Int) ≤ (t : Int) + 1 ∧ (t : Int) + 1 ≤ (ca : Int) := ⟨by omega, by omega⟩
                have f2 : (0 : Int) ≤ (i : Int) + 1 ∧ (i : Int) + 1 ≤ (c : Int) := ⟨by omega, by omega⟩
                have f3 : ¬ ca = t := by omega
                have f4 : ¬ c = i := by omega
                go_upto_region 20 with fail
                have HCC : Hid (∀ v, Below wr.heap.size wr v → (fun v => Below wr.heap.size wr v) v) := Lib.hid (fun v hb => hb)
                have hS := HCC.out wr.drew ((Below.refl wr.heap.size wr).drew)
                refine wp_region_C (fun v => Below wr.heap.size wr v) (by kernel_rfl) ?_
                refine wpAnyC_take (i := 0) (v := ?v32) rfl (by kernel_rfl) (fun _ _ _ h => h) (Or.inl ⟨by rfl, ?y32⟩) hS ?r32
                case y32 => intro wq _; go_simp; all_goals (first | with_reducible rfl | go_num | (simp; done) | (simp; omega) | skip)
                try simp only [Act.put, List.setIfInBounds_toArray, List.set_cons_zero, List.set_cons_succ]
                refine wpAnyC_take (i := 1) (v := ?v33) rfl (by kernel_rfl) (fun _ _ _ h => h) (Or.inl ⟨by rfl, ?y33⟩) hS ?r33
                case y33 => intro wq _; go_simp; all_goals (first | with_reducible rfl | go_num | (simp; done) | (simp; omega) | skip)
                try simp only [Act.put, List.setIfInBounds_toArray, List.set_cons_zero, List.set_cons_succ]
                refine wpAnyC_take (i := 2) (v := ?v34) rfl (by kernel_rfl) (fun _ _ _ h => h) (Or.inl ⟨by rfl, ?y34⟩) hS ?r34
                case y34 => intro wq _; go_simp; all_goals (first | with_reducible rfl | go_num | (simp; done) | (simp; omega) | skip)
                try simp only [Act.put, List.setIfInBounds_toArray, List.set_cons_zero, List.set_cons_succ]
                refine wpAnyC_take (i := 3) (v := .bool false) rfl (by kernel_rfl) (fun _ _ _ h => h) (Or.inl ⟨by rfl, ?y35⟩) hS ?r35
                case y35 => intro wq _; go_simp; all_goals (first | with_reducible rfl | go_num | (simp; done) | (simp; omega) | skip)
                try simp only [Act.put, List.setIfInBounds_toArray, List.set_cons_zero, List.set_cons_succ]
                refine wpAnyC_take (i := 4) (v := ?v36) rfl (by kernel_rfl) (fun _ _ _ h => h) (Or.inl ⟨by rfl, ?y36⟩) hS ?r36
                case y36 => intro wq _; go_simp; all_goals (first | with_reducible rfl | go_num | (simp; done) | (simp; omega) | skip)
                try simp only [Act.put, List.setIfInBounds_toArray, List.set_cons_zero, List.set_cons_succ]
                refine wpAnyC_take (i := 5) (v := ?v37) rfl (by kernel_rfl) (fun _ _ _ h => h) (Or.inl ⟨by rfl, ?y37⟩) hS ?r37
                case y37 => intro wq _; go_simp; all_goals (first | with_reducible rfl | go_num | (simp; done) | (simp; omega) | skip)
                try simp only [Act.put, List.setIfInBounds_toArray, List.set_cons_zero, List.set_cons_succ]
                refine wpAnyC_take (i := 6) (v := ?v38) rfl (by kernel_rfl) (fun _ _ _ h => h) (Or.inl ⟨by rfl, ?y38⟩) hS ?r38
                case y38 => intro wq _; go_simp; all_goals (first | with_reducible rfl | go_num | (simp; done) | (simp; omega) | skip)
                try simp only [Act.put, List.setIfInBounds_toArray, List.set_cons_zero, List.set_cons_succ]
                refine wpAnyC_take (i := 7) (v := ?v39) rfl (by kernel_rfl) (fun _ _ _ h => h) (Or.inl ⟨by rfl, ?y39⟩) hS ?r39
                case y39 => intro wq _; go_simp; all_goals (first | with_reducible rfl | go_num | (simp; done) | (simp; omega) | skip)
                try simp only [Act.put, List.setIfInBounds_toArray, List.set_cons_zero, List.set_cons_succ]
                refine wpAnyC_take (i := 8) (v := .int .i64 ((t : Int) + 1)) rfl (by kernel_rfl) (fun _ _ _ h => h) (Or.inl ⟨by rfl, ?y40⟩) hS ?r40
                case y40 => intro wq _; go_simp; all_goals (rw [IntWalk.i64_in _ (by omega)])
                try simp only [Act.put, List.setIfInBounds_toArray, List.set_cons_zero, List.set_cons_succ]
                refine wpAnyC_take (i := 9) (v := .slice (some ⟨RA, oA + t * 25, none⟩) 1 (ca - t)) rfl (by kernel_rfl) (fun _ _ _ h => h) (Or.inl ⟨by rfl, ?y41⟩) hS ?r41
                case y41 => intro wq _; go_simp; all_goals (rw [if_pos f1, if_neg f3])
                try simp only [Act.put, List.setIfInBounds_toArray, List.set_cons_zero, List.set_cons_succ]
                refine wpAnyC_take (i := 10) (v := ?v42) rfl (by kernel_rfl) (fun _ _ _ h => h) (Or.inl ⟨by rfl, ?y42⟩) hS ?r42
                case y42 => intro wq _; go_simp; all_goals (first | with_reducible rfl | go_num | (simp; done) | (simp; omega) | skip)
                try simp only [Act.put, List.setIfInBounds_toArray, List.set_cons_zero, List.set_cons_succ]
                refine wpAnyC_take (i := 11) (v := ?v43) rfl (by kernel_rfl) (fun _ _ _ h => h) (Or.inl ⟨by rfl, ?y43⟩) hS ?r43
                case y43 => intro wq _; go_simp; all_goals (first | with_reducible rfl | go_num | (simp; done) | (simp; omega) | skip)
                try simp only [Act.put, List.setIfInBounds_toArray, List.set_cons_zero, List.set_cons_succ]
                refine wpAnyC_take (i := 12) (v := ?v44) rfl (by kernel_rfl) (fun _ _ _ h => h) (Or.inl ⟨by rfl, ?y44⟩) hS ?r44
                case y44 => intro wq _; go_simp; all_goals (first | with_reducible rfl | go_num | (simp; done) | (simp; omega) | skip)
                try simp only [Act.put, List.setIfInBounds_toArray, List.set_cons_zero, List.set_cons_succ]
                refine wpAnyC_take (i := 13) (v := .int .i64 ((i : Int) + 1)) rfl (by kernel_rfl) (fun _ _ _ h => h) (Or.inl ⟨by rfl, ?y45⟩) hS ?r45
                case y45 => intro wq _; go_simp; all_goals (rw [IntWalk.i64_in _ (by omega)])
                try simp only [Act.put, List.setIfInBounds_toArray, List.set_cons_zero, List.set_cons_succ]
                refine wpAnyC_take (i := 14) (v := .slice (some ⟨R, o + i * 25, none⟩) 1 (c - i)) rfl (by kernel_rfl) (fun _ _ _ h => h) (Or.inl ⟨by rfl, ?y46⟩) hS ?r46
                case y46 => intro wq _; go_simp; all_goals (rw [if_pos f2, if_neg f4])
                try simp only [Act.put, List.setIfInBounds_toArray, List.set_cons_zero, List.set_cons_succ]
                refine wpAnyC_one (j := 15) (by kernel_rfl) rfl (fun K hK => ?_)
                go_simp
                go_at_call 10
                refine HC.out.mono ?_
                rintro e v2 ⟨rfl, kk⟩
                have hb2 : Below wr.heap.size wr v2 := ((Below.refl wr.heap.size wr).drew).trans (kk.mono ((Below.refl wr.heap.size wr).drew).size)
                clear kk
                have hS := HCC.out v2 hb2
                go_wp2_with fail
                refine hK.out _ _ ⟨hS, ?_⟩
                clear hK K
                try simp only [Act.put, List.setIfInBounds_toArray, List.set_cons_zero, List.set_cons_succ]
                refine wpAnyC_take (i := 16) (v := .bool false) rfl (by kernel_rfl) (fun _ _ _ h => h) (Or.inl ⟨by rfl, ?y47⟩) hS ?r47
                case y47 => intro wq _; go_simp; all_goals (first | with_reducible rfl | go_num | (simp; done) | (simp; omega) | skip)
                try simp only [Act.put, List.setIfInBounds_toArray, List.set_cons_zero, List.set_cons_succ]
                refine wpAnyC_take (i := 17) (v := .bool false) rfl (by kernel_rfl) (fun _ _ _ h => h) (Or.inl ⟨by rfl, ?y48⟩) hS ?r48
                case y48 => intro wq _; go_simp; all_goals (first | with_reducible rfl | go_num | (simp; done) | (simp; omega) | skip)
                try simp only [Act.put, List.setIfInBounds_toArray, List.set_cons_zero, List.set_cons_succ]
                refine wpAnyC_done (by kernel_rfl) ?_ _
                clear hS HCC
                have HB3 := Lib.hid (HB.out.trans ((HB2.out.trans (hb2.mono HB2.out.size)).mono HB.out.size))
                clear hb2
                go_wp2_with fail
                go_roundw
                case rel => exact ⟨i + 1, t + 1, by omega, by omega, by go_num, by go_num, HN, HB3⟩
                case measure => simp [intOf]; omega
            · have hfs := HFS.out
              rw [if_neg (by rw [hst]; decide)] at hfs
              have HN := Lib.hid (show ((l.take (i + 1)).filter (stays rs)).length = t by rw [hfs, HT.out])
              clear hfs hx hxm hst HFS HFA hgo HST
              rcases hcs with h3 | ⟨h3, h4⟩
              · have d3 : (x.kind == 3) = false := by simp [h3]
                clear h3
                go_wp2_with fail
                go_roundw
                case rel => exact ⟨i + 1, t, by omega, by omega, by go_num, rfl, HN, HBX⟩
                case measure => simp [intOf]; omega
              · have hz2 := empty_text h4
                have d3 : (x.kind == 3) = true := by simp [h3]
                clear h3 h4
                go_wp2_with fail
                go_roundw
                case rel => exact ⟨i + 1, t, by omega, by omega, by go_num, rfl, HN, HBX⟩
                case measure => simp [intOf]; omega
      · obtain rfl : i = n := by omega
        have d1 : decide ((i : Int) < (i : Int)) = false := by simp
        have hT := HT.out
        rw [List.take_of_length_le (by rw [HL.out.1]; exact Nat.le_refl _), ← HK.out.2, HMA.out] at hT
        subst hT
        clear hlt ht
        have d4 : ((m : Int) == (m : Int)) = true := by simp
        have HBX := Lib.hid (H2.out.2.2.2.trans (HB.out.mono H2.out.2.2.2.size))
        go_wp2_with fail
        refine (awake23 _ (HMX.out.later HBX.out)).mono ?_
        rintro e w9 ⟨rfl, hb⟩
        have H9 := Lib.hid (HBX.out.trans (hb.mono HBX.out.size))
        clear hb
        go_wp2_with fail
        go_ret
        exact ⟨rfl, H9.out⟩
  · have p1 : e1 = 1 := HA.out.2.symm.trans hz
    subst p1
    clear hz
    go_wp2_with fail
    refine (awake23 _ (HMX.out.later H2.out.2.2.2)).mono ?_
    rintro e w9 ⟨rfl, hb⟩
    have H9 := Lib.hid (H2.out.2.2.2.trans (hb.mono H2.out.2.2.2.size))
    clear hb H2
    go_wp2_with fail
    go_ret
    exact ⟨rfl, H9.out⟩
end Go.Proofs.Ytdlmhienolmncaa
