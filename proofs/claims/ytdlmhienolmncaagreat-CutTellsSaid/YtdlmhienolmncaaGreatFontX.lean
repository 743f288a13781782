/- font's reference: Top, code, Means, Find. -/
import Derived.Test.YtdlmhienolmncaaGreatFontU
import Derived.Test.YtdlmhienolmncaaGreatRegionC
namespace Go.Proofs.YtdlmhienolmncaaGreat
open Go.RowKit

def topI (wd : Bool) : Int := if wd then 65535 else 255
theorem top_any (wd : Bool) (w : World) : Calls Tryz.prog 90 #[.bool wd] w fun e w' => e = .returned (.int .i64 (topI wd)) ∧ w = w' := by
  cases wd
  all_goals
    go_enter Tryz.func90, Tryz.ntmps90
    go_wp2
    go_ret
    exact ⟨rfl, rfl⟩
theorem rcode_any (wd : Bool) (A : Option Addr) (n c : Nat) (ot x : Int) (w : World) : Calls Tryz.prog 64 #[.agg #[.bool wd, .slice A n c, .int .i64 ot], .int .i64 x] w fun e w' => e = .returned (.bool (codeB wd x)) ∧ Below w.heap.size w w' := by
  by_cases h0 : 0 ≤ x
  · have hc : codeB wd x = decide (x ≤ topI wd) := by
      unfold codeB topI
      rw [decide_eq_decide]
      cases wd <;> simp only [Bool.false_eq_true, if_false, if_true] <;> omega
    obtain ⟨T, hT⟩ : ∃ T, topI wd = T := ⟨_, rfl⟩
    rw [hc, hT]
    have HT := Lib.hid hT
    have d0 : decide (0 ≤ x) = true := by simp; omega
    clear hc hT
    go_enter Tryz.func64, Tryz.ntmps64
    go_wp2_with fail
    refine (top_any wd _).mono ?_
    rw [HT.out]
    rintro e w1 ⟨rfl, rfl⟩
    go_wp2_with fail
    go_ret
    exact ⟨rfl, (Below.refl _ _).alloc (Nat.le_refl _) _⟩
  · have hc : codeB wd x = false := by unfold codeB; exact decide_eq_false (fun h => h0 h.1)
    rw [hc]
    have d0 : decide (0 ≤ x) = false := by simp; omega
    go_enter Tryz.func64, Tryz.ntmps64
    go_wp2
    go_ret
    exact ⟨rfl, (Below.refl _ _).alloc (Nat.le_refl _) _⟩
theorem rmeans_any (s : ByteArray) (w : World) (hs : s.size ≤ 9223372036854775807) (h0 : 0 < s.size) : Calls Tryz.prog 89 #[.string s] w fun e w' => e = .returned (.bool (textB s)) ∧ w = w' := by
  by_cases h1 : s.size ≤ 16
  · go_enter Tryz.func89, Tryz.ntmps89
    go_wp2
    go_ret
    exact ⟨ret_b (by rw [Bool.eq_iff_iff, beq_iff_eq]; unfold textB; rw [decide_eq_true_iff]; omega), rfl⟩
  · go_enter Tryz.func89, Tryz.ntmps89
    go_wp2
    go_ret
    exact ⟨ret_b (dec_f (by omega)), rfl⟩
set_option maxRecDepth 100000 in
set_option maxHeartbeats 4000000 in
theorem rfind_any (wd : Bool) (A : Option Addr) (n c : Nat) (ot : Int) (gs : List Gl) (code : Int) (w : World) (h : Glyphs w A n c gs) (hn : n ≤ 1000000) :
    Calls Tryz.prog 65 #[.agg #[.bool wd, .slice A n c, .int .i64 ot], .int .i64 code] w fun e w' =>
      e = .returned (.agg #[.int .i64 (findG ot gs code).code, .int .i64 (findG ot gs code).width, .string (findG ot gs code).text]) ∧ Below w.heap.size w w' := by
  have hl := h.len
  subst hl
  have hcap := h.cap
  have H := Lib.hid h
  have hF2 := (FB.made w wd A gs.length c ot).here ((Below.refl _ _).alloc (Nat.le_refl _) (.cells #[.int .i64 0, .int .i64 0, .string ⟨#[]⟩] 73))
  have hR := Whole.made (w.alloc (.cells #[.bool wd, .slice A gs.length c, .int .i64 ot] 64)) 73 #[.int .i64 0, .int .i64 0, .string ⟨#[]⟩]
  simp only [World.size_alloc] at hR
  have hB : Below w.heap.size w ((w.alloc (.cells #[.bool wd, .slice A gs.length c, .int .i64 ot] 64)).alloc (.cells #[.int .i64 0, .int .i64 0, .string ⟨#[]⟩] 73)) := by (repeat (first | with_reducible exact Below.refl _ _ | with_reducible refine Below.drew ?_ | with_reducible refine bdrewN ?_ _ | (with_reducible refine Below.setCell ?_ ?_ _; rotate_left; focus (first | exact Nat.le_refl _ | omega | (simp; omega) | (simp; done))) | (with_reducible refine Below.alloc ?_ ?_ _; rotate_left; focus (first | exact Nat.le_refl _ | omega | (simp; omega) | (simp; done))) | (with_reducible refine Below.trans ?_ (Below.mono (by assumption) ?_); rotate_left; focus (first | exact Nat.le_refl _ | omega | (simp; omega) | (simp; done)))))
  have HS := Lib.hid (And.intro (show ∀ j q, j < 0 → gs[j]? = some q → q.code ≠ code from fun j q hj => absurd hj (by omega)) (And.intro hF2 (And.intro hR hB)))
  clear h hF2 hR hB
  go_enter Tryz.func65, Tryz.ntmps65
  go_wp2_with fail
  go_loopw [5] (fun s10 wx => ∃ k : Nat, k ≤ gs.length ∧ s10 = .int .i64 k ∧ Hid ((∀ j q, j < k → gs[j]? = some q → q.code ≠ code) ∧ FB wx w.heap.size wd A gs.length c ot ∧ Whole wx (w.heap.size + 1) 73 #[.int .i64 0, .int .i64 0, .string ⟨#[]⟩] ∧ Below w.heap.size w wx)) (fun s10 _ => gs.length - (intOf s10).toNat)
  case atStart => exact ⟨0, by omega, rfl, HS⟩
  case round =>
    clear HS
    obtain ⟨k, hk, rfl, hS⟩ := hrel
    obtain ⟨f0, f1, f2⟩ := hS.out.2.1.cells
    have lF := Whole.lt hS.out.2.1
    have rd := hS.out.2.2.1.reads
    have ft := hS.out.2.2.1.thawed
    have lR := hS.out.2.2.1.lt
    by_cases hlt : k < gs.length
    · obtain ⟨g, hg⟩ : ∃ g, gs[k]? = some g := ⟨_, List.getElem?_eq_getElem hlt⟩
      obtain ⟨R, o, rfl, hRR, hc⟩ := (H.out.below hS.out.2.2.2).at_ (by omega)
      obtain ⟨k0, k1, k2⟩ := hc k g hg
      have d1 : decide ((k : Int) < (gs.length : Int)) = true := by simp; omega
      have d2 : decide (k < gs.length) = true := by simp; omega
      have HG := Lib.hid hg
      clear hg hc
      by_cases he : g.code = code
      · have d3 : (g.code == code) = true := by simp; omega
        have HF := Lib.hid (show findG ot gs code = g by unfold findG; rw [hit_first HG.out he hS.out.1]; rfl)
        clear he
        go_wp2_with fail
        refine bodyPost_ret (v := .agg #[.int .i64 g.code, .int .i64 g.width, .string g.text]) (by simp [results, Tryz.results65, go_sem, rd]) rfl ⟨by rw [HF.out], ?_⟩
        (repeat (first | with_reducible refine Below.drew ?_ | with_reducible refine bdrewN ?_ _ | (with_reducible refine Below.setCell ?_ ?_ _; rotate_left; focus (first | exact Nat.le_refl _ | omega | (simp; omega) | (simp; done))) | (with_reducible refine Below.alloc ?_ ?_ _; rotate_left; focus (first | exact Nat.le_refl _ | omega | (simp; omega) | (simp; done))))); with_reducible exact hS.out.2.2.2
      · have d3 : (g.code == code) = false := by simp; omega
        have HN := Lib.hid (show ∀ j q, j < k + 1 → gs[j]? = some q → q.code ≠ code from fun j q hj hq => by
          rcases Nat.lt_succ_iff_lt_or_eq.1 hj with h | rfl
          · exact hS.out.1 j q h hq
          · rw [HG.out] at hq; injection hq with e; subst e; exact he)
        clear he
        go_wp2_with fail
        go_roundw
        case rel => exact ⟨k + 1, by omega, by go_num, Lib.hid ⟨HN.out, hS.out.2.1, hS.out.2.2.1, hS.out.2.2.2⟩⟩
        case measure => simp [intOf]; omega
    · have d1 : decide ((k : Int) < (gs.length : Int)) = false := by simp; omega
      have d2 : decide (k < gs.length) = false := by simp; omega
      have HF := Lib.hid (show findG ot gs code = ⟨code, ot, ⟨#[]⟩⟩ by unfold findG; rw [hit_never (fun j q hj => hS.out.1 j q (by omega))]; rfl)
      go_wp2_with fail
      refine bodyPost_ret (v := .agg #[.int .i64 code, .int .i64 ot, .string ⟨#[]⟩]) (by simp [results, Tryz.results65, go_sem, rd]) rfl ⟨by rw [HF.out], ?_⟩
      (repeat (first | with_reducible refine Below.drew ?_ | with_reducible refine bdrewN ?_ _ | (with_reducible refine Below.setCell ?_ ?_ _; rotate_left; focus (first | exact Nat.le_refl _ | omega | (simp; omega) | (simp; done))) | (with_reducible refine Below.alloc ?_ ?_ _; rotate_left; focus (first | exact Nat.le_refl _ | omega | (simp; omega) | (simp; done))))); with_reducible exact hS.out.2.2.2
end Go.Proofs.YtdlmhienolmncaaGreat
/- font's reference: Right. Written by gen_fontx.py. -/
namespace Go.Proofs.YtdlmhienolmncaaGreat
open Go.RowKit

theorem no_right {wd : Bool} {ot : Int} {gs : List Gl} (k : Nat) (hk : k < gs.length) (h : okAt wd gs k = false) : false = chkB wd ot gs := by
  cases hc : chkB wd ot gs with
  | false => rfl
  | true =>
    unfold chkB at hc
    simp only [Bool.and_eq_true, List.all_eq_true] at hc
    rw [hc.2.2 k (List.mem_range.2 hk)] at h
    cases h
theorem end_right {wd : Bool} {ot : Int} {gs : List Gl} (h : ∀ j, j < gs.length → okAt wd gs j = true) : chkB wd ot gs = (widthB ot && decide (gs.length ≤ 4096)) := by
  unfold chkB
  rw [show (List.range gs.length).all (okAt wd gs) = true from List.all_eq_true.2 (fun j hj => h j (List.mem_range.1 hj)), Bool.and_true]
theorem below_alloc_size {B : Nat} {w wr : World} (h : Below B w wr) (hB : B ≤ w.heap.size) (o : Obj) : Below B w (wr.alloc o) := h.alloc (Nat.le_trans hB h.size) o
set_option maxRecDepth 100000 in
set_option maxHeartbeats 8000000 in
theorem rright_any (wd : Bool) (A : Option Addr) (n c : Nat) (ot : Int) (gs : List Gl) (w : World) (h : Glyphs w A n c gs) (hn : n ≤ 1000000) :
    Calls Tryz.prog 63 #[.agg #[.bool wd, .slice A n c, .int .i64 ot]] w fun e w' => e = .returned (.bool (chkB wd ot gs)) ∧ Below w.heap.size w w' := by
  have hl := h.len
  subst hl
  have hcap := h.cap
  have htop := h.top
  have H := Lib.hid h
  clear h
  go_enter Tryz.func63, Tryz.ntmps63
  go_wp2_with fail
  go_loopw [3] (fun i wr => ∃ k : Nat, k ≤ gs.length ∧ i = .int .i64 k ∧ Hid (∀ j, j < k → okAt wd gs j = true) ∧ Below w.heap.size w wr ∧ FB wr w.heap.size wd A gs.length c ot) (fun i _ => gs.length - (intOf i).toNat)
  case atStart => exact ⟨0, by omega, rfl, Lib.hid (fun j hj => absurd hj (by omega)), (Below.refl _ _).alloc (Nat.le_refl _) _, Whole.made _ _ _⟩
  case round =>
    obtain ⟨k, hk, rfl, HO, hb, hfb⟩ := hrel
    obtain ⟨f0, f1, f2⟩ := hfb.cells
    have HF := Lib.hid (And.intro hb hfb)
    have hsz := hfb.lt
    clear hb hfb
    by_cases hlt : k < gs.length
    · obtain ⟨g, hg⟩ : ∃ g, gs[k]? = some g := ⟨_, List.getElem?_eq_getElem hlt⟩
      obtain ⟨R, o, rfl, hR, hc⟩ := (H.out.below HF.out.1).at_ (by omega)
      obtain ⟨g0, g1, g2⟩ := hc k g hg
      have ht := H.out.text g (List.mem_of_getElem? hg)
      have hok : okAt wd gs k = (codeB wd g.code && (widthB g.width && ((g.text.size == 0 || textB g.text) && (k == 0 || match gs[k - 1]? with | none => true | some p => decide (p.code < g.code))))) := by
        unfold okAt; rw [hg]; rfl
      have HK := Lib.hid hok
      have HCg := Lib.hid hc
      have d1 : decide ((k : Int) < (gs.length : Int)) = true := decide_eq_true (by omega)
      have d2 : decide (k < gs.length) = true := decide_eq_true (by omega)
      clear hg hc hok
      go_wp2_with fail
      have hFW : FB (wr.alloc (.cells #[.int .i64 g.code, .int .i64 g.width, .string g.text] 73)) w.heap.size wd (some ⟨R, o, none⟩) gs.length c ot := Whole.old HF.out.2 _
      have hGW : Whole (wr.alloc (.cells #[.int .i64 g.code, .int .i64 g.width, .string g.text] 73)) wr.heap.size 73 #[.int .i64 g.code, .int .i64 g.width, .string g.text] := Whole.made wr _ _
      have hbw : Below w.heap.size w (wr.alloc (.cells #[.int .i64 g.code, .int .i64 g.width, .string g.text] 73)) := below_alloc_size HF.out.1 (Nat.le_refl _) _
      have hcW : ∀ i q, gs[i]? = some q → (wr.alloc (.cells #[.int .i64 g.code, .int .i64 g.width, .string g.text] 73)).cell? ⟨R, o + i * 3, none⟩ = some (.int .i64 q.code) := fun i q hi => (World.cell?_alloc_lt _ _ _ hR).trans (HCg.out i q hi).1
      have hRW : R < (wr.alloc (.cells #[.int .i64 g.code, .int .i64 g.width, .string g.text] 73)).heap.size := by rw [World.size_alloc]; omega
      clear f0 f1 f2 g0 g1 g2 HCg
      generalize (wr.alloc (.cells #[.int .i64 g.code, .int .i64 g.width, .string g.text] 73)) = W at *
      obtain ⟨f0, f1, f2⟩ := hFW.cells
      have e0 : W.cell? ⟨wr.heap.size, 0, none⟩ = some (.int .i64 g.code) := hGW.reads 0
      have e1 : W.cell? ⟨wr.heap.size, 1, none⟩ = some (.int .i64 g.width) := hGW.reads 1
      have e2 : W.cell? ⟨wr.heap.size, 2, none⟩ = some (.string g.text) := hGW.reads 2
      have lF := Whole.lt hFW
      have lG := Whole.lt hGW
      have HW := Lib.hid (And.intro hbw hFW)
      have HcW := Lib.hid hcW
      clear hbw hFW hGW hcW
      cases hA : codeB wd g.code
      · have HA := Lib.hid hA
        clear hA
        have HC : Hid (∀ v, Below W.heap.size W v → (fun v => (v.cell? ⟨w.heap.size, 0, none⟩ = some (.bool wd) ∧ v.cell? ⟨w.heap.size, 1, none⟩ = some (.slice (some ⟨R, o, none⟩) gs.length c) ∧ v.cell? ⟨w.heap.size, 2, none⟩ = some (.int .i64 ot)) ∧ (v.cell? ⟨wr.heap.size, 0, none⟩ = some (.int .i64 g.code) ∧ v.cell? ⟨wr.heap.size, 1, none⟩ = some (.int .i64 g.width) ∧ v.cell? ⟨wr.heap.size, 2, none⟩ = some (.string g.text)) ∧ True ∧ Below W.heap.size W v) v) := Lib.hid (fun v hb => ⟨⟨(hb.cell (p := ⟨w.heap.size, 0, none⟩) lF).trans f0, (hb.cell (p := ⟨w.heap.size, 1, none⟩) lF).trans f1, (hb.cell (p := ⟨w.heap.size, 2, none⟩) lF).trans f2⟩, ⟨(hb.cell (p := ⟨wr.heap.size, 0, none⟩) lG).trans e0, (hb.cell (p := ⟨wr.heap.size, 1, none⟩) lG).trans e1, (hb.cell (p := ⟨wr.heap.size, 2, none⟩) lG).trans e2⟩, trivial, hb⟩)
        have hS := HC.out W.drew ((Below.refl W.heap.size W).drew)
        clear f0 f1 f2 e0 e1 e2
        refine wp_region_C (fun v => (v.cell? ⟨w.heap.size, 0, none⟩ = some (.bool wd) ∧ v.cell? ⟨w.heap.size, 1, none⟩ = some (.slice (some ⟨R, o, none⟩) gs.length c) ∧ v.cell? ⟨w.heap.size, 2, none⟩ = some (.int .i64 ot)) ∧ (v.cell? ⟨wr.heap.size, 0, none⟩ = some (.int .i64 g.code) ∧ v.cell? ⟨wr.heap.size, 1, none⟩ = some (.int .i64 g.width) ∧ v.cell? ⟨wr.heap.size, 2, none⟩ = some (.string g.text)) ∧ True ∧ Below W.heap.size W v) (by kernel_rfl) ?_
        refine wpAnyC_take (i := 0) (v := ?v1) rfl (by kernel_rfl) (fun _ _ _ h => h) (Or.inl ⟨by rfl, ?y1⟩) hS ?r1
        case y1 => rintro wq ⟨⟨c0, c1, c2⟩, ⟨e0, e1, e2⟩, pp, -⟩; go_simp; try with_reducible rfl
        try simp only [Act.put, List.setIfInBounds_toArray, List.set_cons_zero, List.set_cons_succ]
        refine wpAnyC_take (i := 1) (v := ?v2) rfl (by kernel_rfl) (fun _ _ _ h => h) (Or.inl ⟨by rfl, ?y2⟩) hS ?r2
        case y2 => intro wq _; go_simp; try with_reducible rfl
        try simp only [Act.put, List.setIfInBounds_toArray, List.set_cons_zero, List.set_cons_succ]
        refine wpAnyC_take (i := 2) (v := ?v3) rfl (by kernel_rfl) (fun _ _ _ h => h) (Or.inl ⟨by rfl, ?y3⟩) hS ?r3
        case y3 => rintro wq ⟨⟨c0, c1, c2⟩, ⟨e0, e1, e2⟩, pp, -⟩; go_simp; try with_reducible rfl
        try simp only [Act.put, List.setIfInBounds_toArray, List.set_cons_zero, List.set_cons_succ]
        refine wpAnyC_one (j := 3) (by kernel_rfl) rfl (fun K hK => ?_)
        go_simp
        go_at_call 64
        refine (rcode_any wd (some ⟨R, o, none⟩) gs.length c ot g.code _).mono ?_
        rw [HA.out]
        rintro e v ⟨rfl, kk⟩
        have hbv : Below W.heap.size W v := ((Below.refl W.heap.size W).drew).trans kk
        have hS := HC.out v hbv
        clear kk
        go_wp2_with fail
        refine hK.out _ _ ⟨hS, ?_⟩
        clear hK K
        try simp only [Act.put, List.setIfInBounds_toArray, List.set_cons_zero, List.set_cons_succ]
        refine wpAnyC_take (i := 4) (v := .bool true) rfl (by kernel_rfl) (fun _ _ _ h => h) (Or.inl ⟨by rfl, ?y5⟩) hS ?r5
        case y5 => intro wq _; go_simp; all_goals (first | (simp only [d1]; done) | (simp [d1]; done) | (simp; omega) | (trace_state; fail))
        try simp only [Act.put, List.setIfInBounds_toArray, List.set_cons_zero, List.set_cons_succ]
        refine wpAnyC_take (i := 5) (v := .bool true) rfl (by kernel_rfl) (fun _ _ _ h => h) (Or.inl ⟨by rfl, ?y6⟩) hS ?r6
        case y6 => intro wq _; go_simp; all_goals (first | (simp only [d1]; done) | (simp [d1]; done) | (simp; omega) | (trace_state; fail))
        try simp only [Act.put, List.setIfInBounds_toArray, List.set_cons_zero, List.set_cons_succ]
        refine wpAnyC_take (i := 6) (v := undef) rfl (by kernel_rfl) (fun _ _ _ h => h) (Or.inr ⟨by rfl, rfl⟩) hS ?r7
        try simp only [Act.put, List.setIfInBounds_toArray, List.set_cons_zero, List.set_cons_succ]
        refine wpAnyC_take (i := 7) (v := undef) rfl (by kernel_rfl) (fun _ _ _ h => h) (Or.inr ⟨by rfl, rfl⟩) hS ?r8
        try simp only [Act.put, List.setIfInBounds_toArray, List.set_cons_zero, List.set_cons_succ]
        refine wpAnyC_take (i := 8) (v := undef) rfl (by kernel_rfl) (fun _ _ _ h => h) (Or.inr ⟨by rfl, rfl⟩) hS ?r9
        try simp only [Act.put, List.setIfInBounds_toArray, List.set_cons_zero, List.set_cons_succ]
        refine wpAnyC_take (i := 9) (v := undef) rfl (by kernel_rfl) (fun _ _ _ h => h) (Or.inr ⟨by rfl, rfl⟩) hS ?r10
        try simp only [Act.put, List.setIfInBounds_toArray, List.set_cons_zero, List.set_cons_succ]
        refine wpAnyC_take (i := 10) (v := undef) rfl (by kernel_rfl) (fun _ _ _ h => h) (Or.inr ⟨by rfl, rfl⟩) hS ?r11
        try simp only [Act.put, List.setIfInBounds_toArray, List.set_cons_zero, List.set_cons_succ]
        refine wpAnyC_take (i := 11) (v := undef) rfl (by kernel_rfl) (fun _ _ _ h => h) (Or.inr ⟨by rfl, rfl⟩) hS ?r12
        try simp only [Act.put, List.setIfInBounds_toArray, List.set_cons_zero, List.set_cons_succ]
        refine wpAnyC_take (i := 12) (v := undef) rfl (by kernel_rfl) (fun _ _ _ h => h) (Or.inr ⟨by rfl, rfl⟩) hS ?r13
        try simp only [Act.put, List.setIfInBounds_toArray, List.set_cons_zero, List.set_cons_succ]
        refine wpAnyC_take (i := 13) (v := undef) rfl (by kernel_rfl) (fun _ _ _ h => h) (Or.inr ⟨by rfl, rfl⟩) hS ?r14
        try simp only [Act.put, List.setIfInBounds_toArray, List.set_cons_zero, List.set_cons_succ]
        refine wpAnyC_take (i := 14) (v := undef) rfl (by kernel_rfl) (fun _ _ _ h => h) (Or.inr ⟨by rfl, rfl⟩) hS ?r15
        try simp only [Act.put, List.setIfInBounds_toArray, List.set_cons_zero, List.set_cons_succ]
        refine wpAnyC_take (i := 15) (v := undef) rfl (by kernel_rfl) (fun _ _ _ h => h) (Or.inr ⟨by rfl, rfl⟩) hS ?r16
        try simp only [Act.put, List.setIfInBounds_toArray, List.set_cons_zero, List.set_cons_succ]
        refine wpAnyC_take (i := 16) (v := undef) rfl (by kernel_rfl) (fun _ _ _ h => h) (Or.inr ⟨by rfl, rfl⟩) hS ?r17
        try simp only [Act.put, List.setIfInBounds_toArray, List.set_cons_zero, List.set_cons_succ]
        refine wpAnyC_take (i := 17) (v := undef) rfl (by kernel_rfl) (fun _ _ _ h => h) (Or.inr ⟨by rfl, rfl⟩) hS ?r18
        try simp only [Act.put, List.setIfInBounds_toArray, List.set_cons_zero, List.set_cons_succ]
        refine wpAnyC_take (i := 18) (v := undef) rfl (by kernel_rfl) (fun _ _ _ h => h) (Or.inr ⟨by rfl, rfl⟩) hS ?r19
        try simp only [Act.put, List.setIfInBounds_toArray, List.set_cons_zero, List.set_cons_succ]
        refine wpAnyC_take (i := 19) (v := undef) rfl (by kernel_rfl) (fun _ _ _ h => h) (Or.inr ⟨by rfl, rfl⟩) hS ?r20
        try simp only [Act.put, List.setIfInBounds_toArray, List.set_cons_zero, List.set_cons_succ]
        refine wpAnyC_take (i := 20) (v := .bool true) rfl (by kernel_rfl) (fun _ _ _ h => h) (Or.inl ⟨by rfl, ?y21⟩) hS ?r21
        case y21 => intro wq _; go_simp; all_goals (first | (simp only [d1]; done) | (simp [d1]; done) | (simp; omega) | (trace_state; fail))
        try simp only [Act.put, List.setIfInBounds_toArray, List.set_cons_zero, List.set_cons_succ]
        refine wpAnyC_take (i := 21) (v := .bool true) rfl (by kernel_rfl) (fun _ _ _ h => h) (Or.inl ⟨by rfl, ?y22⟩) hS ?r22
        case y22 => intro wq _; go_simp; all_goals (first | (simp only [d1]; done) | (simp [d1]; done) | (simp; omega) | (trace_state; fail))
        try simp only [Act.put, List.setIfInBounds_toArray, List.set_cons_zero, List.set_cons_succ]
        refine wpAnyC_take (i := 22) (v := undef) rfl (by kernel_rfl) (fun _ _ _ h => h) (Or.inr ⟨by rfl, rfl⟩) hS ?r23
        try simp only [Act.put, List.setIfInBounds_toArray, List.set_cons_zero, List.set_cons_succ]
        refine wpAnyC_take (i := 23) (v := undef) rfl (by kernel_rfl) (fun _ _ _ h => h) (Or.inr ⟨by rfl, rfl⟩) hS ?r24
        try simp only [Act.put, List.setIfInBounds_toArray, List.set_cons_zero, List.set_cons_succ]
        refine wpAnyC_take (i := 24) (v := undef) rfl (by kernel_rfl) (fun _ _ _ h => h) (Or.inr ⟨by rfl, rfl⟩) hS ?r25
        try simp only [Act.put, List.setIfInBounds_toArray, List.set_cons_zero, List.set_cons_succ]
        refine wpAnyC_take (i := 25) (v := .bool true) rfl (by kernel_rfl) (fun _ _ _ h => h) (Or.inl ⟨by rfl, ?y26⟩) hS ?r26
        case y26 => intro wq _; go_simp; all_goals (first | (simp only [d1]; done) | (simp [d1]; done) | (simp; omega) | (trace_state; fail))
        try simp only [Act.put, List.setIfInBounds_toArray, List.set_cons_zero, List.set_cons_succ]
        refine wpAnyC_take (i := 26) (v := .bool true) rfl (by kernel_rfl) (fun _ _ _ h => h) (Or.inl ⟨by rfl, ?y27⟩) hS ?r27
        case y27 => intro wq _; go_simp; all_goals (first | (simp only [d1]; done) | (simp [d1]; done) | (simp; omega) | (trace_state; fail))
        try simp only [Act.put, List.setIfInBounds_toArray, List.set_cons_zero, List.set_cons_succ]
        refine wpAnyC_take (i := 27) (v := undef) rfl (by kernel_rfl) (fun _ _ _ h => h) (Or.inr ⟨by rfl, rfl⟩) hS ?r28
        try simp only [Act.put, List.setIfInBounds_toArray, List.set_cons_zero, List.set_cons_succ]
        refine wpAnyC_take (i := 28) (v := undef) rfl (by kernel_rfl) (fun _ _ _ h => h) (Or.inr ⟨by rfl, rfl⟩) hS ?r29
        try simp only [Act.put, List.setIfInBounds_toArray, List.set_cons_zero, List.set_cons_succ]
        refine wpAnyC_take (i := 29) (v := undef) rfl (by kernel_rfl) (fun _ _ _ h => h) (Or.inr ⟨by rfl, rfl⟩) hS ?r30
        try simp only [Act.put, List.setIfInBounds_toArray, List.set_cons_zero, List.set_cons_succ]
        refine wpAnyC_take (i := 30) (v := .bool true) rfl (by kernel_rfl) (fun _ _ _ h => h) (Or.inl ⟨by rfl, ?y31⟩) hS ?r31
        case y31 => intro wq _; go_simp; all_goals (first | (simp only [d1]; done) | (simp [d1]; done) | (simp; omega) | (trace_state; fail))
        try simp only [Act.put, List.setIfInBounds_toArray, List.set_cons_zero, List.set_cons_succ]
        refine wpAnyC_take (i := 31) (v := .bool true) rfl (by kernel_rfl) (fun _ _ _ h => h) (Or.inl ⟨by rfl, ?y32⟩) hS ?r32
        case y32 => intro wq _; go_simp; all_goals (first | (simp only [d1]; done) | (simp [d1]; done) | (simp; omega) | (trace_state; fail))
        try simp only [Act.put, List.setIfInBounds_toArray, List.set_cons_zero, List.set_cons_succ]
        refine wpAnyC_take (i := 32) (v := undef) rfl (by kernel_rfl) (fun _ _ _ h => h) (Or.inr ⟨by rfl, rfl⟩) hS ?r33
        try simp only [Act.put, List.setIfInBounds_toArray, List.set_cons_zero, List.set_cons_succ]
        refine wpAnyC_take (i := 33) (v := undef) rfl (by kernel_rfl) (fun _ _ _ h => h) (Or.inr ⟨by rfl, rfl⟩) hS ?r34
        try simp only [Act.put, List.setIfInBounds_toArray, List.set_cons_zero, List.set_cons_succ]
        refine wpAnyC_take (i := 34) (v := undef) rfl (by kernel_rfl) (fun _ _ _ h => h) (Or.inr ⟨by rfl, rfl⟩) hS ?r35
        try simp only [Act.put, List.setIfInBounds_toArray, List.set_cons_zero, List.set_cons_succ]
        refine wpAnyC_take (i := 35) (v := undef) rfl (by kernel_rfl) (fun _ _ _ h => h) (Or.inr ⟨by rfl, rfl⟩) hS ?r36
        try simp only [Act.put, List.setIfInBounds_toArray, List.set_cons_zero, List.set_cons_succ]
        refine wpAnyC_take (i := 36) (v := undef) rfl (by kernel_rfl) (fun _ _ _ h => h) (Or.inr ⟨by rfl, rfl⟩) hS ?r37
        try simp only [Act.put, List.setIfInBounds_toArray, List.set_cons_zero, List.set_cons_succ]
        refine wpAnyC_take (i := 37) (v := undef) rfl (by kernel_rfl) (fun _ _ _ h => h) (Or.inr ⟨by rfl, rfl⟩) hS ?r38
        try simp only [Act.put, List.setIfInBounds_toArray, List.set_cons_zero, List.set_cons_succ]
        refine wpAnyC_take (i := 38) (v := undef) rfl (by kernel_rfl) (fun _ _ _ h => h) (Or.inr ⟨by rfl, rfl⟩) hS ?r39
        try simp only [Act.put, List.setIfInBounds_toArray, List.set_cons_zero, List.set_cons_succ]
        refine wpAnyC_take (i := 39) (v := undef) rfl (by kernel_rfl) (fun _ _ _ h => h) (Or.inr ⟨by rfl, rfl⟩) hS ?r40
        try simp only [Act.put, List.setIfInBounds_toArray, List.set_cons_zero, List.set_cons_succ]
        refine wpAnyC_take (i := 40) (v := undef) rfl (by kernel_rfl) (fun _ _ _ h => h) (Or.inr ⟨by rfl, rfl⟩) hS ?r41
        try simp only [Act.put, List.setIfInBounds_toArray, List.set_cons_zero, List.set_cons_succ]
        refine wpAnyC_take (i := 41) (v := .bool true) rfl (by kernel_rfl) (fun _ _ _ h => h) (Or.inl ⟨by rfl, ?y42⟩) hS ?r42
        case y42 => intro wq _; go_simp; all_goals (first | (simp only [d1]; done) | (simp [d1]; done) | (simp; omega) | (trace_state; fail))
        try simp only [Act.put, List.setIfInBounds_toArray, List.set_cons_zero, List.set_cons_succ]
        refine wpAnyC_done (by kernel_rfl) ?_ _
        go_wp2_with fail
        go_ret
        exact ⟨ret_b (no_right _ hlt (by rw [HK.out, HA.out]; rfl)), HW.out.1.trans (hS.2.2.2.mono HW.out.1.size)⟩
      · have HA := Lib.hid hA
        clear hA
        by_cases hk0 : k = 0
        · subst hk0
          have HKk : Hid (okAt wd gs 0 = (codeB wd g.code && (widthB g.width && ((g.text.size == 0 || textB g.text) && true)))) := Lib.hid (by rw [HK.out]; rfl)
          have hk7 : decide ((0 : Int) < 0) = false := rfl
          have HC : Hid (∀ v, Below W.heap.size W v → (fun v => (v.cell? ⟨w.heap.size, 0, none⟩ = some (.bool wd) ∧ v.cell? ⟨w.heap.size, 1, none⟩ = some (.slice (some ⟨R, o, none⟩) gs.length c) ∧ v.cell? ⟨w.heap.size, 2, none⟩ = some (.int .i64 ot)) ∧ (v.cell? ⟨wr.heap.size, 0, none⟩ = some (.int .i64 g.code) ∧ v.cell? ⟨wr.heap.size, 1, none⟩ = some (.int .i64 g.width) ∧ v.cell? ⟨wr.heap.size, 2, none⟩ = some (.string g.text)) ∧ True ∧ Below W.heap.size W v) v) := Lib.hid (fun v hb => ⟨⟨(hb.cell (p := ⟨w.heap.size, 0, none⟩) lF).trans f0, (hb.cell (p := ⟨w.heap.size, 1, none⟩) lF).trans f1, (hb.cell (p := ⟨w.heap.size, 2, none⟩) lF).trans f2⟩, ⟨(hb.cell (p := ⟨wr.heap.size, 0, none⟩) lG).trans e0, (hb.cell (p := ⟨wr.heap.size, 1, none⟩) lG).trans e1, (hb.cell (p := ⟨wr.heap.size, 2, none⟩) lG).trans e2⟩, trivial, hb⟩)
          have hS := HC.out W.drew ((Below.refl W.heap.size W).drew)
          clear f0 f1 f2 e0 e1 e2
          by_cases w0 : 0 ≤ g.width
          · have hw0 : decide (g.width < 0) = false := decide_eq_false (by omega)
            by_cases w1 : g.width ≤ 10000
            · have hw1 : decide (10000 < g.width) = false := decide_eq_false (by omega)
              have hwb : widthB g.width = true := by unfold widthB; exact decide_eq_true ⟨w0, w1⟩
              by_cases tz : g.text.size = 0
              · have hz2 := empty_text tz
                refine wp_region_C (fun v => (v.cell? ⟨w.heap.size, 0, none⟩ = some (.bool wd) ∧ v.cell? ⟨w.heap.size, 1, none⟩ = some (.slice (some ⟨R, o, none⟩) gs.length c) ∧ v.cell? ⟨w.heap.size, 2, none⟩ = some (.int .i64 ot)) ∧ (v.cell? ⟨wr.heap.size, 0, none⟩ = some (.int .i64 g.code) ∧ v.cell? ⟨wr.heap.size, 1, none⟩ = some (.int .i64 g.width) ∧ v.cell? ⟨wr.heap.size, 2, none⟩ = some (.string g.text)) ∧ True ∧ Below W.heap.size W v) (by kernel_rfl) ?_
                refine wpAnyC_take (i := 0) (v := ?v43) rfl (by kernel_rfl) (fun _ _ _ h => h) (Or.inl ⟨by rfl, ?y43⟩) hS ?r43
                case y43 => rintro wq ⟨⟨c0, c1, c2⟩, ⟨e0, e1, e2⟩, pp, -⟩; go_simp; try with_reducible rfl
                try simp only [Act.put, List.setIfInBounds_toArray, List.set_cons_zero, List.set_cons_succ]
                refine wpAnyC_take (i := 1) (v := ?v44) rfl (by kernel_rfl) (fun _ _ _ h => h) (Or.inl ⟨by rfl, ?y44⟩) hS ?r44
                case y44 => intro wq _; go_simp; try with_reducible rfl
                try simp only [Act.put, List.setIfInBounds_toArray, List.set_cons_zero, List.set_cons_succ]
                refine wpAnyC_take (i := 2) (v := ?v45) rfl (by kernel_rfl) (fun _ _ _ h => h) (Or.inl ⟨by rfl, ?y45⟩) hS ?r45
                case y45 => rintro wq ⟨⟨c0, c1, c2⟩, ⟨e0, e1, e2⟩, pp, -⟩; go_simp; try with_reducible rfl
                try simp only [Act.put, List.setIfInBounds_toArray, List.set_cons_zero, List.set_cons_succ]
                refine wpAnyC_one (j := 3) (by kernel_rfl) rfl (fun K hK => ?_)
                go_simp
                go_at_call 64
                refine (rcode_any wd (some ⟨R, o, none⟩) gs.length c ot g.code _).mono ?_
                rw [HA.out]
                rintro e v ⟨rfl, kk⟩
                have hbv : Below W.heap.size W v := ((Below.refl W.heap.size W).drew).trans kk
                have hS := HC.out v hbv
                clear kk
                go_wp2_with fail
                refine hK.out _ _ ⟨hS, ?_⟩
                clear hK K
                try simp only [Act.put, List.setIfInBounds_toArray, List.set_cons_zero, List.set_cons_succ]
                refine wpAnyC_take (i := 4) (v := .bool false) rfl (by kernel_rfl) (fun _ _ _ h => h) (Or.inl ⟨by rfl, ?y47⟩) hS ?r47
                case y47 => intro wq _; go_simp; all_goals (first | (simp only [hk7, hw0, hw1, hz2]; done) | (simp [hk7, hw0, hw1, hz2]; done) | (simp; omega) | (trace_state; fail))
                try simp only [Act.put, List.setIfInBounds_toArray, List.set_cons_zero, List.set_cons_succ]
                refine wpAnyC_take (i := 5) (v := .bool false) rfl (by kernel_rfl) (fun _ _ _ h => h) (Or.inl ⟨by rfl, ?y48⟩) hS ?r48
                case y48 => intro wq _; go_simp; all_goals (first | (simp only [hk7, hw0, hw1, hz2]; done) | (simp [hk7, hw0, hw1, hz2]; done) | (simp; omega) | (trace_state; fail))
                try simp only [Act.put, List.setIfInBounds_toArray, List.set_cons_zero, List.set_cons_succ]
                refine wpAnyC_take (i := 6) (v := ?v49) rfl (by kernel_rfl) (fun _ _ _ h => h) (Or.inl ⟨by rfl, ?y49⟩) hS ?r49
                case y49 => intro wq _; go_simp; try with_reducible rfl
                try simp only [Act.put, List.setIfInBounds_toArray, List.set_cons_zero, List.set_cons_succ]
                refine wpAnyC_take (i := 7) (v := .bool false) rfl (by kernel_rfl) (fun _ _ _ h => h) (Or.inl ⟨by rfl, ?y50⟩) hS ?r50
                case y50 => intro wq _; go_simp; all_goals (first | (simp only [hk7, hw0, hw1, hz2]; done) | (simp [hk7, hw0, hw1, hz2]; done) | (simp; omega) | (trace_state; fail))
                try simp only [Act.put, List.setIfInBounds_toArray, List.set_cons_zero, List.set_cons_succ]
                refine wpAnyC_take (i := 8) (v := .bool false) rfl (by kernel_rfl) (fun _ _ _ h => h) (Or.inl ⟨by rfl, ?y51⟩) hS ?r51
                case y51 => intro wq _; go_simp; all_goals (first | (simp only [hk7, hw0, hw1, hz2]; done) | (simp [hk7, hw0, hw1, hz2]; done) | (simp; omega) | (trace_state; fail))
                try simp only [Act.put, List.setIfInBounds_toArray, List.set_cons_zero, List.set_cons_succ]
                refine wpAnyC_take (i := 9) (v := undef) rfl (by kernel_rfl) (fun _ _ _ h => h) (Or.inr ⟨by rfl, rfl⟩) hS ?r52
                try simp only [Act.put, List.setIfInBounds_toArray, List.set_cons_zero, List.set_cons_succ]
                refine wpAnyC_take (i := 10) (v := undef) rfl (by kernel_rfl) (fun _ _ _ h => h) (Or.inr ⟨by rfl, rfl⟩) hS ?r53
                try simp only [Act.put, List.setIfInBounds_toArray, List.set_cons_zero, List.set_cons_succ]
                refine wpAnyC_take (i := 11) (v := undef) rfl (by kernel_rfl) (fun _ _ _ h => h) (Or.inr ⟨by rfl, rfl⟩) hS ?r54
                try simp only [Act.put, List.setIfInBounds_toArray, List.set_cons_zero, List.set_cons_succ]
                refine wpAnyC_take (i := 12) (v := undef) rfl (by kernel_rfl) (fun _ _ _ h => h) (Or.inr ⟨by rfl, rfl⟩) hS ?r55
                try simp only [Act.put, List.setIfInBounds_toArray, List.set_cons_zero, List.set_cons_succ]
                refine wpAnyC_take (i := 13) (v := undef) rfl (by kernel_rfl) (fun _ _ _ h => h) (Or.inr ⟨by rfl, rfl⟩) hS ?r56
                try simp only [Act.put, List.setIfInBounds_toArray, List.set_cons_zero, List.set_cons_succ]
                refine wpAnyC_take (i := 14) (v := undef) rfl (by kernel_rfl) (fun _ _ _ h => h) (Or.inr ⟨by rfl, rfl⟩) hS ?r57
                try simp only [Act.put, List.setIfInBounds_toArray, List.set_cons_zero, List.set_cons_succ]
                refine wpAnyC_take (i := 15) (v := undef) rfl (by kernel_rfl) (fun _ _ _ h => h) (Or.inr ⟨by rfl, rfl⟩) hS ?r58
                try simp only [Act.put, List.setIfInBounds_toArray, List.set_cons_zero, List.set_cons_succ]
                refine wpAnyC_take (i := 16) (v := undef) rfl (by kernel_rfl) (fun _ _ _ h => h) (Or.inr ⟨by rfl, rfl⟩) hS ?r59
                try simp only [Act.put, List.setIfInBounds_toArray, List.set_cons_zero, List.set_cons_succ]
                refine wpAnyC_take (i := 17) (v := undef) rfl (by kernel_rfl) (fun _ _ _ h => h) (Or.inr ⟨by rfl, rfl⟩) hS ?r60
                try simp only [Act.put, List.setIfInBounds_toArray, List.set_cons_zero, List.set_cons_succ]
                refine wpAnyC_take (i := 18) (v := undef) rfl (by kernel_rfl) (fun _ _ _ h => h) (Or.inr ⟨by rfl, rfl⟩) hS ?r61
                try simp only [Act.put, List.setIfInBounds_toArray, List.set_cons_zero, List.set_cons_succ]
                refine wpAnyC_take (i := 19) (v := .bool false) rfl (by kernel_rfl) (fun _ _ _ h => h) (Or.inl ⟨by rfl, ?y62⟩) hS ?r62
                case y62 => intro wq _; go_simp; all_goals (first | (simp only [hk7, hw0, hw1, hz2]; done) | (simp [hk7, hw0, hw1, hz2]; done) | (simp; omega) | (trace_state; fail))
                try simp only [Act.put, List.setIfInBounds_toArray, List.set_cons_zero, List.set_cons_succ]
                refine wpAnyC_take (i := 20) (v := .bool false) rfl (by kernel_rfl) (fun _ _ _ h => h) (Or.inl ⟨by rfl, ?y63⟩) hS ?r63
                case y63 => intro wq _; go_simp; all_goals (first | (simp only [hk7, hw0, hw1, hz2]; done) | (simp [hk7, hw0, hw1, hz2]; done) | (simp; omega) | (trace_state; fail))
                try simp only [Act.put, List.setIfInBounds_toArray, List.set_cons_zero, List.set_cons_succ]
                refine wpAnyC_take (i := 21) (v := .bool false) rfl (by kernel_rfl) (fun _ _ _ h => h) (Or.inl ⟨by rfl, ?y64⟩) hS ?r64
                case y64 => intro wq _; go_simp; all_goals (first | (simp only [hk7, hw0, hw1, hz2]; done) | (simp [hk7, hw0, hw1, hz2]; done) | (simp; omega) | (trace_state; fail))
                try simp only [Act.put, List.setIfInBounds_toArray, List.set_cons_zero, List.set_cons_succ]
                refine wpAnyC_take (i := 22) (v := ?v65) rfl (by kernel_rfl) (fun _ _ _ h => h) (Or.inl ⟨by rfl, ?y65⟩) hS ?r65
                case y65 => intro wq _; go_simp; try with_reducible rfl
                try simp only [Act.put, List.setIfInBounds_toArray, List.set_cons_zero, List.set_cons_succ]
                refine wpAnyC_take (i := 23) (v := ?v66) rfl (by kernel_rfl) (fun _ _ _ h => h) (Or.inl ⟨by rfl, ?y66⟩) hS ?r66
                case y66 => rintro wq ⟨⟨c0, c1, c2⟩, ⟨e0, e1, e2⟩, pp, -⟩; go_simp; try with_reducible rfl
                try simp only [Act.put, List.setIfInBounds_toArray, List.set_cons_zero, List.set_cons_succ]
                refine wpAnyC_take (i := 24) (v := .bool false) rfl (by kernel_rfl) (fun _ _ _ h => h) (Or.inl ⟨by rfl, ?y67⟩) hS ?r67
                case y67 => intro wq _; go_simp; all_goals (first | (simp only [hk7, hw0, hw1, hz2]; done) | (simp [hk7, hw0, hw1, hz2]; done) | (simp; omega) | (trace_state; fail))
                try simp only [Act.put, List.setIfInBounds_toArray, List.set_cons_zero, List.set_cons_succ]
                refine wpAnyC_take (i := 25) (v := .bool false) rfl (by kernel_rfl) (fun _ _ _ h => h) (Or.inl ⟨by rfl, ?y68⟩) hS ?r68
                case y68 => intro wq _; go_simp; all_goals (first | (simp only [hk7, hw0, hw1, hz2]; done) | (simp [hk7, hw0, hw1, hz2]; done) | (simp; omega) | (trace_state; fail))
                try simp only [Act.put, List.setIfInBounds_toArray, List.set_cons_zero, List.set_cons_succ]
                refine wpAnyC_take (i := 26) (v := .bool false) rfl (by kernel_rfl) (fun _ _ _ h => h) (Or.inl ⟨by rfl, ?y69⟩) hS ?r69
                case y69 => intro wq _; go_simp; all_goals (first | (simp only [hk7, hw0, hw1, hz2]; done) | (simp [hk7, hw0, hw1, hz2]; done) | (simp; omega) | (trace_state; fail))
                try simp only [Act.put, List.setIfInBounds_toArray, List.set_cons_zero, List.set_cons_succ]
                refine wpAnyC_take (i := 27) (v := ?v70) rfl (by kernel_rfl) (fun _ _ _ h => h) (Or.inl ⟨by rfl, ?y70⟩) hS ?r70
                case y70 => intro wq _; go_simp; try with_reducible rfl
                try simp only [Act.put, List.setIfInBounds_toArray, List.set_cons_zero, List.set_cons_succ]
                refine wpAnyC_take (i := 28) (v := ?v71) rfl (by kernel_rfl) (fun _ _ _ h => h) (Or.inl ⟨by rfl, ?y71⟩) hS ?r71
                case y71 => rintro wq ⟨⟨c0, c1, c2⟩, ⟨e0, e1, e2⟩, pp, -⟩; go_simp; try with_reducible rfl
                try simp only [Act.put, List.setIfInBounds_toArray, List.set_cons_zero, List.set_cons_succ]
                refine wpAnyC_take (i := 29) (v := .bool false) rfl (by kernel_rfl) (fun _ _ _ h => h) (Or.inl ⟨by rfl, ?y72⟩) hS ?r72
                case y72 => intro wq _; go_simp; all_goals (first | (simp only [hk7, hw0, hw1, hz2]; done) | (simp [hk7, hw0, hw1, hz2]; done) | (simp; omega) | (trace_state; fail))
                try simp only [Act.put, List.setIfInBounds_toArray, List.set_cons_zero, List.set_cons_succ]
                refine wpAnyC_take (i := 30) (v := .bool false) rfl (by kernel_rfl) (fun _ _ _ h => h) (Or.inl ⟨by rfl, ?y73⟩) hS ?r73
                case y73 => intro wq _; go_simp; all_goals (first | (simp only [hk7, hw0, hw1, hz2]; done) | (simp [hk7, hw0, hw1, hz2]; done) | (simp; omega) | (trace_state; fail))
                try simp only [Act.put, List.setIfInBounds_toArray, List.set_cons_zero, List.set_cons_succ]
                refine wpAnyC_take (i := 31) (v := .bool false) rfl (by kernel_rfl) (fun _ _ _ h => h) (Or.inl ⟨by rfl, ?y74⟩) hS ?r74
                case y74 => intro wq _; go_simp; all_goals (first | (simp only [hk7, hw0, hw1, hz2]; done) | (simp [hk7, hw0, hw1, hz2]; done) | (simp; omega) | (trace_state; fail))
                try simp only [Act.put, List.setIfInBounds_toArray, List.set_cons_zero, List.set_cons_succ]
                refine wpAnyC_take (i := 32) (v := ?v75) rfl (by kernel_rfl) (fun _ _ _ h => h) (Or.inl ⟨by rfl, ?y75⟩) hS ?r75
                case y75 => intro wq _; go_simp; try with_reducible rfl
                try simp only [Act.put, List.setIfInBounds_toArray, List.set_cons_zero, List.set_cons_succ]
                refine wpAnyC_take (i := 33) (v := ?v76) rfl (by kernel_rfl) (fun _ _ _ h => h) (Or.inl ⟨by rfl, ?y76⟩) hS ?r76
                case y76 => rintro wq ⟨⟨c0, c1, c2⟩, ⟨e0, e1, e2⟩, pp, -⟩; go_simp; try with_reducible rfl
                try simp only [Act.put, List.setIfInBounds_toArray, List.set_cons_zero, List.set_cons_succ]
                refine wpAnyC_take (i := 34) (v := .bool false) rfl (by kernel_rfl) (fun _ _ _ h => h) (Or.inl ⟨by rfl, ?y77⟩) hS ?r77
                case y77 => intro wq _; go_simp; all_goals (first | (simp only [hk7, hw0, hw1, hz2]; done) | (simp [hk7, hw0, hw1, hz2]; done) | (simp; omega) | (trace_state; fail))
                try simp only [Act.put, List.setIfInBounds_toArray, List.set_cons_zero, List.set_cons_succ]
                refine wpAnyC_take (i := 35) (v := .bool false) rfl (by kernel_rfl) (fun _ _ _ h => h) (Or.inl ⟨by rfl, ?y78⟩) hS ?r78
                case y78 => intro wq _; go_simp; all_goals (first | (simp only [hk7, hw0, hw1, hz2]; done) | (simp [hk7, hw0, hw1, hz2]; done) | (simp; omega) | (trace_state; fail))
                try simp only [Act.put, List.setIfInBounds_toArray, List.set_cons_zero, List.set_cons_succ]
                refine wpAnyC_take (i := 36) (v := undef) rfl (by kernel_rfl) (fun _ _ _ h => h) (Or.inr ⟨by rfl, rfl⟩) hS ?r79
                try simp only [Act.put, List.setIfInBounds_toArray, List.set_cons_zero, List.set_cons_succ]
                refine wpAnyC_take (i := 37) (v := undef) rfl (by kernel_rfl) (fun _ _ _ h => h) (Or.inr ⟨by rfl, rfl⟩) hS ?r80
                try simp only [Act.put, List.setIfInBounds_toArray, List.set_cons_zero, List.set_cons_succ]
                refine wpAnyC_take (i := 38) (v := undef) rfl (by kernel_rfl) (fun _ _ _ h => h) (Or.inr ⟨by rfl, rfl⟩) hS ?r81
                try simp only [Act.put, List.setIfInBounds_toArray, List.set_cons_zero, List.set_cons_succ]
                refine wpAnyC_take (i := 39) (v := undef) rfl (by kernel_rfl) (fun _ _ _ h => h) (Or.inr ⟨by rfl, rfl⟩) hS ?r82
                try simp only [Act.put, List.setIfInBounds_toArray, List.set_cons_zero, List.set_cons_succ]
                refine wpAnyC_take (i := 40) (v := .bool false) rfl (by kernel_rfl) (fun _ _ _ h => h) (Or.inl ⟨by rfl, ?y83⟩) hS ?r83
                case y83 => intro wq _; go_simp; all_goals (first | (simp only [hk7, hw0, hw1, hz2]; done) | (simp [hk7, hw0, hw1, hz2]; done) | (simp; omega) | (trace_state; fail))
                try simp only [Act.put, List.setIfInBounds_toArray, List.set_cons_zero, List.set_cons_succ]
                refine wpAnyC_take (i := 41) (v := .bool false) rfl (by kernel_rfl) (fun _ _ _ h => h) (Or.inl ⟨by rfl, ?y84⟩) hS ?r84
                case y84 => intro wq _; go_simp; all_goals (first | (simp only [hk7, hw0, hw1, hz2]; done) | (simp [hk7, hw0, hw1, hz2]; done) | (simp; omega) | (trace_state; fail))
                try simp only [Act.put, List.setIfInBounds_toArray, List.set_cons_zero, List.set_cons_succ]
                refine wpAnyC_done (by kernel_rfl) ?_ _
                go_wp2_with fail
                go_roundw
                case rel => exact ⟨0 + 1, by omega, by go_num, Lib.hid (fun i hi => by
                  by_cases e : i = 0
                  · rw [e]; rw [HKk.out]; simp [HA.out, hwb, tz]
                  · exact HO.out i (by omega)), HW.out.1.trans (hS.2.2.2.mono HW.out.1.size), FB.here HW.out.2 hS.2.2.2⟩
                case measure => simp [intOf]; omega
              · have hz2 := full_text (s := g.text) (by omega)
                cases hT : textB g.text
                · have HT := Lib.hid hT
                  clear hT
                  refine wp_region_C (fun v => (v.cell? ⟨w.heap.size, 0, none⟩ = some (.bool wd) ∧ v.cell? ⟨w.heap.size, 1, none⟩ = some (.slice (some ⟨R, o, none⟩) gs.length c) ∧ v.cell? ⟨w.heap.size, 2, none⟩ = some (.int .i64 ot)) ∧ (v.cell? ⟨wr.heap.size, 0, none⟩ = some (.int .i64 g.code) ∧ v.cell? ⟨wr.heap.size, 1, none⟩ = some (.int .i64 g.width) ∧ v.cell? ⟨wr.heap.size, 2, none⟩ = some (.string g.text)) ∧ True ∧ Below W.heap.size W v) (by kernel_rfl) ?_
                  refine wpAnyC_take (i := 0) (v := ?v85) rfl (by kernel_rfl) (fun _ _ _ h => h) (Or.inl ⟨by rfl, ?y85⟩) hS ?r85
                  case y85 => rintro wq ⟨⟨c0, c1, c2⟩, ⟨e0, e1, e2⟩, pp, -⟩; go_simp; try with_reducible rfl
                  try simp only [Act.put, List.setIfInBounds_toArray, List.set_cons_zero, List.set_cons_succ]
                  refine wpAnyC_take (i := 1) (v := ?v86) rfl (by kernel_rfl) (fun _ _ _ h => h) (Or.inl ⟨by rfl, ?y86⟩) hS ?r86
                  case y86 => intro wq _; go_simp; try with_reducible rfl
                  try simp only [Act.put, List.setIfInBounds_toArray, List.set_cons_zero, List.set_cons_succ]
                  refine wpAnyC_take (i := 2) (v := ?v87) rfl (by kernel_rfl) (fun _ _ _ h => h) (Or.inl ⟨by rfl, ?y87⟩) hS ?r87
                  case y87 => rintro wq ⟨⟨c0, c1, c2⟩, ⟨e0, e1, e2⟩, pp, -⟩; go_simp; try with_reducible rfl
                  try simp only [Act.put, List.setIfInBounds_toArray, List.set_cons_zero, List.set_cons_succ]
                  refine wpAnyC_one (j := 3) (by kernel_rfl) rfl (fun K hK => ?_)
                  go_simp
                  go_at_call 64
                  refine (rcode_any wd (some ⟨R, o, none⟩) gs.length c ot g.code _).mono ?_
                  rw [HA.out]
                  rintro e v ⟨rfl, kk⟩
                  have hbv : Below W.heap.size W v := ((Below.refl W.heap.size W).drew).trans kk
                  have hS := HC.out v hbv
                  clear kk
                  go_wp2_with fail
                  refine hK.out _ _ ⟨hS, ?_⟩
                  clear hK K
                  try simp only [Act.put, List.setIfInBounds_toArray, List.set_cons_zero, List.set_cons_succ]
                  refine wpAnyC_take (i := 4) (v := .bool false) rfl (by kernel_rfl) (fun _ _ _ h => h) (Or.inl ⟨by rfl, ?y89⟩) hS ?r89
                  case y89 => intro wq _; go_simp; all_goals (first | (simp only [hk7, hw0, hw1, hz2]; done) | (simp [hk7, hw0, hw1, hz2]; done) | (simp; omega) | (trace_state; fail))
                  try simp only [Act.put, List.setIfInBounds_toArray, List.set_cons_zero, List.set_cons_succ]
                  refine wpAnyC_take (i := 5) (v := .bool false) rfl (by kernel_rfl) (fun _ _ _ h => h) (Or.inl ⟨by rfl, ?y90⟩) hS ?r90
                  case y90 => intro wq _; go_simp; all_goals (first | (simp only [hk7, hw0, hw1, hz2]; done) | (simp [hk7, hw0, hw1, hz2]; done) | (simp; omega) | (trace_state; fail))
                  try simp only [Act.put, List.setIfInBounds_toArray, List.set_cons_zero, List.set_cons_succ]
                  refine wpAnyC_take (i := 6) (v := ?v91) rfl (by kernel_rfl) (fun _ _ _ h => h) (Or.inl ⟨by rfl, ?y91⟩) hS ?r91
                  case y91 => intro wq _; go_simp; try with_reducible rfl
                  try simp only [Act.put, List.setIfInBounds_toArray, List.set_cons_zero, List.set_cons_succ]
                  refine wpAnyC_take (i := 7) (v := .bool false) rfl (by kernel_rfl) (fun _ _ _ h => h) (Or.inl ⟨by rfl, ?y92⟩) hS ?r92
                  case y92 => intro wq _; go_simp; all_goals (first | (simp only [hk7, hw0, hw1, hz2]; done) | (simp [hk7, hw0, hw1, hz2]; done) | (simp; omega) | (trace_state; fail))
                  try simp only [Act.put, List.setIfInBounds_toArray, List.set_cons_zero, List.set_cons_succ]
                  refine wpAnyC_take (i := 8) (v := .bool false) rfl (by kernel_rfl) (fun _ _ _ h => h) (Or.inl ⟨by rfl, ?y93⟩) hS ?r93
                  case y93 => intro wq _; go_simp; all_goals (first | (simp only [hk7, hw0, hw1, hz2]; done) | (simp [hk7, hw0, hw1, hz2]; done) | (simp; omega) | (trace_state; fail))
                  try simp only [Act.put, List.setIfInBounds_toArray, List.set_cons_zero, List.set_cons_succ]
                  refine wpAnyC_take (i := 9) (v := undef) rfl (by kernel_rfl) (fun _ _ _ h => h) (Or.inr ⟨by rfl, rfl⟩) hS ?r94
                  try simp only [Act.put, List.setIfInBounds_toArray, List.set_cons_zero, List.set_cons_succ]
                  refine wpAnyC_take (i := 10) (v := undef) rfl (by kernel_rfl) (fun _ _ _ h => h) (Or.inr ⟨by rfl, rfl⟩) hS ?r95
                  try simp only [Act.put, List.setIfInBounds_toArray, List.set_cons_zero, List.set_cons_succ]
                  refine wpAnyC_take (i := 11) (v := undef) rfl (by kernel_rfl) (fun _ _ _ h => h) (Or.inr ⟨by rfl, rfl⟩) hS ?r96
                  try simp only [Act.put, List.setIfInBounds_toArray, List.set_cons_zero, List.set_cons_succ]
                  refine wpAnyC_take (i := 12) (v := undef) rfl (by kernel_rfl) (fun _ _ _ h => h) (Or.inr ⟨by rfl, rfl⟩) hS ?r97
                  try simp only [Act.put, List.setIfInBounds_toArray, List.set_cons_zero, List.set_cons_succ]
                  refine wpAnyC_take (i := 13) (v := undef) rfl (by kernel_rfl) (fun _ _ _ h => h) (Or.inr ⟨by rfl, rfl⟩) hS ?r98
                  try simp only [Act.put, List.setIfInBounds_toArray, List.set_cons_zero, List.set_cons_succ]
                  refine wpAnyC_take (i := 14) (v := undef) rfl (by kernel_rfl) (fun _ _ _ h => h) (Or.inr ⟨by rfl, rfl⟩) hS ?r99
                  try simp only [Act.put, List.setIfInBounds_toArray, List.set_cons_zero, List.set_cons_succ]
                  refine wpAnyC_take (i := 15) (v := undef) rfl (by kernel_rfl) (fun _ _ _ h => h) (Or.inr ⟨by rfl, rfl⟩) hS ?r100
                  try simp only [Act.put, List.setIfInBounds_toArray, List.set_cons_zero, List.set_cons_succ]
                  refine wpAnyC_take (i := 16) (v := undef) rfl (by kernel_rfl) (fun _ _ _ h => h) (Or.inr ⟨by rfl, rfl⟩) hS ?r101
                  try simp only [Act.put, List.setIfInBounds_toArray, List.set_cons_zero, List.set_cons_succ]
                  refine wpAnyC_take (i := 17) (v := undef) rfl (by kernel_rfl) (fun _ _ _ h => h) (Or.inr ⟨by rfl, rfl⟩) hS ?r102
                  try simp only [Act.put, List.setIfInBounds_toArray, List.set_cons_zero, List.set_cons_succ]
                  refine wpAnyC_take (i := 18) (v := undef) rfl (by kernel_rfl) (fun _ _ _ h => h) (Or.inr ⟨by rfl, rfl⟩) hS ?r103
                  try simp only [Act.put, List.setIfInBounds_toArray, List.set_cons_zero, List.set_cons_succ]
                  refine wpAnyC_take (i := 19) (v := .bool false) rfl (by kernel_rfl) (fun _ _ _ h => h) (Or.inl ⟨by rfl, ?y104⟩) hS ?r104
                  case y104 => intro wq _; go_simp; all_goals (first | (simp only [hk7, hw0, hw1, hz2]; done) | (simp [hk7, hw0, hw1, hz2]; done) | (simp; omega) | (trace_state; fail))
                  try simp only [Act.put, List.setIfInBounds_toArray, List.set_cons_zero, List.set_cons_succ]
                  refine wpAnyC_take (i := 20) (v := .bool false) rfl (by kernel_rfl) (fun _ _ _ h => h) (Or.inl ⟨by rfl, ?y105⟩) hS ?r105
                  case y105 => intro wq _; go_simp; all_goals (first | (simp only [hk7, hw0, hw1, hz2]; done) | (simp [hk7, hw0, hw1, hz2]; done) | (simp; omega) | (trace_state; fail))
                  try simp only [Act.put, List.setIfInBounds_toArray, List.set_cons_zero, List.set_cons_succ]
                  refine wpAnyC_take (i := 21) (v := .bool false) rfl (by kernel_rfl) (fun _ _ _ h => h) (Or.inl ⟨by rfl, ?y106⟩) hS ?r106
                  case y106 => intro wq _; go_simp; all_goals (first | (simp only [hk7, hw0, hw1, hz2]; done) | (simp [hk7, hw0, hw1, hz2]; done) | (simp; omega) | (trace_state; fail))
                  try simp only [Act.put, List.setIfInBounds_toArray, List.set_cons_zero, List.set_cons_succ]
                  refine wpAnyC_take (i := 22) (v := ?v107) rfl (by kernel_rfl) (fun _ _ _ h => h) (Or.inl ⟨by rfl, ?y107⟩) hS ?r107
                  case y107 => intro wq _; go_simp; try with_reducible rfl
                  try simp only [Act.put, List.setIfInBounds_toArray, List.set_cons_zero, List.set_cons_succ]
                  refine wpAnyC_take (i := 23) (v := ?v108) rfl (by kernel_rfl) (fun _ _ _ h => h) (Or.inl ⟨by rfl, ?y108⟩) hS ?r108
                  case y108 => rintro wq ⟨⟨c0, c1, c2⟩, ⟨e0, e1, e2⟩, pp, -⟩; go_simp; try with_reducible rfl
                  try simp only [Act.put, List.setIfInBounds_toArray, List.set_cons_zero, List.set_cons_succ]
                  refine wpAnyC_take (i := 24) (v := .bool false) rfl (by kernel_rfl) (fun _ _ _ h => h) (Or.inl ⟨by rfl, ?y109⟩) hS ?r109
                  case y109 => intro wq _; go_simp; all_goals (first | (simp only [hk7, hw0, hw1, hz2]; done) | (simp [hk7, hw0, hw1, hz2]; done) | (simp; omega) | (trace_state; fail))
                  try simp only [Act.put, List.setIfInBounds_toArray, List.set_cons_zero, List.set_cons_succ]
                  refine wpAnyC_take (i := 25) (v := .bool false) rfl (by kernel_rfl) (fun _ _ _ h => h) (Or.inl ⟨by rfl, ?y110⟩) hS ?r110
                  case y110 => intro wq _; go_simp; all_goals (first | (simp only [hk7, hw0, hw1, hz2]; done) | (simp [hk7, hw0, hw1, hz2]; done) | (simp; omega) | (trace_state; fail))
                  try simp only [Act.put, List.setIfInBounds_toArray, List.set_cons_zero, List.set_cons_succ]
                  refine wpAnyC_take (i := 26) (v := .bool false) rfl (by kernel_rfl) (fun _ _ _ h => h) (Or.inl ⟨by rfl, ?y111⟩) hS ?r111
                  case y111 => intro wq _; go_simp; all_goals (first | (simp only [hk7, hw0, hw1, hz2]; done) | (simp [hk7, hw0, hw1, hz2]; done) | (simp; omega) | (trace_state; fail))
                  try simp only [Act.put, List.setIfInBounds_toArray, List.set_cons_zero, List.set_cons_succ]
                  refine wpAnyC_take (i := 27) (v := ?v112) rfl (by kernel_rfl) (fun _ _ _ h => h) (Or.inl ⟨by rfl, ?y112⟩) hS ?r112
                  case y112 => intro wq _; go_simp; try with_reducible rfl
                  try simp only [Act.put, List.setIfInBounds_toArray, List.set_cons_zero, List.set_cons_succ]
                  refine wpAnyC_take (i := 28) (v := ?v113) rfl (by kernel_rfl) (fun _ _ _ h => h) (Or.inl ⟨by rfl, ?y113⟩) hS ?r113
                  case y113 => rintro wq ⟨⟨c0, c1, c2⟩, ⟨e0, e1, e2⟩, pp, -⟩; go_simp; try with_reducible rfl
                  try simp only [Act.put, List.setIfInBounds_toArray, List.set_cons_zero, List.set_cons_succ]
                  refine wpAnyC_take (i := 29) (v := .bool false) rfl (by kernel_rfl) (fun _ _ _ h => h) (Or.inl ⟨by rfl, ?y114⟩) hS ?r114
                  case y114 => intro wq _; go_simp; all_goals (first | (simp only [hk7, hw0, hw1, hz2]; done) | (simp [hk7, hw0, hw1, hz2]; done) | (simp; omega) | (trace_state; fail))
                  try simp only [Act.put, List.setIfInBounds_toArray, List.set_cons_zero, List.set_cons_succ]
                  refine wpAnyC_take (i := 30) (v := .bool false) rfl (by kernel_rfl) (fun _ _ _ h => h) (Or.inl ⟨by rfl, ?y115⟩) hS ?r115
                  case y115 => intro wq _; go_simp; all_goals (first | (simp only [hk7, hw0, hw1, hz2]; done) | (simp [hk7, hw0, hw1, hz2]; done) | (simp; omega) | (trace_state; fail))
                  try simp only [Act.put, List.setIfInBounds_toArray, List.set_cons_zero, List.set_cons_succ]
                  refine wpAnyC_take (i := 31) (v := .bool false) rfl (by kernel_rfl) (fun _ _ _ h => h) (Or.inl ⟨by rfl, ?y116⟩) hS ?r116
                  case y116 => intro wq _; go_simp; all_goals (first | (simp only [hk7, hw0, hw1, hz2]; done) | (simp [hk7, hw0, hw1, hz2]; done) | (simp; omega) | (trace_state; fail))
                  try simp only [Act.put, List.setIfInBounds_toArray, List.set_cons_zero, List.set_cons_succ]
                  refine wpAnyC_take (i := 32) (v := ?v117) rfl (by kernel_rfl) (fun _ _ _ h => h) (Or.inl ⟨by rfl, ?y117⟩) hS ?r117
                  case y117 => intro wq _; go_simp; try with_reducible rfl
                  try simp only [Act.put, List.setIfInBounds_toArray, List.set_cons_zero, List.set_cons_succ]
                  refine wpAnyC_take (i := 33) (v := ?v118) rfl (by kernel_rfl) (fun _ _ _ h => h) (Or.inl ⟨by rfl, ?y118⟩) hS ?r118
                  case y118 => rintro wq ⟨⟨c0, c1, c2⟩, ⟨e0, e1, e2⟩, pp, -⟩; go_simp; try with_reducible rfl
                  try simp only [Act.put, List.setIfInBounds_toArray, List.set_cons_zero, List.set_cons_succ]
                  refine wpAnyC_take (i := 34) (v := .bool true) rfl (by kernel_rfl) (fun _ _ _ h => h) (Or.inl ⟨by rfl, ?y119⟩) hS ?r119
                  case y119 => intro wq _; go_simp; all_goals (first | (simp only [hk7, hw0, hw1, hz2]; done) | (simp [hk7, hw0, hw1, hz2]; done) | (simp; omega) | (trace_state; fail))
                  try simp only [Act.put, List.setIfInBounds_toArray, List.set_cons_zero, List.set_cons_succ]
                  refine wpAnyC_take (i := 35) (v := .bool true) rfl (by kernel_rfl) (fun _ _ _ h => h) (Or.inl ⟨by rfl, ?y120⟩) hS ?r120
                  case y120 => intro wq _; go_simp; all_goals (first | (simp only [hk7, hw0, hw1, hz2]; done) | (simp [hk7, hw0, hw1, hz2]; done) | (simp; omega) | (trace_state; fail))
                  try simp only [Act.put, List.setIfInBounds_toArray, List.set_cons_zero, List.set_cons_succ]
                  refine wpAnyC_take (i := 36) (v := ?v121) rfl (by kernel_rfl) (fun _ _ _ h => h) (Or.inl ⟨by rfl, ?y121⟩) hS ?r121
                  case y121 => intro wq _; go_simp; try with_reducible rfl
                  try simp only [Act.put, List.setIfInBounds_toArray, List.set_cons_zero, List.set_cons_succ]
                  refine wpAnyC_take (i := 37) (v := ?v122) rfl (by kernel_rfl) (fun _ _ _ h => h) (Or.inl ⟨by rfl, ?y122⟩) hS ?r122
                  case y122 => rintro wq ⟨⟨c0, c1, c2⟩, ⟨e0, e1, e2⟩, pp, -⟩; go_simp; try with_reducible rfl
                  try simp only [Act.put, List.setIfInBounds_toArray, List.set_cons_zero, List.set_cons_succ]
                  refine wpAnyC_one (j := 38) (by kernel_rfl) rfl (fun K hK => ?_)
                  go_simp
                  go_at_call 89
                  refine (rmeans_any g.text _ ht (by omega)).mono ?_
                  rw [HT.out]
                  rintro e v' ⟨rfl, rfl⟩
                  go_wp2_with fail
                  refine hK.out _ _ ⟨hS, ?_⟩
                  clear hK K
                  try simp only [Act.put, List.setIfInBounds_toArray, List.set_cons_zero, List.set_cons_succ]
                  refine wpAnyC_take (i := 39) (v := .bool true) rfl (by kernel_rfl) (fun _ _ _ h => h) (Or.inl ⟨by rfl, ?y124⟩) hS ?r124
                  case y124 => intro wq _; go_simp; all_goals (first | (simp only [hk7, hw0, hw1, hz2]; done) | (simp [hk7, hw0, hw1, hz2]; done) | (simp; omega) | (trace_state; fail))
                  try simp only [Act.put, List.setIfInBounds_toArray, List.set_cons_zero, List.set_cons_succ]
                  refine wpAnyC_take (i := 40) (v := .bool true) rfl (by kernel_rfl) (fun _ _ _ h => h) (Or.inl ⟨by rfl, ?y125⟩) hS ?r125
                  case y125 => intro wq _; go_simp; all_goals (first | (simp only [hk7, hw0, hw1, hz2]; done) | (simp [hk7, hw0, hw1, hz2]; done) | (simp; omega) | (trace_state; fail))
                  try simp only [Act.put, List.setIfInBounds_toArray, List.set_cons_zero, List.set_cons_succ]
                  refine wpAnyC_take (i := 41) (v := .bool true) rfl (by kernel_rfl) (fun _ _ _ h => h) (Or.inl ⟨by rfl, ?y126⟩) hS ?r126
                  case y126 => intro wq _; go_simp; all_goals (first | (simp only [hk7, hw0, hw1, hz2]; done) | (simp [hk7, hw0, hw1, hz2]; done) | (simp; omega) | (trace_state; fail))
                  try simp only [Act.put, List.setIfInBounds_toArray, List.set_cons_zero, List.set_cons_succ]
                  refine wpAnyC_done (by kernel_rfl) ?_ _
                  go_wp2_with fail
                  go_ret
                  exact ⟨ret_b (no_right _ hlt (by rw [HKk.out]; simp [HT.out, tz])), HW.out.1.trans (hS.2.2.2.mono HW.out.1.size)⟩
                · have HT := Lib.hid hT
                  clear hT
                  refine wp_region_C (fun v => (v.cell? ⟨w.heap.size, 0, none⟩ = some (.bool wd) ∧ v.cell? ⟨w.heap.size, 1, none⟩ = some (.slice (some ⟨R, o, none⟩) gs.length c) ∧ v.cell? ⟨w.heap.size, 2, none⟩ = some (.int .i64 ot)) ∧ (v.cell? ⟨wr.heap.size, 0, none⟩ = some (.int .i64 g.code) ∧ v.cell? ⟨wr.heap.size, 1, none⟩ = some (.int .i64 g.width) ∧ v.cell? ⟨wr.heap.size, 2, none⟩ = some (.string g.text)) ∧ True ∧ Below W.heap.size W v) (by kernel_rfl) ?_
                  refine wpAnyC_take (i := 0) (v := ?v127) rfl (by kernel_rfl) (fun _ _ _ h => h) (Or.inl ⟨by rfl, ?y127⟩) hS ?r127
                  case y127 => rintro wq ⟨⟨c0, c1, c2⟩, ⟨e0, e1, e2⟩, pp, -⟩; go_simp; try with_reducible rfl
                  try simp only [Act.put, List.setIfInBounds_toArray, List.set_cons_zero, List.set_cons_succ]
                  refine wpAnyC_take (i := 1) (v := ?v128) rfl (by kernel_rfl) (fun _ _ _ h => h) (Or.inl ⟨by rfl, ?y128⟩) hS ?r128
                  case y128 => intro wq _; go_simp; try with_reducible rfl
                  try simp only [Act.put, List.setIfInBounds_toArray, List.set_cons_zero, List.set_cons_succ]
                  refine wpAnyC_take (i := 2) (v := ?v129) rfl (by kernel_rfl) (fun _ _ _ h => h) (Or.inl ⟨by rfl, ?y129⟩) hS ?r129
                  case y129 => rintro wq ⟨⟨c0, c1, c2⟩, ⟨e0, e1, e2⟩, pp, -⟩; go_simp; try with_reducible rfl
                  try simp only [Act.put, List.setIfInBounds_toArray, List.set_cons_zero, List.set_cons_succ]
                  refine wpAnyC_one (j := 3) (by kernel_rfl) rfl (fun K hK => ?_)
                  go_simp
                  go_at_call 64
                  refine (rcode_any wd (some ⟨R, o, none⟩) gs.length c ot g.code _).mono ?_
                  rw [HA.out]
                  rintro e v ⟨rfl, kk⟩
                  have hbv : Below W.heap.size W v := ((Below.refl W.heap.size W).drew).trans kk
                  have hS := HC.out v hbv
                  clear kk
                  go_wp2_with fail
                  refine hK.out _ _ ⟨hS, ?_⟩
                  clear hK K
                  try simp only [Act.put, List.setIfInBounds_toArray, List.set_cons_zero, List.set_cons_succ]
                  refine wpAnyC_take (i := 4) (v := .bool false) rfl (by kernel_rfl) (fun _ _ _ h => h) (Or.inl ⟨by rfl, ?y131⟩) hS ?r131
                  case y131 => intro wq _; go_simp; all_goals (first | (simp only [hk7, hw0, hw1, hz2]; done) | (simp [hk7, hw0, hw1, hz2]; done) | (simp; omega) | (trace_state; fail))
                  try simp only [Act.put, List.setIfInBounds_toArray, List.set_cons_zero, List.set_cons_succ]
                  refine wpAnyC_take (i := 5) (v := .bool false) rfl (by kernel_rfl) (fun _ _ _ h => h) (Or.inl ⟨by rfl, ?y132⟩) hS ?r132
                  case y132 => intro wq _; go_simp; all_goals (first | (simp only [hk7, hw0, hw1, hz2]; done) | (simp [hk7, hw0, hw1, hz2]; done) | (simp; omega) | (trace_state; fail))
                  try simp only [Act.put, List.setIfInBounds_toArray, List.set_cons_zero, List.set_cons_succ]
                  refine wpAnyC_take (i := 6) (v := ?v133) rfl (by kernel_rfl) (fun _ _ _ h => h) (Or.inl ⟨by rfl, ?y133⟩) hS ?r133
                  case y133 => intro wq _; go_simp; try with_reducible rfl
                  try simp only [Act.put, List.setIfInBounds_toArray, List.set_cons_zero, List.set_cons_succ]
                  refine wpAnyC_take (i := 7) (v := .bool false) rfl (by kernel_rfl) (fun _ _ _ h => h) (Or.inl ⟨by rfl, ?y134⟩) hS ?r134
                  case y134 => intro wq _; go_simp; all_goals (first | (simp only [hk7, hw0, hw1, hz2]; done) | (simp [hk7, hw0, hw1, hz2]; done) | (simp; omega) | (trace_state; fail))
                  try simp only [Act.put, List.setIfInBounds_toArray, List.set_cons_zero, List.set_cons_succ]
                  refine wpAnyC_take (i := 8) (v := .bool false) rfl (by kernel_rfl) (fun _ _ _ h => h) (Or.inl ⟨by rfl, ?y135⟩) hS ?r135
                  case y135 => intro wq _; go_simp; all_goals (first | (simp only [hk7, hw0, hw1, hz2]; done) | (simp [hk7, hw0, hw1, hz2]; done) | (simp; omega) | (trace_state; fail))
                  try simp only [Act.put, List.setIfInBounds_toArray, List.set_cons_zero, List.set_cons_succ]
                  refine wpAnyC_take (i := 9) (v := undef) rfl (by kernel_rfl) (fun _ _ _ h => h) (Or.inr ⟨by rfl, rfl⟩) hS ?r136
                  try simp only [Act.put, List.setIfInBounds_toArray, List.set_cons_zero, List.set_cons_succ]
                  refine wpAnyC_take (i := 10) (v := undef) rfl (by kernel_rfl) (fun _ _ _ h => h) (Or.inr ⟨by rfl, rfl⟩) hS ?r137
                  try simp only [Act.put, List.setIfInBounds_toArray, List.set_cons_zero, List.set_cons_succ]
                  refine wpAnyC_take (i := 11) (v := undef) rfl (by kernel_rfl) (fun _ _ _ h => h) (Or.inr ⟨by rfl, rfl⟩) hS ?r138
                  try simp only [Act.put, List.setIfInBounds_toArray, List.set_cons_zero, List.set_cons_succ]
                  refine wpAnyC_take (i := 12) (v := undef) rfl (by kernel_rfl) (fun _ _ _ h => h) (Or.inr ⟨by rfl, rfl⟩) hS ?r139
                  try simp only [Act.put, List.setIfInBounds_toArray, List.set_cons_zero, List.set_cons_succ]
                  refine wpAnyC_take (i := 13) (v := undef) rfl (by kernel_rfl) (fun _ _ _ h => h) (Or.inr ⟨by rfl, rfl⟩) hS ?r140
                  try simp only [Act.put, List.setIfInBounds_toArray, List.set_cons_zero, List.set_cons_succ]
                  refine wpAnyC_take (i := 14) (v := undef) rfl (by kernel_rfl) (fun _ _ _ h => h) (Or.inr ⟨by rfl, rfl⟩) hS ?r141
                  try simp only [Act.put, List.setIfInBounds_toArray, List.set_cons_zero, List.set_cons_succ]
                  refine wpAnyC_take (i := 15) (v := undef) rfl (by kernel_rfl) (fun _ _ _ h => h) (Or.inr ⟨by rfl, rfl⟩) hS ?r142
                  try simp only [Act.put, List.setIfInBounds_toArray, List.set_cons_zero, List.set_cons_succ]
                  refine wpAnyC_take (i := 16) (v := undef) rfl (by kernel_rfl) (fun _ _ _ h => h) (Or.inr ⟨by rfl, rfl⟩) hS ?r143
                  try simp only [Act.put, List.setIfInBounds_toArray, List.set_cons_zero, List.set_cons_succ]
                  refine wpAnyC_take (i := 17) (v := undef) rfl (by kernel_rfl) (fun _ _ _ h => h) (Or.inr ⟨by rfl, rfl⟩) hS ?r144
                  try simp only [Act.put, List.setIfInBounds_toArray, List.set_cons_zero, List.set_cons_succ]
                  refine wpAnyC_take (i := 18) (v := undef) rfl (by kernel_rfl) (fun _ _ _ h => h) (Or.inr ⟨by rfl, rfl⟩) hS ?r145
                  try simp only [Act.put, List.setIfInBounds_toArray, List.set_cons_zero, List.set_cons_succ]
                  refine wpAnyC_take (i := 19) (v := .bool false) rfl (by kernel_rfl) (fun _ _ _ h => h) (Or.inl ⟨by rfl, ?y146⟩) hS ?r146
                  case y146 => intro wq _; go_simp; all_goals (first | (simp only [hk7, hw0, hw1, hz2]; done) | (simp [hk7, hw0, hw1, hz2]; done) | (simp; omega) | (trace_state; fail))
                  try simp only [Act.put, List.setIfInBounds_toArray, List.set_cons_zero, List.set_cons_succ]
                  refine wpAnyC_take (i := 20) (v := .bool false) rfl (by kernel_rfl) (fun _ _ _ h => h) (Or.inl ⟨by rfl, ?y147⟩) hS ?r147
                  case y147 => intro wq _; go_simp; all_goals (first | (simp only [hk7, hw0, hw1, hz2]; done) | (simp [hk7, hw0, hw1, hz2]; done) | (simp; omega) | (trace_state; fail))
                  try simp only [Act.put, List.setIfInBounds_toArray, List.set_cons_zero, List.set_cons_succ]
                  refine wpAnyC_take (i := 21) (v := .bool false) rfl (by kernel_rfl) (fun _ _ _ h => h) (Or.inl ⟨by rfl, ?y148⟩) hS ?r148
                  case y148 => intro wq _; go_simp; all_goals (first | (simp only [hk7, hw0, hw1, hz2]; done) | (simp [hk7, hw0, hw1, hz2]; done) | (simp; omega) | (trace_state; fail))
                  try simp only [Act.put, List.setIfInBounds_toArray, List.set_cons_zero, List.set_cons_succ]
                  refine wpAnyC_take (i := 22) (v := ?v149) rfl (by kernel_rfl) (fun _ _ _ h => h) (Or.inl ⟨by rfl, ?y149⟩) hS ?r149
                  case y149 => intro wq _; go_simp; try with_reducible rfl
                  try simp only [Act.put, List.setIfInBounds_toArray, List.set_cons_zero, List.set_cons_succ]
                  refine wpAnyC_take (i := 23) (v := ?v150) rfl (by kernel_rfl) (fun _ _ _ h => h) (Or.inl ⟨by rfl, ?y150⟩) hS ?r150
                  case y150 => rintro wq ⟨⟨c0, c1, c2⟩, ⟨e0, e1, e2⟩, pp, -⟩; go_simp; try with_reducible rfl
                  try simp only [Act.put, List.setIfInBounds_toArray, List.set_cons_zero, List.set_cons_succ]
                  refine wpAnyC_take (i := 24) (v := .bool false) rfl (by kernel_rfl) (fun _ _ _ h => h) (Or.inl ⟨by rfl, ?y151⟩) hS ?r151
                  case y151 => intro wq _; go_simp; all_goals (first | (simp only [hk7, hw0, hw1, hz2]; done) | (simp [hk7, hw0, hw1, hz2]; done) | (simp; omega) | (trace_state; fail))
                  try simp only [Act.put, List.setIfInBounds_toArray, List.set_cons_zero, List.set_cons_succ]
                  refine wpAnyC_take (i := 25) (v := .bool false) rfl (by kernel_rfl) (fun _ _ _ h => h) (Or.inl ⟨by rfl, ?y152⟩) hS ?r152
                  case y152 => intro wq _; go_simp; all_goals (first | (simp only [hk7, hw0, hw1, hz2]; done) | (simp [hk7, hw0, hw1, hz2]; done) | (simp; omega) | (trace_state; fail))
                  try simp only [Act.put, List.setIfInBounds_toArray, List.set_cons_zero, List.set_cons_succ]
                  refine wpAnyC_take (i := 26) (v := .bool false) rfl (by kernel_rfl) (fun _ _ _ h => h) (Or.inl ⟨by rfl, ?y153⟩) hS ?r153
                  case y153 => intro wq _; go_simp; all_goals (first | (simp only [hk7, hw0, hw1, hz2]; done) | (simp [hk7, hw0, hw1, hz2]; done) | (simp; omega) | (trace_state; fail))
                  try simp only [Act.put, List.setIfInBounds_toArray, List.set_cons_zero, List.set_cons_succ]
                  refine wpAnyC_take (i := 27) (v := ?v154) rfl (by kernel_rfl) (fun _ _ _ h => h) (Or.inl ⟨by rfl, ?y154⟩) hS ?r154
                  case y154 => intro wq _; go_simp; try with_reducible rfl
                  try simp only [Act.put, List.setIfInBounds_toArray, List.set_cons_zero, List.set_cons_succ]
                  refine wpAnyC_take (i := 28) (v := ?v155) rfl (by kernel_rfl) (fun _ _ _ h => h) (Or.inl ⟨by rfl, ?y155⟩) hS ?r155
                  case y155 => rintro wq ⟨⟨c0, c1, c2⟩, ⟨e0, e1, e2⟩, pp, -⟩; go_simp; try with_reducible rfl
                  try simp only [Act.put, List.setIfInBounds_toArray, List.set_cons_zero, List.set_cons_succ]
                  refine wpAnyC_take (i := 29) (v := .bool false) rfl (by kernel_rfl) (fun _ _ _ h => h) (Or.inl ⟨by rfl, ?y156⟩) hS ?r156
                  case y156 => intro wq _; go_simp; all_goals (first | (simp only [hk7, hw0, hw1, hz2]; done) | (simp [hk7, hw0, hw1, hz2]; done) | (simp; omega) | (trace_state; fail))
                  try simp only [Act.put, List.setIfInBounds_toArray, List.set_cons_zero, List.set_cons_succ]
                  refine wpAnyC_take (i := 30) (v := .bool false) rfl (by kernel_rfl) (fun _ _ _ h => h) (Or.inl ⟨by rfl, ?y157⟩) hS ?r157
                  case y157 => intro wq _; go_simp; all_goals (first | (simp only [hk7, hw0, hw1, hz2]; done) | (simp [hk7, hw0, hw1, hz2]; done) | (simp; omega) | (trace_state; fail))
                  try simp only [Act.put, List.setIfInBounds_toArray, List.set_cons_zero, List.set_cons_succ]
                  refine wpAnyC_take (i := 31) (v := .bool false) rfl (by kernel_rfl) (fun _ _ _ h => h) (Or.inl ⟨by rfl, ?y158⟩) hS ?r158
                  case y158 => intro wq _; go_simp; all_goals (first | (simp only [hk7, hw0, hw1, hz2]; done) | (simp [hk7, hw0, hw1, hz2]; done) | (simp; omega) | (trace_state; fail))
                  try simp only [Act.put, List.setIfInBounds_toArray, List.set_cons_zero, List.set_cons_succ]
                  refine wpAnyC_take (i := 32) (v := ?v159) rfl (by kernel_rfl) (fun _ _ _ h => h) (Or.inl ⟨by rfl, ?y159⟩) hS ?r159
                  case y159 => intro wq _; go_simp; try with_reducible rfl
                  try simp only [Act.put, List.setIfInBounds_toArray, List.set_cons_zero, List.set_cons_succ]
                  refine wpAnyC_take (i := 33) (v := ?v160) rfl (by kernel_rfl) (fun _ _ _ h => h) (Or.inl ⟨by rfl, ?y160⟩) hS ?r160
                  case y160 => rintro wq ⟨⟨c0, c1, c2⟩, ⟨e0, e1, e2⟩, pp, -⟩; go_simp; try with_reducible rfl
                  try simp only [Act.put, List.setIfInBounds_toArray, List.set_cons_zero, List.set_cons_succ]
                  refine wpAnyC_take (i := 34) (v := .bool true) rfl (by kernel_rfl) (fun _ _ _ h => h) (Or.inl ⟨by rfl, ?y161⟩) hS ?r161
                  case y161 => intro wq _; go_simp; all_goals (first | (simp only [hk7, hw0, hw1, hz2]; done) | (simp [hk7, hw0, hw1, hz2]; done) | (simp; omega) | (trace_state; fail))
                  try simp only [Act.put, List.setIfInBounds_toArray, List.set_cons_zero, List.set_cons_succ]
                  refine wpAnyC_take (i := 35) (v := .bool true) rfl (by kernel_rfl) (fun _ _ _ h => h) (Or.inl ⟨by rfl, ?y162⟩) hS ?r162
                  case y162 => intro wq _; go_simp; all_goals (first | (simp only [hk7, hw0, hw1, hz2]; done) | (simp [hk7, hw0, hw1, hz2]; done) | (simp; omega) | (trace_state; fail))
                  try simp only [Act.put, List.setIfInBounds_toArray, List.set_cons_zero, List.set_cons_succ]
                  refine wpAnyC_take (i := 36) (v := ?v163) rfl (by kernel_rfl) (fun _ _ _ h => h) (Or.inl ⟨by rfl, ?y163⟩) hS ?r163
                  case y163 => intro wq _; go_simp; try with_reducible rfl
                  try simp only [Act.put, List.setIfInBounds_toArray, List.set_cons_zero, List.set_cons_succ]
                  refine wpAnyC_take (i := 37) (v := ?v164) rfl (by kernel_rfl) (fun _ _ _ h => h) (Or.inl ⟨by rfl, ?y164⟩) hS ?r164
                  case y164 => rintro wq ⟨⟨c0, c1, c2⟩, ⟨e0, e1, e2⟩, pp, -⟩; go_simp; try with_reducible rfl
                  try simp only [Act.put, List.setIfInBounds_toArray, List.set_cons_zero, List.set_cons_succ]
                  refine wpAnyC_one (j := 38) (by kernel_rfl) rfl (fun K hK => ?_)
                  go_simp
                  go_at_call 89
                  refine (rmeans_any g.text _ ht (by omega)).mono ?_
                  rw [HT.out]
                  rintro e v' ⟨rfl, rfl⟩
                  go_wp2_with fail
                  refine hK.out _ _ ⟨hS, ?_⟩
                  clear hK K
                  try simp only [Act.put, List.setIfInBounds_toArray, List.set_cons_zero, List.set_cons_succ]
                  refine wpAnyC_take (i := 39) (v := .bool false) rfl (by kernel_rfl) (fun _ _ _ h => h) (Or.inl ⟨by rfl, ?y166⟩) hS ?r166
                  case y166 => intro wq _; go_simp; all_goals (first | (simp only [hk7, hw0, hw1, hz2]; done) | (simp [hk7, hw0, hw1, hz2]; done) | (simp; omega) | (trace_state; fail))
                  try simp only [Act.put, List.setIfInBounds_toArray, List.set_cons_zero, List.set_cons_succ]
                  refine wpAnyC_take (i := 40) (v := .bool false) rfl (by kernel_rfl) (fun _ _ _ h => h) (Or.inl ⟨by rfl, ?y167⟩) hS ?r167
                  case y167 => intro wq _; go_simp; all_goals (first | (simp only [hk7, hw0, hw1, hz2]; done) | (simp [hk7, hw0, hw1, hz2]; done) | (simp; omega) | (trace_state; fail))
                  try simp only [Act.put, List.setIfInBounds_toArray, List.set_cons_zero, List.set_cons_succ]
                  refine wpAnyC_take (i := 41) (v := .bool false) rfl (by kernel_rfl) (fun _ _ _ h => h) (Or.inl ⟨by rfl, ?y168⟩) hS ?r168
                  case y168 => intro wq _; go_simp; all_goals (first | (simp only [hk7, hw0, hw1, hz2]; done) | (simp [hk7, hw0, hw1, hz2]; done) | (simp; omega) | (trace_state; fail))
                  try simp only [Act.put, List.setIfInBounds_toArray, List.set_cons_zero, List.set_cons_succ]
                  refine wpAnyC_done (by kernel_rfl) ?_ _
                  go_wp2_with fail
                  go_roundw
                  case rel => exact ⟨0 + 1, by omega, by go_num, Lib.hid (fun i hi => by
                    by_cases e : i = 0
                    · rw [e]; rw [HKk.out]; simp [HA.out, hwb, HT.out]
                    · exact HO.out i (by omega)), HW.out.1.trans (hS.2.2.2.mono HW.out.1.size), FB.here HW.out.2 hS.2.2.2⟩
                  case measure => simp [intOf]; omega
            · have hw1 : decide (10000 < g.width) = true := decide_eq_true (by omega)
              have hwb : widthB g.width = false := by unfold widthB; exact decide_eq_false (fun h => w1 h.2)
              refine wp_region_C (fun v => (v.cell? ⟨w.heap.size, 0, none⟩ = some (.bool wd) ∧ v.cell? ⟨w.heap.size, 1, none⟩ = some (.slice (some ⟨R, o, none⟩) gs.length c) ∧ v.cell? ⟨w.heap.size, 2, none⟩ = some (.int .i64 ot)) ∧ (v.cell? ⟨wr.heap.size, 0, none⟩ = some (.int .i64 g.code) ∧ v.cell? ⟨wr.heap.size, 1, none⟩ = some (.int .i64 g.width) ∧ v.cell? ⟨wr.heap.size, 2, none⟩ = some (.string g.text)) ∧ True ∧ Below W.heap.size W v) (by kernel_rfl) ?_
              refine wpAnyC_take (i := 0) (v := ?v169) rfl (by kernel_rfl) (fun _ _ _ h => h) (Or.inl ⟨by rfl, ?y169⟩) hS ?r169
              case y169 => rintro wq ⟨⟨c0, c1, c2⟩, ⟨e0, e1, e2⟩, pp, -⟩; go_simp; try with_reducible rfl
              try simp only [Act.put, List.setIfInBounds_toArray, List.set_cons_zero, List.set_cons_succ]
              refine wpAnyC_take (i := 1) (v := ?v170) rfl (by kernel_rfl) (fun _ _ _ h => h) (Or.inl ⟨by rfl, ?y170⟩) hS ?r170
              case y170 => intro wq _; go_simp; try with_reducible rfl
              try simp only [Act.put, List.setIfInBounds_toArray, List.set_cons_zero, List.set_cons_succ]
              refine wpAnyC_take (i := 2) (v := ?v171) rfl (by kernel_rfl) (fun _ _ _ h => h) (Or.inl ⟨by rfl, ?y171⟩) hS ?r171
              case y171 => rintro wq ⟨⟨c0, c1, c2⟩, ⟨e0, e1, e2⟩, pp, -⟩; go_simp; try with_reducible rfl
              try simp only [Act.put, List.setIfInBounds_toArray, List.set_cons_zero, List.set_cons_succ]
              refine wpAnyC_one (j := 3) (by kernel_rfl) rfl (fun K hK => ?_)
              go_simp
              go_at_call 64
              refine (rcode_any wd (some ⟨R, o, none⟩) gs.length c ot g.code _).mono ?_
              rw [HA.out]
              rintro e v ⟨rfl, kk⟩
              have hbv : Below W.heap.size W v := ((Below.refl W.heap.size W).drew).trans kk
              have hS := HC.out v hbv
              clear kk
              go_wp2_with fail
              refine hK.out _ _ ⟨hS, ?_⟩
              clear hK K
              try simp only [Act.put, List.setIfInBounds_toArray, List.set_cons_zero, List.set_cons_succ]
              refine wpAnyC_take (i := 4) (v := .bool false) rfl (by kernel_rfl) (fun _ _ _ h => h) (Or.inl ⟨by rfl, ?y173⟩) hS ?r173
              case y173 => intro wq _; go_simp; all_goals (first | (simp only [hk7, hw0, hw1]; done) | (simp [hk7, hw0, hw1]; done) | (simp; omega) | (trace_state; fail))
              try simp only [Act.put, List.setIfInBounds_toArray, List.set_cons_zero, List.set_cons_succ]
              refine wpAnyC_take (i := 5) (v := .bool false) rfl (by kernel_rfl) (fun _ _ _ h => h) (Or.inl ⟨by rfl, ?y174⟩) hS ?r174
              case y174 => intro wq _; go_simp; all_goals (first | (simp only [hk7, hw0, hw1]; done) | (simp [hk7, hw0, hw1]; done) | (simp; omega) | (trace_state; fail))
              try simp only [Act.put, List.setIfInBounds_toArray, List.set_cons_zero, List.set_cons_succ]
              refine wpAnyC_take (i := 6) (v := ?v175) rfl (by kernel_rfl) (fun _ _ _ h => h) (Or.inl ⟨by rfl, ?y175⟩) hS ?r175
              case y175 => intro wq _; go_simp; try with_reducible rfl
              try simp only [Act.put, List.setIfInBounds_toArray, List.set_cons_zero, List.set_cons_succ]
              refine wpAnyC_take (i := 7) (v := .bool false) rfl (by kernel_rfl) (fun _ _ _ h => h) (Or.inl ⟨by rfl, ?y176⟩) hS ?r176
              case y176 => intro wq _; go_simp; all_goals (first | (simp only [hk7, hw0, hw1]; done) | (simp [hk7, hw0, hw1]; done) | (simp; omega) | (trace_state; fail))
              try simp only [Act.put, List.setIfInBounds_toArray, List.set_cons_zero, List.set_cons_succ]
              refine wpAnyC_take (i := 8) (v := .bool false) rfl (by kernel_rfl) (fun _ _ _ h => h) (Or.inl ⟨by rfl, ?y177⟩) hS ?r177
              case y177 => intro wq _; go_simp; all_goals (first | (simp only [hk7, hw0, hw1]; done) | (simp [hk7, hw0, hw1]; done) | (simp; omega) | (trace_state; fail))
              try simp only [Act.put, List.setIfInBounds_toArray, List.set_cons_zero, List.set_cons_succ]
              refine wpAnyC_take (i := 9) (v := undef) rfl (by kernel_rfl) (fun _ _ _ h => h) (Or.inr ⟨by rfl, rfl⟩) hS ?r178
              try simp only [Act.put, List.setIfInBounds_toArray, List.set_cons_zero, List.set_cons_succ]
              refine wpAnyC_take (i := 10) (v := undef) rfl (by kernel_rfl) (fun _ _ _ h => h) (Or.inr ⟨by rfl, rfl⟩) hS ?r179
              try simp only [Act.put, List.setIfInBounds_toArray, List.set_cons_zero, List.set_cons_succ]
              refine wpAnyC_take (i := 11) (v := undef) rfl (by kernel_rfl) (fun _ _ _ h => h) (Or.inr ⟨by rfl, rfl⟩) hS ?r180
              try simp only [Act.put, List.setIfInBounds_toArray, List.set_cons_zero, List.set_cons_succ]
              refine wpAnyC_take (i := 12) (v := undef) rfl (by kernel_rfl) (fun _ _ _ h => h) (Or.inr ⟨by rfl, rfl⟩) hS ?r181
              try simp only [Act.put, List.setIfInBounds_toArray, List.set_cons_zero, List.set_cons_succ]
              refine wpAnyC_take (i := 13) (v := undef) rfl (by kernel_rfl) (fun _ _ _ h => h) (Or.inr ⟨by rfl, rfl⟩) hS ?r182
              try simp only [Act.put, List.setIfInBounds_toArray, List.set_cons_zero, List.set_cons_succ]
              refine wpAnyC_take (i := 14) (v := undef) rfl (by kernel_rfl) (fun _ _ _ h => h) (Or.inr ⟨by rfl, rfl⟩) hS ?r183
              try simp only [Act.put, List.setIfInBounds_toArray, List.set_cons_zero, List.set_cons_succ]
              refine wpAnyC_take (i := 15) (v := undef) rfl (by kernel_rfl) (fun _ _ _ h => h) (Or.inr ⟨by rfl, rfl⟩) hS ?r184
              try simp only [Act.put, List.setIfInBounds_toArray, List.set_cons_zero, List.set_cons_succ]
              refine wpAnyC_take (i := 16) (v := undef) rfl (by kernel_rfl) (fun _ _ _ h => h) (Or.inr ⟨by rfl, rfl⟩) hS ?r185
              try simp only [Act.put, List.setIfInBounds_toArray, List.set_cons_zero, List.set_cons_succ]
              refine wpAnyC_take (i := 17) (v := undef) rfl (by kernel_rfl) (fun _ _ _ h => h) (Or.inr ⟨by rfl, rfl⟩) hS ?r186
              try simp only [Act.put, List.setIfInBounds_toArray, List.set_cons_zero, List.set_cons_succ]
              refine wpAnyC_take (i := 18) (v := undef) rfl (by kernel_rfl) (fun _ _ _ h => h) (Or.inr ⟨by rfl, rfl⟩) hS ?r187
              try simp only [Act.put, List.setIfInBounds_toArray, List.set_cons_zero, List.set_cons_succ]
              refine wpAnyC_take (i := 19) (v := .bool false) rfl (by kernel_rfl) (fun _ _ _ h => h) (Or.inl ⟨by rfl, ?y188⟩) hS ?r188
              case y188 => intro wq _; go_simp; all_goals (first | (simp only [hk7, hw0, hw1]; done) | (simp [hk7, hw0, hw1]; done) | (simp; omega) | (trace_state; fail))
              try simp only [Act.put, List.setIfInBounds_toArray, List.set_cons_zero, List.set_cons_succ]
              refine wpAnyC_take (i := 20) (v := .bool false) rfl (by kernel_rfl) (fun _ _ _ h => h) (Or.inl ⟨by rfl, ?y189⟩) hS ?r189
              case y189 => intro wq _; go_simp; all_goals (first | (simp only [hk7, hw0, hw1]; done) | (simp [hk7, hw0, hw1]; done) | (simp; omega) | (trace_state; fail))
              try simp only [Act.put, List.setIfInBounds_toArray, List.set_cons_zero, List.set_cons_succ]
              refine wpAnyC_take (i := 21) (v := .bool false) rfl (by kernel_rfl) (fun _ _ _ h => h) (Or.inl ⟨by rfl, ?y190⟩) hS ?r190
              case y190 => intro wq _; go_simp; all_goals (first | (simp only [hk7, hw0, hw1]; done) | (simp [hk7, hw0, hw1]; done) | (simp; omega) | (trace_state; fail))
              try simp only [Act.put, List.setIfInBounds_toArray, List.set_cons_zero, List.set_cons_succ]
              refine wpAnyC_take (i := 22) (v := ?v191) rfl (by kernel_rfl) (fun _ _ _ h => h) (Or.inl ⟨by rfl, ?y191⟩) hS ?r191
              case y191 => intro wq _; go_simp; try with_reducible rfl
              try simp only [Act.put, List.setIfInBounds_toArray, List.set_cons_zero, List.set_cons_succ]
              refine wpAnyC_take (i := 23) (v := ?v192) rfl (by kernel_rfl) (fun _ _ _ h => h) (Or.inl ⟨by rfl, ?y192⟩) hS ?r192
              case y192 => rintro wq ⟨⟨c0, c1, c2⟩, ⟨e0, e1, e2⟩, pp, -⟩; go_simp; try with_reducible rfl
              try simp only [Act.put, List.setIfInBounds_toArray, List.set_cons_zero, List.set_cons_succ]
              refine wpAnyC_take (i := 24) (v := .bool false) rfl (by kernel_rfl) (fun _ _ _ h => h) (Or.inl ⟨by rfl, ?y193⟩) hS ?r193
              case y193 => intro wq _; go_simp; all_goals (first | (simp only [hk7, hw0, hw1]; done) | (simp [hk7, hw0, hw1]; done) | (simp; omega) | (trace_state; fail))
              try simp only [Act.put, List.setIfInBounds_toArray, List.set_cons_zero, List.set_cons_succ]
              refine wpAnyC_take (i := 25) (v := .bool false) rfl (by kernel_rfl) (fun _ _ _ h => h) (Or.inl ⟨by rfl, ?y194⟩) hS ?r194
              case y194 => intro wq _; go_simp; all_goals (first | (simp only [hk7, hw0, hw1]; done) | (simp [hk7, hw0, hw1]; done) | (simp; omega) | (trace_state; fail))
              try simp only [Act.put, List.setIfInBounds_toArray, List.set_cons_zero, List.set_cons_succ]
              refine wpAnyC_take (i := 26) (v := .bool false) rfl (by kernel_rfl) (fun _ _ _ h => h) (Or.inl ⟨by rfl, ?y195⟩) hS ?r195
              case y195 => intro wq _; go_simp; all_goals (first | (simp only [hk7, hw0, hw1]; done) | (simp [hk7, hw0, hw1]; done) | (simp; omega) | (trace_state; fail))
              try simp only [Act.put, List.setIfInBounds_toArray, List.set_cons_zero, List.set_cons_succ]
              refine wpAnyC_take (i := 27) (v := ?v196) rfl (by kernel_rfl) (fun _ _ _ h => h) (Or.inl ⟨by rfl, ?y196⟩) hS ?r196
              case y196 => intro wq _; go_simp; try with_reducible rfl
              try simp only [Act.put, List.setIfInBounds_toArray, List.set_cons_zero, List.set_cons_succ]
              refine wpAnyC_take (i := 28) (v := ?v197) rfl (by kernel_rfl) (fun _ _ _ h => h) (Or.inl ⟨by rfl, ?y197⟩) hS ?r197
              case y197 => rintro wq ⟨⟨c0, c1, c2⟩, ⟨e0, e1, e2⟩, pp, -⟩; go_simp; try with_reducible rfl
              try simp only [Act.put, List.setIfInBounds_toArray, List.set_cons_zero, List.set_cons_succ]
              refine wpAnyC_take (i := 29) (v := .bool true) rfl (by kernel_rfl) (fun _ _ _ h => h) (Or.inl ⟨by rfl, ?y198⟩) hS ?r198
              case y198 => intro wq _; go_simp; all_goals (first | (simp only [hk7, hw0, hw1]; done) | (simp [hk7, hw0, hw1]; done) | (simp; omega) | (trace_state; fail))
              try simp only [Act.put, List.setIfInBounds_toArray, List.set_cons_zero, List.set_cons_succ]
              refine wpAnyC_take (i := 30) (v := .bool true) rfl (by kernel_rfl) (fun _ _ _ h => h) (Or.inl ⟨by rfl, ?y199⟩) hS ?r199
              case y199 => intro wq _; go_simp; all_goals (first | (simp only [hk7, hw0, hw1]; done) | (simp [hk7, hw0, hw1]; done) | (simp; omega) | (trace_state; fail))
              try simp only [Act.put, List.setIfInBounds_toArray, List.set_cons_zero, List.set_cons_succ]
              refine wpAnyC_take (i := 31) (v := .bool true) rfl (by kernel_rfl) (fun _ _ _ h => h) (Or.inl ⟨by rfl, ?y200⟩) hS ?r200
              case y200 => intro wq _; go_simp; all_goals (first | (simp only [hk7, hw0, hw1]; done) | (simp [hk7, hw0, hw1]; done) | (simp; omega) | (trace_state; fail))
              try simp only [Act.put, List.setIfInBounds_toArray, List.set_cons_zero, List.set_cons_succ]
              refine wpAnyC_take (i := 32) (v := undef) rfl (by kernel_rfl) (fun _ _ _ h => h) (Or.inr ⟨by rfl, rfl⟩) hS ?r201
              try simp only [Act.put, List.setIfInBounds_toArray, List.set_cons_zero, List.set_cons_succ]
              refine wpAnyC_take (i := 33) (v := undef) rfl (by kernel_rfl) (fun _ _ _ h => h) (Or.inr ⟨by rfl, rfl⟩) hS ?r202
              try simp only [Act.put, List.setIfInBounds_toArray, List.set_cons_zero, List.set_cons_succ]
              refine wpAnyC_take (i := 34) (v := undef) rfl (by kernel_rfl) (fun _ _ _ h => h) (Or.inr ⟨by rfl, rfl⟩) hS ?r203
              try simp only [Act.put, List.setIfInBounds_toArray, List.set_cons_zero, List.set_cons_succ]
              refine wpAnyC_take (i := 35) (v := undef) rfl (by kernel_rfl) (fun _ _ _ h => h) (Or.inr ⟨by rfl, rfl⟩) hS ?r204
              try simp only [Act.put, List.setIfInBounds_toArray, List.set_cons_zero, List.set_cons_succ]
              refine wpAnyC_take (i := 36) (v := undef) rfl (by kernel_rfl) (fun _ _ _ h => h) (Or.inr ⟨by rfl, rfl⟩) hS ?r205
              try simp only [Act.put, List.setIfInBounds_toArray, List.set_cons_zero, List.set_cons_succ]
              refine wpAnyC_take (i := 37) (v := undef) rfl (by kernel_rfl) (fun _ _ _ h => h) (Or.inr ⟨by rfl, rfl⟩) hS ?r206
              try simp only [Act.put, List.setIfInBounds_toArray, List.set_cons_zero, List.set_cons_succ]
              refine wpAnyC_take (i := 38) (v := undef) rfl (by kernel_rfl) (fun _ _ _ h => h) (Or.inr ⟨by rfl, rfl⟩) hS ?r207
              try simp only [Act.put, List.setIfInBounds_toArray, List.set_cons_zero, List.set_cons_succ]
              refine wpAnyC_take (i := 39) (v := undef) rfl (by kernel_rfl) (fun _ _ _ h => h) (Or.inr ⟨by rfl, rfl⟩) hS ?r208
              try simp only [Act.put, List.setIfInBounds_toArray, List.set_cons_zero, List.set_cons_succ]
              refine wpAnyC_take (i := 40) (v := undef) rfl (by kernel_rfl) (fun _ _ _ h => h) (Or.inr ⟨by rfl, rfl⟩) hS ?r209
              try simp only [Act.put, List.setIfInBounds_toArray, List.set_cons_zero, List.set_cons_succ]
              refine wpAnyC_take (i := 41) (v := .bool true) rfl (by kernel_rfl) (fun _ _ _ h => h) (Or.inl ⟨by rfl, ?y210⟩) hS ?r210
              case y210 => intro wq _; go_simp; all_goals (first | (simp only [hk7, hw0, hw1]; done) | (simp [hk7, hw0, hw1]; done) | (simp; omega) | (trace_state; fail))
              try simp only [Act.put, List.setIfInBounds_toArray, List.set_cons_zero, List.set_cons_succ]
              refine wpAnyC_done (by kernel_rfl) ?_ _
              go_wp2_with fail
              go_ret
              exact ⟨ret_b (no_right _ hlt (by rw [HKk.out]; simp [hwb])), HW.out.1.trans (hS.2.2.2.mono HW.out.1.size)⟩
          · have hw0 : decide (g.width < 0) = true := decide_eq_true (by omega)
            have hwb : widthB g.width = false := by unfold widthB; exact decide_eq_false (fun h => w0 h.1)
            refine wp_region_C (fun v => (v.cell? ⟨w.heap.size, 0, none⟩ = some (.bool wd) ∧ v.cell? ⟨w.heap.size, 1, none⟩ = some (.slice (some ⟨R, o, none⟩) gs.length c) ∧ v.cell? ⟨w.heap.size, 2, none⟩ = some (.int .i64 ot)) ∧ (v.cell? ⟨wr.heap.size, 0, none⟩ = some (.int .i64 g.code) ∧ v.cell? ⟨wr.heap.size, 1, none⟩ = some (.int .i64 g.width) ∧ v.cell? ⟨wr.heap.size, 2, none⟩ = some (.string g.text)) ∧ True ∧ Below W.heap.size W v) (by kernel_rfl) ?_
            refine wpAnyC_take (i := 0) (v := ?v211) rfl (by kernel_rfl) (fun _ _ _ h => h) (Or.inl ⟨by rfl, ?y211⟩) hS ?r211
            case y211 => rintro wq ⟨⟨c0, c1, c2⟩, ⟨e0, e1, e2⟩, pp, -⟩; go_simp; try with_reducible rfl
            try simp only [Act.put, List.setIfInBounds_toArray, List.set_cons_zero, List.set_cons_succ]
            refine wpAnyC_take (i := 1) (v := ?v212) rfl (by kernel_rfl) (fun _ _ _ h => h) (Or.inl ⟨by rfl, ?y212⟩) hS ?r212
            case y212 => intro wq _; go_simp; try with_reducible rfl
            try simp only [Act.put, List.setIfInBounds_toArray, List.set_cons_zero, List.set_cons_succ]
            refine wpAnyC_take (i := 2) (v := ?v213) rfl (by kernel_rfl) (fun _ _ _ h => h) (Or.inl ⟨by rfl, ?y213⟩) hS ?r213
            case y213 => rintro wq ⟨⟨c0, c1, c2⟩, ⟨e0, e1, e2⟩, pp, -⟩; go_simp; try with_reducible rfl
            try simp only [Act.put, List.setIfInBounds_toArray, List.set_cons_zero, List.set_cons_succ]
            refine wpAnyC_one (j := 3) (by kernel_rfl) rfl (fun K hK => ?_)
            go_simp
            go_at_call 64
            refine (rcode_any wd (some ⟨R, o, none⟩) gs.length c ot g.code _).mono ?_
            rw [HA.out]
            rintro e v ⟨rfl, kk⟩
            have hbv : Below W.heap.size W v := ((Below.refl W.heap.size W).drew).trans kk
            have hS := HC.out v hbv
            clear kk
            go_wp2_with fail
            refine hK.out _ _ ⟨hS, ?_⟩
            clear hK K
            try simp only [Act.put, List.setIfInBounds_toArray, List.set_cons_zero, List.set_cons_succ]
            refine wpAnyC_take (i := 4) (v := .bool false) rfl (by kernel_rfl) (fun _ _ _ h => h) (Or.inl ⟨by rfl, ?y215⟩) hS ?r215
            case y215 => intro wq _; go_simp; all_goals (first | (simp only [hk7, hw0]; done) | (simp [hk7, hw0]; done) | (simp; omega) | (trace_state; fail))
            try simp only [Act.put, List.setIfInBounds_toArray, List.set_cons_zero, List.set_cons_succ]
            refine wpAnyC_take (i := 5) (v := .bool false) rfl (by kernel_rfl) (fun _ _ _ h => h) (Or.inl ⟨by rfl, ?y216⟩) hS ?r216
            case y216 => intro wq _; go_simp; all_goals (first | (simp only [hk7, hw0]; done) | (simp [hk7, hw0]; done) | (simp; omega) | (trace_state; fail))
            try simp only [Act.put, List.setIfInBounds_toArray, List.set_cons_zero, List.set_cons_succ]
            refine wpAnyC_take (i := 6) (v := ?v217) rfl (by kernel_rfl) (fun _ _ _ h => h) (Or.inl ⟨by rfl, ?y217⟩) hS ?r217
            case y217 => intro wq _; go_simp; try with_reducible rfl
            try simp only [Act.put, List.setIfInBounds_toArray, List.set_cons_zero, List.set_cons_succ]
            refine wpAnyC_take (i := 7) (v := .bool false) rfl (by kernel_rfl) (fun _ _ _ h => h) (Or.inl ⟨by rfl, ?y218⟩) hS ?r218
            case y218 => intro wq _; go_simp; all_goals (first | (simp only [hk7, hw0]; done) | (simp [hk7, hw0]; done) | (simp; omega) | (trace_state; fail))
            try simp only [Act.put, List.setIfInBounds_toArray, List.set_cons_zero, List.set_cons_succ]
            refine wpAnyC_take (i := 8) (v := .bool false) rfl (by kernel_rfl) (fun _ _ _ h => h) (Or.inl ⟨by rfl, ?y219⟩) hS ?r219
            case y219 => intro wq _; go_simp; all_goals (first | (simp only [hk7, hw0]; done) | (simp [hk7, hw0]; done) | (simp; omega) | (trace_state; fail))
            try simp only [Act.put, List.setIfInBounds_toArray, List.set_cons_zero, List.set_cons_succ]
            refine wpAnyC_take (i := 9) (v := undef) rfl (by kernel_rfl) (fun _ _ _ h => h) (Or.inr ⟨by rfl, rfl⟩) hS ?r220
            try simp only [Act.put, List.setIfInBounds_toArray, List.set_cons_zero, List.set_cons_succ]
            refine wpAnyC_take (i := 10) (v := undef) rfl (by kernel_rfl) (fun _ _ _ h => h) (Or.inr ⟨by rfl, rfl⟩) hS ?r221
            try simp only [Act.put, List.setIfInBounds_toArray, List.set_cons_zero, List.set_cons_succ]
            refine wpAnyC_take (i := 11) (v := undef) rfl (by kernel_rfl) (fun _ _ _ h => h) (Or.inr ⟨by rfl, rfl⟩) hS ?r222
            try simp only [Act.put, List.setIfInBounds_toArray, List.set_cons_zero, List.set_cons_succ]
            refine wpAnyC_take (i := 12) (v := undef) rfl (by kernel_rfl) (fun _ _ _ h => h) (Or.inr ⟨by rfl, rfl⟩) hS ?r223
            try simp only [Act.put, List.setIfInBounds_toArray, List.set_cons_zero, List.set_cons_succ]
            refine wpAnyC_take (i := 13) (v := undef) rfl (by kernel_rfl) (fun _ _ _ h => h) (Or.inr ⟨by rfl, rfl⟩) hS ?r224
            try simp only [Act.put, List.setIfInBounds_toArray, List.set_cons_zero, List.set_cons_succ]
            refine wpAnyC_take (i := 14) (v := undef) rfl (by kernel_rfl) (fun _ _ _ h => h) (Or.inr ⟨by rfl, rfl⟩) hS ?r225
            try simp only [Act.put, List.setIfInBounds_toArray, List.set_cons_zero, List.set_cons_succ]
            refine wpAnyC_take (i := 15) (v := undef) rfl (by kernel_rfl) (fun _ _ _ h => h) (Or.inr ⟨by rfl, rfl⟩) hS ?r226
            try simp only [Act.put, List.setIfInBounds_toArray, List.set_cons_zero, List.set_cons_succ]
            refine wpAnyC_take (i := 16) (v := undef) rfl (by kernel_rfl) (fun _ _ _ h => h) (Or.inr ⟨by rfl, rfl⟩) hS ?r227
            try simp only [Act.put, List.setIfInBounds_toArray, List.set_cons_zero, List.set_cons_succ]
            refine wpAnyC_take (i := 17) (v := undef) rfl (by kernel_rfl) (fun _ _ _ h => h) (Or.inr ⟨by rfl, rfl⟩) hS ?r228
            try simp only [Act.put, List.setIfInBounds_toArray, List.set_cons_zero, List.set_cons_succ]
            refine wpAnyC_take (i := 18) (v := undef) rfl (by kernel_rfl) (fun _ _ _ h => h) (Or.inr ⟨by rfl, rfl⟩) hS ?r229
            try simp only [Act.put, List.setIfInBounds_toArray, List.set_cons_zero, List.set_cons_succ]
            refine wpAnyC_take (i := 19) (v := .bool false) rfl (by kernel_rfl) (fun _ _ _ h => h) (Or.inl ⟨by rfl, ?y230⟩) hS ?r230
            case y230 => intro wq _; go_simp; all_goals (first | (simp only [hk7, hw0]; done) | (simp [hk7, hw0]; done) | (simp; omega) | (trace_state; fail))
            try simp only [Act.put, List.setIfInBounds_toArray, List.set_cons_zero, List.set_cons_succ]
            refine wpAnyC_take (i := 20) (v := .bool false) rfl (by kernel_rfl) (fun _ _ _ h => h) (Or.inl ⟨by rfl, ?y231⟩) hS ?r231
            case y231 => intro wq _; go_simp; all_goals (first | (simp only [hk7, hw0]; done) | (simp [hk7, hw0]; done) | (simp; omega) | (trace_state; fail))
            try simp only [Act.put, List.setIfInBounds_toArray, List.set_cons_zero, List.set_cons_succ]
            refine wpAnyC_take (i := 21) (v := .bool false) rfl (by kernel_rfl) (fun _ _ _ h => h) (Or.inl ⟨by rfl, ?y232⟩) hS ?r232
            case y232 => intro wq _; go_simp; all_goals (first | (simp only [hk7, hw0]; done) | (simp [hk7, hw0]; done) | (simp; omega) | (trace_state; fail))
            try simp only [Act.put, List.setIfInBounds_toArray, List.set_cons_zero, List.set_cons_succ]
            refine wpAnyC_take (i := 22) (v := ?v233) rfl (by kernel_rfl) (fun _ _ _ h => h) (Or.inl ⟨by rfl, ?y233⟩) hS ?r233
            case y233 => intro wq _; go_simp; try with_reducible rfl
            try simp only [Act.put, List.setIfInBounds_toArray, List.set_cons_zero, List.set_cons_succ]
            refine wpAnyC_take (i := 23) (v := ?v234) rfl (by kernel_rfl) (fun _ _ _ h => h) (Or.inl ⟨by rfl, ?y234⟩) hS ?r234
            case y234 => rintro wq ⟨⟨c0, c1, c2⟩, ⟨e0, e1, e2⟩, pp, -⟩; go_simp; try with_reducible rfl
            try simp only [Act.put, List.setIfInBounds_toArray, List.set_cons_zero, List.set_cons_succ]
            refine wpAnyC_take (i := 24) (v := .bool true) rfl (by kernel_rfl) (fun _ _ _ h => h) (Or.inl ⟨by rfl, ?y235⟩) hS ?r235
            case y235 => intro wq _; go_simp; all_goals (first | (simp only [hk7, hw0]; done) | (simp [hk7, hw0]; done) | (simp; omega) | (trace_state; fail))
            try simp only [Act.put, List.setIfInBounds_toArray, List.set_cons_zero, List.set_cons_succ]
            refine wpAnyC_take (i := 25) (v := .bool true) rfl (by kernel_rfl) (fun _ _ _ h => h) (Or.inl ⟨by rfl, ?y236⟩) hS ?r236
            case y236 => intro wq _; go_simp; all_goals (first | (simp only [hk7, hw0]; done) | (simp [hk7, hw0]; done) | (simp; omega) | (trace_state; fail))
            try simp only [Act.put, List.setIfInBounds_toArray, List.set_cons_zero, List.set_cons_succ]
            refine wpAnyC_take (i := 26) (v := .bool true) rfl (by kernel_rfl) (fun _ _ _ h => h) (Or.inl ⟨by rfl, ?y237⟩) hS ?r237
            case y237 => intro wq _; go_simp; all_goals (first | (simp only [hk7, hw0]; done) | (simp [hk7, hw0]; done) | (simp; omega) | (trace_state; fail))
            try simp only [Act.put, List.setIfInBounds_toArray, List.set_cons_zero, List.set_cons_succ]
            refine wpAnyC_take (i := 27) (v := undef) rfl (by kernel_rfl) (fun _ _ _ h => h) (Or.inr ⟨by rfl, rfl⟩) hS ?r238
            try simp only [Act.put, List.setIfInBounds_toArray, List.set_cons_zero, List.set_cons_succ]
            refine wpAnyC_take (i := 28) (v := undef) rfl (by kernel_rfl) (fun _ _ _ h => h) (Or.inr ⟨by rfl, rfl⟩) hS ?r239
            try simp only [Act.put, List.setIfInBounds_toArray, List.set_cons_zero, List.set_cons_succ]
            refine wpAnyC_take (i := 29) (v := undef) rfl (by kernel_rfl) (fun _ _ _ h => h) (Or.inr ⟨by rfl, rfl⟩) hS ?r240
            try simp only [Act.put, List.setIfInBounds_toArray, List.set_cons_zero, List.set_cons_succ]
            refine wpAnyC_take (i := 30) (v := .bool true) rfl (by kernel_rfl) (fun _ _ _ h => h) (Or.inl ⟨by rfl, ?y241⟩) hS ?r241
            case y241 => intro wq _; go_simp; all_goals (first | (simp only [hk7, hw0]; done) | (simp [hk7, hw0]; done) | (simp; omega) | (trace_state; fail))
            try simp only [Act.put, List.setIfInBounds_toArray, List.set_cons_zero, List.set_cons_succ]
            refine wpAnyC_take (i := 31) (v := .bool true) rfl (by kernel_rfl) (fun _ _ _ h => h) (Or.inl ⟨by rfl, ?y242⟩) hS ?r242
            case y242 => intro wq _; go_simp; all_goals (first | (simp only [hk7, hw0]; done) | (simp [hk7, hw0]; done) | (simp; omega) | (trace_state; fail))
            try simp only [Act.put, List.setIfInBounds_toArray, List.set_cons_zero, List.set_cons_succ]
            refine wpAnyC_take (i := 32) (v := undef) rfl (by kernel_rfl) (fun _ _ _ h => h) (Or.inr ⟨by rfl, rfl⟩) hS ?r243
            try simp only [Act.put, List.setIfInBounds_toArray, List.set_cons_zero, List.set_cons_succ]
            refine wpAnyC_take (i := 33) (v := undef) rfl (by kernel_rfl) (fun _ _ _ h => h) (Or.inr ⟨by rfl, rfl⟩) hS ?r244
            try simp only [Act.put, List.setIfInBounds_toArray, List.set_cons_zero, List.set_cons_succ]
            refine wpAnyC_take (i := 34) (v := undef) rfl (by kernel_rfl) (fun _ _ _ h => h) (Or.inr ⟨by rfl, rfl⟩) hS ?r245
            try simp only [Act.put, List.setIfInBounds_toArray, List.set_cons_zero, List.set_cons_succ]
            refine wpAnyC_take (i := 35) (v := undef) rfl (by kernel_rfl) (fun _ _ _ h => h) (Or.inr ⟨by rfl, rfl⟩) hS ?r246
            try simp only [Act.put, List.setIfInBounds_toArray, List.set_cons_zero, List.set_cons_succ]
            refine wpAnyC_take (i := 36) (v := undef) rfl (by kernel_rfl) (fun _ _ _ h => h) (Or.inr ⟨by rfl, rfl⟩) hS ?r247
            try simp only [Act.put, List.setIfInBounds_toArray, List.set_cons_zero, List.set_cons_succ]
            refine wpAnyC_take (i := 37) (v := undef) rfl (by kernel_rfl) (fun _ _ _ h => h) (Or.inr ⟨by rfl, rfl⟩) hS ?r248
            try simp only [Act.put, List.setIfInBounds_toArray, List.set_cons_zero, List.set_cons_succ]
            refine wpAnyC_take (i := 38) (v := undef) rfl (by kernel_rfl) (fun _ _ _ h => h) (Or.inr ⟨by rfl, rfl⟩) hS ?r249
            try simp only [Act.put, List.setIfInBounds_toArray, List.set_cons_zero, List.set_cons_succ]
            refine wpAnyC_take (i := 39) (v := undef) rfl (by kernel_rfl) (fun _ _ _ h => h) (Or.inr ⟨by rfl, rfl⟩) hS ?r250
            try simp only [Act.put, List.setIfInBounds_toArray, List.set_cons_zero, List.set_cons_succ]
            refine wpAnyC_take (i := 40) (v := undef) rfl (by kernel_rfl) (fun _ _ _ h => h) (Or.inr ⟨by rfl, rfl⟩) hS ?r251
            try simp only [Act.put, List.setIfInBounds_toArray, List.set_cons_zero, List.set_cons_succ]
            refine wpAnyC_take (i := 41) (v := .bool true) rfl (by kernel_rfl) (fun _ _ _ h => h) (Or.inl ⟨by rfl, ?y252⟩) hS ?r252
            case y252 => intro wq _; go_simp; all_goals (first | (simp only [hk7, hw0]; done) | (simp [hk7, hw0]; done) | (simp; omega) | (trace_state; fail))
            try simp only [Act.put, List.setIfInBounds_toArray, List.set_cons_zero, List.set_cons_succ]
            refine wpAnyC_done (by kernel_rfl) ?_ _
            go_wp2_with fail
            go_ret
            exact ⟨ret_b (no_right _ hlt (by rw [HKk.out]; simp [hwb])), HW.out.1.trans (hS.2.2.2.mono HW.out.1.size)⟩
        · obtain ⟨j, rfl⟩ : ∃ j, k = j + 1 := ⟨k - 1, by omega⟩
          obtain ⟨p, hp⟩ : ∃ p, gs[j]? = some p := ⟨_, List.getElem?_eq_getElem (by omega)⟩
          have pc := HcW.out j p hp
          have HKk : Hid (okAt wd gs (j + 1) = (codeB wd g.code && (widthB g.width && ((g.text.size == 0 || textB g.text) && decide (p.code < g.code))))) := Lib.hid (by rw [HK.out, Nat.add_sub_cancel, hp, show (j + 1 == 0) = false from by simp]; rfl)
          have jI : IntKind.i64.wrap (j : Int) = (j : Int) := IntWalk.i64_in _ (by omega)
          have hk7 : decide ((0 : Int) < (j : Int) + 1) = true := decide_eq_true (by omega)
          have jn : j < gs.length := by omega
          clear hp
          have HC : Hid (∀ v, Below W.heap.size W v → (fun v => (v.cell? ⟨w.heap.size, 0, none⟩ = some (.bool wd) ∧ v.cell? ⟨w.heap.size, 1, none⟩ = some (.slice (some ⟨R, o, none⟩) gs.length c) ∧ v.cell? ⟨w.heap.size, 2, none⟩ = some (.int .i64 ot)) ∧ (v.cell? ⟨wr.heap.size, 0, none⟩ = some (.int .i64 g.code) ∧ v.cell? ⟨wr.heap.size, 1, none⟩ = some (.int .i64 g.width) ∧ v.cell? ⟨wr.heap.size, 2, none⟩ = some (.string g.text)) ∧ v.cell? ⟨R, o + j * 3, none⟩ = some (.int .i64 p.code) ∧ Below W.heap.size W v) v) := Lib.hid (fun v hb => ⟨⟨(hb.cell (p := ⟨w.heap.size, 0, none⟩) lF).trans f0, (hb.cell (p := ⟨w.heap.size, 1, none⟩) lF).trans f1, (hb.cell (p := ⟨w.heap.size, 2, none⟩) lF).trans f2⟩, ⟨(hb.cell (p := ⟨wr.heap.size, 0, none⟩) lG).trans e0, (hb.cell (p := ⟨wr.heap.size, 1, none⟩) lG).trans e1, (hb.cell (p := ⟨wr.heap.size, 2, none⟩) lG).trans e2⟩, (hb.cell (p := ⟨R, o + j * 3, none⟩) hRW).trans pc, hb⟩)
          have hS := HC.out W.drew ((Below.refl W.heap.size W).drew)
          clear f0 f1 f2 e0 e1 e2
          by_cases hlt2 : p.code < g.code
          · have ho8 : decide (g.code ≤ p.code) = false := decide_eq_false (by omega)
            have HOr := Lib.hid hlt2
            by_cases w0 : 0 ≤ g.width
            · have hw0 : decide (g.width < 0) = false := decide_eq_false (by omega)
              by_cases w1 : g.width ≤ 10000
              · have hw1 : decide (10000 < g.width) = false := decide_eq_false (by omega)
                have hwb : widthB g.width = true := by unfold widthB; exact decide_eq_true ⟨w0, w1⟩
                by_cases tz : g.text.size = 0
                · have hz2 := empty_text tz
                  refine wp_region_C (fun v => (v.cell? ⟨w.heap.size, 0, none⟩ = some (.bool wd) ∧ v.cell? ⟨w.heap.size, 1, none⟩ = some (.slice (some ⟨R, o, none⟩) gs.length c) ∧ v.cell? ⟨w.heap.size, 2, none⟩ = some (.int .i64 ot)) ∧ (v.cell? ⟨wr.heap.size, 0, none⟩ = some (.int .i64 g.code) ∧ v.cell? ⟨wr.heap.size, 1, none⟩ = some (.int .i64 g.width) ∧ v.cell? ⟨wr.heap.size, 2, none⟩ = some (.string g.text)) ∧ v.cell? ⟨R, o + j * 3, none⟩ = some (.int .i64 p.code) ∧ Below W.heap.size W v) (by kernel_rfl) ?_
                  refine wpAnyC_take (i := 0) (v := ?v253) rfl (by kernel_rfl) (fun _ _ _ h => h) (Or.inl ⟨by rfl, ?y253⟩) hS ?r253
                  case y253 => rintro wq ⟨⟨c0, c1, c2⟩, ⟨e0, e1, e2⟩, pp, -⟩; go_simp; try with_reducible rfl
                  try simp only [Act.put, List.setIfInBounds_toArray, List.set_cons_zero, List.set_cons_succ]
                  refine wpAnyC_take (i := 1) (v := ?v254) rfl (by kernel_rfl) (fun _ _ _ h => h) (Or.inl ⟨by rfl, ?y254⟩) hS ?r254
                  case y254 => intro wq _; go_simp; try with_reducible rfl
                  try simp only [Act.put, List.setIfInBounds_toArray, List.set_cons_zero, List.set_cons_succ]
                  refine wpAnyC_take (i := 2) (v := ?v255) rfl (by kernel_rfl) (fun _ _ _ h => h) (Or.inl ⟨by rfl, ?y255⟩) hS ?r255
                  case y255 => rintro wq ⟨⟨c0, c1, c2⟩, ⟨e0, e1, e2⟩, pp, -⟩; go_simp; try with_reducible rfl
                  try simp only [Act.put, List.setIfInBounds_toArray, List.set_cons_zero, List.set_cons_succ]
                  refine wpAnyC_one (j := 3) (by kernel_rfl) rfl (fun K hK => ?_)
                  go_simp
                  go_at_call 64
                  refine (rcode_any wd (some ⟨R, o, none⟩) gs.length c ot g.code _).mono ?_
                  rw [HA.out]
                  rintro e v ⟨rfl, kk⟩
                  have hbv : Below W.heap.size W v := ((Below.refl W.heap.size W).drew).trans kk
                  have hS := HC.out v hbv
                  clear kk
                  go_wp2_with fail
                  refine hK.out _ _ ⟨hS, ?_⟩
                  clear hK K
                  try simp only [Act.put, List.setIfInBounds_toArray, List.set_cons_zero, List.set_cons_succ]
                  refine wpAnyC_take (i := 4) (v := .bool false) rfl (by kernel_rfl) (fun _ _ _ h => h) (Or.inl ⟨by rfl, ?y257⟩) hS ?r257
                  case y257 => intro wq _; go_simp; all_goals (first | (simp only [hk7, jI, ho8, hw0, hw1, hz2]; done) | (simp [hk7, jI, ho8, hw0, hw1, hz2]; done) | (simp; omega) | (trace_state; fail))
                  try simp only [Act.put, List.setIfInBounds_toArray, List.set_cons_zero, List.set_cons_succ]
                  refine wpAnyC_take (i := 5) (v := .bool false) rfl (by kernel_rfl) (fun _ _ _ h => h) (Or.inl ⟨by rfl, ?y258⟩) hS ?r258
                  case y258 => intro wq _; go_simp; all_goals (first | (simp only [hk7, jI, ho8, hw0, hw1, hz2]; done) | (simp [hk7, jI, ho8, hw0, hw1, hz2]; done) | (simp; omega) | (trace_state; fail))
                  try simp only [Act.put, List.setIfInBounds_toArray, List.set_cons_zero, List.set_cons_succ]
                  refine wpAnyC_take (i := 6) (v := ?v259) rfl (by kernel_rfl) (fun _ _ _ h => h) (Or.inl ⟨by rfl, ?y259⟩) hS ?r259
                  case y259 => intro wq _; go_simp; try with_reducible rfl
                  try simp only [Act.put, List.setIfInBounds_toArray, List.set_cons_zero, List.set_cons_succ]
                  refine wpAnyC_take (i := 7) (v := .bool true) rfl (by kernel_rfl) (fun _ _ _ h => h) (Or.inl ⟨by rfl, ?y260⟩) hS ?r260
                  case y260 => intro wq _; go_simp; all_goals (first | (simp only [hk7, jI, ho8, hw0, hw1, hz2]; done) | (simp [hk7, jI, ho8, hw0, hw1, hz2]; done) | (simp; omega) | (trace_state; fail))
                  try simp only [Act.put, List.setIfInBounds_toArray, List.set_cons_zero, List.set_cons_succ]
                  refine wpAnyC_take (i := 8) (v := .bool true) rfl (by kernel_rfl) (fun _ _ _ h => h) (Or.inl ⟨by rfl, ?y261⟩) hS ?r261
                  case y261 => intro wq _; go_simp; all_goals (first | (simp only [hk7, jI, ho8, hw0, hw1, hz2]; done) | (simp [hk7, jI, ho8, hw0, hw1, hz2]; done) | (simp; omega) | (trace_state; fail))
                  try simp only [Act.put, List.setIfInBounds_toArray, List.set_cons_zero, List.set_cons_succ]
                  refine wpAnyC_take (i := 9) (v := ?v262) rfl (by kernel_rfl) (fun _ _ _ h => h) (Or.inl ⟨by rfl, ?y262⟩) hS ?r262
                  case y262 => intro wq _; go_simp; try with_reducible rfl
                  try simp only [Act.put, List.setIfInBounds_toArray, List.set_cons_zero, List.set_cons_succ]
                  refine wpAnyC_take (i := 10) (v := ?v263) rfl (by kernel_rfl) (fun _ _ _ h => h) (Or.inl ⟨by rfl, ?y263⟩) hS ?r263
                  case y263 => rintro wq ⟨⟨c0, c1, c2⟩, ⟨e0, e1, e2⟩, pp, -⟩; go_simp; try with_reducible rfl
                  try simp only [Act.put, List.setIfInBounds_toArray, List.set_cons_zero, List.set_cons_succ]
                  refine wpAnyC_take (i := 11) (v := ?v264) rfl (by kernel_rfl) (fun _ _ _ h => h) (Or.inl ⟨by rfl, ?y264⟩) hS ?r264
                  case y264 => intro wq _; go_simp; try with_reducible rfl
                  try simp only [Act.put, List.setIfInBounds_toArray, List.set_cons_zero, List.set_cons_succ]
                  refine wpAnyC_take (i := 12) (v := .int .i64 (j : Int)) rfl (by kernel_rfl) (fun _ _ _ h => h) (Or.inl ⟨by rfl, ?y265⟩) hS ?r265
                  case y265 => intro wq _; go_simp; all_goals (first | (simp only [hk7, jI, ho8, hw0, hw1, hz2]; done) | (simp [hk7, jI, ho8, hw0, hw1, hz2]; done) | (simp; omega) | (trace_state; fail))
                  try simp only [Act.put, List.setIfInBounds_toArray, List.set_cons_zero, List.set_cons_succ]
                  refine wpAnyC_take (i := 13) (v := .pointer (some ⟨R, o + j * 3, none⟩)) rfl (by kernel_rfl) (fun _ _ _ h => h) (Or.inl ⟨by rfl, ?y266⟩) hS ?r266
                  case y266 => intro wq _; go_simp; all_goals (first | (simp only [hk7, jI, ho8, hw0, hw1, hz2]; done) | (simp [hk7, jI, ho8, hw0, hw1, hz2]; done) | (simp; omega) | (trace_state; fail))
                  try simp only [Act.put, List.setIfInBounds_toArray, List.set_cons_zero, List.set_cons_succ]
                  refine wpAnyC_take (i := 14) (v := ?v267) rfl (by kernel_rfl) (fun _ _ _ h => h) (Or.inl ⟨by rfl, ?y267⟩) hS ?r267
                  case y267 => intro wq _; go_simp; try with_reducible rfl
                  try simp only [Act.put, List.setIfInBounds_toArray, List.set_cons_zero, List.set_cons_succ]
                  refine wpAnyC_take (i := 15) (v := ?v268) rfl (by kernel_rfl) (fun _ _ _ h => h) (Or.inl ⟨by rfl, ?y268⟩) hS ?r268
                  case y268 => rintro wq ⟨⟨c0, c1, c2⟩, ⟨e0, e1, e2⟩, pp, -⟩; go_simp; try with_reducible rfl
                  try simp only [Act.put, List.setIfInBounds_toArray, List.set_cons_zero, List.set_cons_succ]
                  refine wpAnyC_take (i := 16) (v := ?v269) rfl (by kernel_rfl) (fun _ _ _ h => h) (Or.inl ⟨by rfl, ?y269⟩) hS ?r269
                  case y269 => intro wq _; go_simp; try with_reducible rfl
                  try simp only [Act.put, List.setIfInBounds_toArray, List.set_cons_zero, List.set_cons_succ]
                  refine wpAnyC_take (i := 17) (v := ?v270) rfl (by kernel_rfl) (fun _ _ _ h => h) (Or.inl ⟨by rfl, ?y270⟩) hS ?r270
                  case y270 => rintro wq ⟨⟨c0, c1, c2⟩, ⟨e0, e1, e2⟩, pp, -⟩; go_simp; try with_reducible rfl
                  try simp only [Act.put, List.setIfInBounds_toArray, List.set_cons_zero, List.set_cons_succ]
                  refine wpAnyC_take (i := 18) (v := .bool false) rfl (by kernel_rfl) (fun _ _ _ h => h) (Or.inl ⟨by rfl, ?y271⟩) hS ?r271
                  case y271 => intro wq _; go_simp; all_goals (first | (simp only [hk7, jI, ho8, hw0, hw1, hz2]; done) | (simp [hk7, jI, ho8, hw0, hw1, hz2]; done) | (simp; omega) | (trace_state; fail))
                  try simp only [Act.put, List.setIfInBounds_toArray, List.set_cons_zero, List.set_cons_succ]
                  refine wpAnyC_take (i := 19) (v := .bool false) rfl (by kernel_rfl) (fun _ _ _ h => h) (Or.inl ⟨by rfl, ?y272⟩) hS ?r272
                  case y272 => intro wq _; go_simp; all_goals (first | (simp only [hk7, jI, ho8, hw0, hw1, hz2]; done) | (simp [hk7, jI, ho8, hw0, hw1, hz2]; done) | (simp; omega) | (trace_state; fail))
                  try simp only [Act.put, List.setIfInBounds_toArray, List.set_cons_zero, List.set_cons_succ]
                  refine wpAnyC_take (i := 20) (v := .bool false) rfl (by kernel_rfl) (fun _ _ _ h => h) (Or.inl ⟨by rfl, ?y273⟩) hS ?r273
                  case y273 => intro wq _; go_simp; all_goals (first | (simp only [hk7, jI, ho8, hw0, hw1, hz2]; done) | (simp [hk7, jI, ho8, hw0, hw1, hz2]; done) | (simp; omega) | (trace_state; fail))
                  try simp only [Act.put, List.setIfInBounds_toArray, List.set_cons_zero, List.set_cons_succ]
                  refine wpAnyC_take (i := 21) (v := .bool false) rfl (by kernel_rfl) (fun _ _ _ h => h) (Or.inl ⟨by rfl, ?y274⟩) hS ?r274
                  case y274 => intro wq _; go_simp; all_goals (first | (simp only [hk7, jI, ho8, hw0, hw1, hz2]; done) | (simp [hk7, jI, ho8, hw0, hw1, hz2]; done) | (simp; omega) | (trace_state; fail))
                  try simp only [Act.put, List.setIfInBounds_toArray, List.set_cons_zero, List.set_cons_succ]
                  refine wpAnyC_take (i := 22) (v := ?v275) rfl (by kernel_rfl) (fun _ _ _ h => h) (Or.inl ⟨by rfl, ?y275⟩) hS ?r275
                  case y275 => intro wq _; go_simp; try with_reducible rfl
                  try simp only [Act.put, List.setIfInBounds_toArray, List.set_cons_zero, List.set_cons_succ]
                  refine wpAnyC_take (i := 23) (v := ?v276) rfl (by kernel_rfl) (fun _ _ _ h => h) (Or.inl ⟨by rfl, ?y276⟩) hS ?r276
                  case y276 => rintro wq ⟨⟨c0, c1, c2⟩, ⟨e0, e1, e2⟩, pp, -⟩; go_simp; try with_reducible rfl
                  try simp only [Act.put, List.setIfInBounds_toArray, List.set_cons_zero, List.set_cons_succ]
                  refine wpAnyC_take (i := 24) (v := .bool false) rfl (by kernel_rfl) (fun _ _ _ h => h) (Or.inl ⟨by rfl, ?y277⟩) hS ?r277
                  case y277 => intro wq _; go_simp; all_goals (first | (simp only [hk7, jI, ho8, hw0, hw1, hz2]; done) | (simp [hk7, jI, ho8, hw0, hw1, hz2]; done) | (simp; omega) | (trace_state; fail))
                  try simp only [Act.put, List.setIfInBounds_toArray, List.set_cons_zero, List.set_cons_succ]
                  refine wpAnyC_take (i := 25) (v := .bool false) rfl (by kernel_rfl) (fun _ _ _ h => h) (Or.inl ⟨by rfl, ?y278⟩) hS ?r278
                  case y278 => intro wq _; go_simp; all_goals (first | (simp only [hk7, jI, ho8, hw0, hw1, hz2]; done) | (simp [hk7, jI, ho8, hw0, hw1, hz2]; done) | (simp; omega) | (trace_state; fail))
                  try simp only [Act.put, List.setIfInBounds_toArray, List.set_cons_zero, List.set_cons_succ]
                  refine wpAnyC_take (i := 26) (v := .bool false) rfl (by kernel_rfl) (fun _ _ _ h => h) (Or.inl ⟨by rfl, ?y279⟩) hS ?r279
                  case y279 => intro wq _; go_simp; all_goals (first | (simp only [hk7, jI, ho8, hw0, hw1, hz2]; done) | (simp [hk7, jI, ho8, hw0, hw1, hz2]; done) | (simp; omega) | (trace_state; fail))
                  try simp only [Act.put, List.setIfInBounds_toArray, List.set_cons_zero, List.set_cons_succ]
                  refine wpAnyC_take (i := 27) (v := ?v280) rfl (by kernel_rfl) (fun _ _ _ h => h) (Or.inl ⟨by rfl, ?y280⟩) hS ?r280
                  case y280 => intro wq _; go_simp; try with_reducible rfl
                  try simp only [Act.put, List.setIfInBounds_toArray, List.set_cons_zero, List.set_cons_succ]
                  refine wpAnyC_take (i := 28) (v := ?v281) rfl (by kernel_rfl) (fun _ _ _ h => h) (Or.inl ⟨by rfl, ?y281⟩) hS ?r281
                  case y281 => rintro wq ⟨⟨c0, c1, c2⟩, ⟨e0, e1, e2⟩, pp, -⟩; go_simp; try with_reducible rfl
                  try simp only [Act.put, List.setIfInBounds_toArray, List.set_cons_zero, List.set_cons_succ]
                  refine wpAnyC_take (i := 29) (v := .bool false) rfl (by kernel_rfl) (fun _ _ _ h => h) (Or.inl ⟨by rfl, ?y282⟩) hS ?r282
                  case y282 => intro wq _; go_simp; all_goals (first | (simp only [hk7, jI, ho8, hw0, hw1, hz2]; done) | (simp [hk7, jI, ho8, hw0, hw1, hz2]; done) | (simp; omega) | (trace_state; fail))
                  try simp only [Act.put, List.setIfInBounds_toArray, List.set_cons_zero, List.set_cons_succ]
                  refine wpAnyC_take (i := 30) (v := .bool false) rfl (by kernel_rfl) (fun _ _ _ h => h) (Or.inl ⟨by rfl, ?y283⟩) hS ?r283
                  case y283 => intro wq _; go_simp; all_goals (first | (simp only [hk7, jI, ho8, hw0, hw1, hz2]; done) | (simp [hk7, jI, ho8, hw0, hw1, hz2]; done) | (simp; omega) | (trace_state; fail))
                  try simp only [Act.put, List.setIfInBounds_toArray, List.set_cons_zero, List.set_cons_succ]
                  refine wpAnyC_take (i := 31) (v := .bool false) rfl (by kernel_rfl) (fun _ _ _ h => h) (Or.inl ⟨by rfl, ?y284⟩) hS ?r284
                  case y284 => intro wq _; go_simp; all_goals (first | (simp only [hk7, jI, ho8, hw0, hw1, hz2]; done) | (simp [hk7, jI, ho8, hw0, hw1, hz2]; done) | (simp; omega) | (trace_state; fail))
                  try simp only [Act.put, List.setIfInBounds_toArray, List.set_cons_zero, List.set_cons_succ]
                  refine wpAnyC_take (i := 32) (v := ?v285) rfl (by kernel_rfl) (fun _ _ _ h => h) (Or.inl ⟨by rfl, ?y285⟩) hS ?r285
                  case y285 => intro wq _; go_simp; try with_reducible rfl
                  try simp only [Act.put, List.setIfInBounds_toArray, List.set_cons_zero, List.set_cons_succ]
                  refine wpAnyC_take (i := 33) (v := ?v286) rfl (by kernel_rfl) (fun _ _ _ h => h) (Or.inl ⟨by rfl, ?y286⟩) hS ?r286
                  case y286 => rintro wq ⟨⟨c0, c1, c2⟩, ⟨e0, e1, e2⟩, pp, -⟩; go_simp; try with_reducible rfl
                  try simp only [Act.put, List.setIfInBounds_toArray, List.set_cons_zero, List.set_cons_succ]
                  refine wpAnyC_take (i := 34) (v := .bool false) rfl (by kernel_rfl) (fun _ _ _ h => h) (Or.inl ⟨by rfl, ?y287⟩) hS ?r287
                  case y287 => intro wq _; go_simp; all_goals (first | (simp only [hk7, jI, ho8, hw0, hw1, hz2]; done) | (simp [hk7, jI, ho8, hw0, hw1, hz2]; done) | (simp; omega) | (trace_state; fail))
                  try simp only [Act.put, List.setIfInBounds_toArray, List.set_cons_zero, List.set_cons_succ]
                  refine wpAnyC_take (i := 35) (v := .bool false) rfl (by kernel_rfl) (fun _ _ _ h => h) (Or.inl ⟨by rfl, ?y288⟩) hS ?r288
                  case y288 => intro wq _; go_simp; all_goals (first | (simp only [hk7, jI, ho8, hw0, hw1, hz2]; done) | (simp [hk7, jI, ho8, hw0, hw1, hz2]; done) | (simp; omega) | (trace_state; fail))
                  try simp only [Act.put, List.setIfInBounds_toArray, List.set_cons_zero, List.set_cons_succ]
                  refine wpAnyC_take (i := 36) (v := undef) rfl (by kernel_rfl) (fun _ _ _ h => h) (Or.inr ⟨by rfl, rfl⟩) hS ?r289
                  try simp only [Act.put, List.setIfInBounds_toArray, List.set_cons_zero, List.set_cons_succ]
                  refine wpAnyC_take (i := 37) (v := undef) rfl (by kernel_rfl) (fun _ _ _ h => h) (Or.inr ⟨by rfl, rfl⟩) hS ?r290
                  try simp only [Act.put, List.setIfInBounds_toArray, List.set_cons_zero, List.set_cons_succ]
                  refine wpAnyC_take (i := 38) (v := undef) rfl (by kernel_rfl) (fun _ _ _ h => h) (Or.inr ⟨by rfl, rfl⟩) hS ?r291
                  try simp only [Act.put, List.setIfInBounds_toArray, List.set_cons_zero, List.set_cons_succ]
                  refine wpAnyC_take (i := 39) (v := undef) rfl (by kernel_rfl) (fun _ _ _ h => h) (Or.inr ⟨by rfl, rfl⟩) hS ?r292
                  try simp only [Act.put, List.setIfInBounds_toArray, List.set_cons_zero, List.set_cons_succ]
                  refine wpAnyC_take (i := 40) (v := .bool false) rfl (by kernel_rfl) (fun _ _ _ h => h) (Or.inl ⟨by rfl, ?y293⟩) hS ?r293
                  case y293 => intro wq _; go_simp; all_goals (first | (simp only [hk7, jI, ho8, hw0, hw1, hz2]; done) | (simp [hk7, jI, ho8, hw0, hw1, hz2]; done) | (simp; omega) | (trace_state; fail))
                  try simp only [Act.put, List.setIfInBounds_toArray, List.set_cons_zero, List.set_cons_succ]
                  refine wpAnyC_take (i := 41) (v := .bool false) rfl (by kernel_rfl) (fun _ _ _ h => h) (Or.inl ⟨by rfl, ?y294⟩) hS ?r294
                  case y294 => intro wq _; go_simp; all_goals (first | (simp only [hk7, jI, ho8, hw0, hw1, hz2]; done) | (simp [hk7, jI, ho8, hw0, hw1, hz2]; done) | (simp; omega) | (trace_state; fail))
                  try simp only [Act.put, List.setIfInBounds_toArray, List.set_cons_zero, List.set_cons_succ]
                  refine wpAnyC_done (by kernel_rfl) ?_ _
                  go_wp2_with fail
                  go_roundw
                  case rel => exact ⟨(j + 1) + 1, by omega, by go_num, Lib.hid (fun i hi => by
                    by_cases e : i = (j + 1)
                    · rw [e]; rw [HKk.out]; simp [HA.out, hwb, tz, HOr.out]
                    · exact HO.out i (by omega)), HW.out.1.trans (hS.2.2.2.mono HW.out.1.size), FB.here HW.out.2 hS.2.2.2⟩
                  case measure => simp [intOf]; omega
                · have hz2 := full_text (s := g.text) (by omega)
                  cases hT : textB g.text
                  · have HT := Lib.hid hT
                    clear hT
                    refine wp_region_C (fun v => (v.cell? ⟨w.heap.size, 0, none⟩ = some (.bool wd) ∧ v.cell? ⟨w.heap.size, 1, none⟩ = some (.slice (some ⟨R, o, none⟩) gs.length c) ∧ v.cell? ⟨w.heap.size, 2, none⟩ = some (.int .i64 ot)) ∧ (v.cell? ⟨wr.heap.size, 0, none⟩ = some (.int .i64 g.code) ∧ v.cell? ⟨wr.heap.size, 1, none⟩ = some (.int .i64 g.width) ∧ v.cell? ⟨wr.heap.size, 2, none⟩ = some (.string g.text)) ∧ v.cell? ⟨R, o + j * 3, none⟩ = some (.int .i64 p.code) ∧ Below W.heap.size W v) (by kernel_rfl) ?_
                    refine wpAnyC_take (i := 0) (v := ?v295) rfl (by kernel_rfl) (fun _ _ _ h => h) (Or.inl ⟨by rfl, ?y295⟩) hS ?r295
                    case y295 => rintro wq ⟨⟨c0, c1, c2⟩, ⟨e0, e1, e2⟩, pp, -⟩; go_simp; try with_reducible rfl
                    try simp only [Act.put, List.setIfInBounds_toArray, List.set_cons_zero, List.set_cons_succ]
                    refine wpAnyC_take (i := 1) (v := ?v296) rfl (by kernel_rfl) (fun _ _ _ h => h) (Or.inl ⟨by rfl, ?y296⟩) hS ?r296
                    case y296 => intro wq _; go_simp; try with_reducible rfl
                    try simp only [Act.put, List.setIfInBounds_toArray, List.set_cons_zero, List.set_cons_succ]
                    refine wpAnyC_take (i := 2) (v := ?v297) rfl (by kernel_rfl) (fun _ _ _ h => h) (Or.inl ⟨by rfl, ?y297⟩) hS ?r297
                    case y297 => rintro wq ⟨⟨c0, c1, c2⟩, ⟨e0, e1, e2⟩, pp, -⟩; go_simp; try with_reducible rfl
                    try simp only [Act.put, List.setIfInBounds_toArray, List.set_cons_zero, List.set_cons_succ]
                    refine wpAnyC_one (j := 3) (by kernel_rfl) rfl (fun K hK => ?_)
                    go_simp
                    go_at_call 64
                    refine (rcode_any wd (some ⟨R, o, none⟩) gs.length c ot g.code _).mono ?_
                    rw [HA.out]
                    rintro e v ⟨rfl, kk⟩
                    have hbv : Below W.heap.size W v := ((Below.refl W.heap.size W).drew).trans kk
                    have hS := HC.out v hbv
                    clear kk
                    go_wp2_with fail
                    refine hK.out _ _ ⟨hS, ?_⟩
                    clear hK K
                    try simp only [Act.put, List.setIfInBounds_toArray, List.set_cons_zero, List.set_cons_succ]
                    refine wpAnyC_take (i := 4) (v := .bool false) rfl (by kernel_rfl) (fun _ _ _ h => h) (Or.inl ⟨by rfl, ?y299⟩) hS ?r299
                    case y299 => intro wq _; go_simp; all_goals (first | (simp only [hk7, jI, ho8, hw0, hw1, hz2]; done) | (simp [hk7, jI, ho8, hw0, hw1, hz2]; done) | (simp; omega) | (trace_state; fail))
                    try simp only [Act.put, List.setIfInBounds_toArray, List.set_cons_zero, List.set_cons_succ]
                    refine wpAnyC_take (i := 5) (v := .bool false) rfl (by kernel_rfl) (fun _ _ _ h => h) (Or.inl ⟨by rfl, ?y300⟩) hS ?r300
                    case y300 => intro wq _; go_simp; all_goals (first | (simp only [hk7, jI, ho8, hw0, hw1, hz2]; done) | (simp [hk7, jI, ho8, hw0, hw1, hz2]; done) | (simp; omega) | (trace_state; fail))
                    try simp only [Act.put, List.setIfInBounds_toArray, List.set_cons_zero, List.set_cons_succ]
                    refine wpAnyC_take (i := 6) (v := ?v301) rfl (by kernel_rfl) (fun _ _ _ h => h) (Or.inl ⟨by rfl, ?y301⟩) hS ?r301
                    case y301 => intro wq _; go_simp; try with_reducible rfl
                    try simp only [Act.put, List.setIfInBounds_toArray, List.set_cons_zero, List.set_cons_succ]
                    refine wpAnyC_take (i := 7) (v := .bool true) rfl (by kernel_rfl) (fun _ _ _ h => h) (Or.inl ⟨by rfl, ?y302⟩) hS ?r302
                    case y302 => intro wq _; go_simp; all_goals (first | (simp only [hk7, jI, ho8, hw0, hw1, hz2]; done) | (simp [hk7, jI, ho8, hw0, hw1, hz2]; done) | (simp; omega) | (trace_state; fail))
                    try simp only [Act.put, List.setIfInBounds_toArray, List.set_cons_zero, List.set_cons_succ]
                    refine wpAnyC_take (i := 8) (v := .bool true) rfl (by kernel_rfl) (fun _ _ _ h => h) (Or.inl ⟨by rfl, ?y303⟩) hS ?r303
                    case y303 => intro wq _; go_simp; all_goals (first | (simp only [hk7, jI, ho8, hw0, hw1, hz2]; done) | (simp [hk7, jI, ho8, hw0, hw1, hz2]; done) | (simp; omega) | (trace_state; fail))
                    try simp only [Act.put, List.setIfInBounds_toArray, List.set_cons_zero, List.set_cons_succ]
                    refine wpAnyC_take (i := 9) (v := ?v304) rfl (by kernel_rfl) (fun _ _ _ h => h) (Or.inl ⟨by rfl, ?y304⟩) hS ?r304
                    case y304 => intro wq _; go_simp; try with_reducible rfl
                    try simp only [Act.put, List.setIfInBounds_toArray, List.set_cons_zero, List.set_cons_succ]
                    refine wpAnyC_take (i := 10) (v := ?v305) rfl (by kernel_rfl) (fun _ _ _ h => h) (Or.inl ⟨by rfl, ?y305⟩) hS ?r305
                    case y305 => rintro wq ⟨⟨c0, c1, c2⟩, ⟨e0, e1, e2⟩, pp, -⟩; go_simp; try with_reducible rfl
                    try simp only [Act.put, List.setIfInBounds_toArray, List.set_cons_zero, List.set_cons_succ]
                    refine wpAnyC_take (i := 11) (v := ?v306) rfl (by kernel_rfl) (fun _ _ _ h => h) (Or.inl ⟨by rfl, ?y306⟩) hS ?r306
                    case y306 => intro wq _; go_simp; try with_reducible rfl
                    try simp only [Act.put, List.setIfInBounds_toArray, List.set_cons_zero, List.set_cons_succ]
                    refine wpAnyC_take (i := 12) (v := .int .i64 (j : Int)) rfl (by kernel_rfl) (fun _ _ _ h => h) (Or.inl ⟨by rfl, ?y307⟩) hS ?r307
                    case y307 => intro wq _; go_simp; all_goals (first | (simp only [hk7, jI, ho8, hw0, hw1, hz2]; done) | (simp [hk7, jI, ho8, hw0, hw1, hz2]; done) | (simp; omega) | (trace_state; fail))
                    try simp only [Act.put, List.setIfInBounds_toArray, List.set_cons_zero, List.set_cons_succ]
                    refine wpAnyC_take (i := 13) (v := .pointer (some ⟨R, o + j * 3, none⟩)) rfl (by kernel_rfl) (fun _ _ _ h => h) (Or.inl ⟨by rfl, ?y308⟩) hS ?r308
                    case y308 => intro wq _; go_simp; all_goals (first | (simp only [hk7, jI, ho8, hw0, hw1, hz2]; done) | (simp [hk7, jI, ho8, hw0, hw1, hz2]; done) | (simp; omega) | (trace_state; fail))
                    try simp only [Act.put, List.setIfInBounds_toArray, List.set_cons_zero, List.set_cons_succ]
                    refine wpAnyC_take (i := 14) (v := ?v309) rfl (by kernel_rfl) (fun _ _ _ h => h) (Or.inl ⟨by rfl, ?y309⟩) hS ?r309
                    case y309 => intro wq _; go_simp; try with_reducible rfl
                    try simp only [Act.put, List.setIfInBounds_toArray, List.set_cons_zero, List.set_cons_succ]
                    refine wpAnyC_take (i := 15) (v := ?v310) rfl (by kernel_rfl) (fun _ _ _ h => h) (Or.inl ⟨by rfl, ?y310⟩) hS ?r310
                    case y310 => rintro wq ⟨⟨c0, c1, c2⟩, ⟨e0, e1, e2⟩, pp, -⟩; go_simp; try with_reducible rfl
                    try simp only [Act.put, List.setIfInBounds_toArray, List.set_cons_zero, List.set_cons_succ]
                    refine wpAnyC_take (i := 16) (v := ?v311) rfl (by kernel_rfl) (fun _ _ _ h => h) (Or.inl ⟨by rfl, ?y311⟩) hS ?r311
                    case y311 => intro wq _; go_simp; try with_reducible rfl
                    try simp only [Act.put, List.setIfInBounds_toArray, List.set_cons_zero, List.set_cons_succ]
                    refine wpAnyC_take (i := 17) (v := ?v312) rfl (by kernel_rfl) (fun _ _ _ h => h) (Or.inl ⟨by rfl, ?y312⟩) hS ?r312
                    case y312 => rintro wq ⟨⟨c0, c1, c2⟩, ⟨e0, e1, e2⟩, pp, -⟩; go_simp; try with_reducible rfl
                    try simp only [Act.put, List.setIfInBounds_toArray, List.set_cons_zero, List.set_cons_succ]
                    refine wpAnyC_take (i := 18) (v := .bool false) rfl (by kernel_rfl) (fun _ _ _ h => h) (Or.inl ⟨by rfl, ?y313⟩) hS ?r313
                    case y313 => intro wq _; go_simp; all_goals (first | (simp only [hk7, jI, ho8, hw0, hw1, hz2]; done) | (simp [hk7, jI, ho8, hw0, hw1, hz2]; done) | (simp; omega) | (trace_state; fail))
                    try simp only [Act.put, List.setIfInBounds_toArray, List.set_cons_zero, List.set_cons_succ]
                    refine wpAnyC_take (i := 19) (v := .bool false) rfl (by kernel_rfl) (fun _ _ _ h => h) (Or.inl ⟨by rfl, ?y314⟩) hS ?r314
                    case y314 => intro wq _; go_simp; all_goals (first | (simp only [hk7, jI, ho8, hw0, hw1, hz2]; done) | (simp [hk7, jI, ho8, hw0, hw1, hz2]; done) | (simp; omega) | (trace_state; fail))
                    try simp only [Act.put, List.setIfInBounds_toArray, List.set_cons_zero, List.set_cons_succ]
                    refine wpAnyC_take (i := 20) (v := .bool false) rfl (by kernel_rfl) (fun _ _ _ h => h) (Or.inl ⟨by rfl, ?y315⟩) hS ?r315
                    case y315 => intro wq _; go_simp; all_goals (first | (simp only [hk7, jI, ho8, hw0, hw1, hz2]; done) | (simp [hk7, jI, ho8, hw0, hw1, hz2]; done) | (simp; omega) | (trace_state; fail))
                    try simp only [Act.put, List.setIfInBounds_toArray, List.set_cons_zero, List.set_cons_succ]
                    refine wpAnyC_take (i := 21) (v := .bool false) rfl (by kernel_rfl) (fun _ _ _ h => h) (Or.inl ⟨by rfl, ?y316⟩) hS ?r316
                    case y316 => intro wq _; go_simp; all_goals (first | (simp only [hk7, jI, ho8, hw0, hw1, hz2]; done) | (simp [hk7, jI, ho8, hw0, hw1, hz2]; done) | (simp; omega) | (trace_state; fail))
                    try simp only [Act.put, List.setIfInBounds_toArray, List.set_cons_zero, List.set_cons_succ]
                    refine wpAnyC_take (i := 22) (v := ?v317) rfl (by kernel_rfl) (fun _ _ _ h => h) (Or.inl ⟨by rfl, ?y317⟩) hS ?r317
                    case y317 => intro wq _; go_simp; try with_reducible rfl
                    try simp only [Act.put, List.setIfInBounds_toArray, List.set_cons_zero, List.set_cons_succ]
                    refine wpAnyC_take (i := 23) (v := ?v318) rfl (by kernel_rfl) (fun _ _ _ h => h) (Or.inl ⟨by rfl, ?y318⟩) hS ?r318
                    case y318 => rintro wq ⟨⟨c0, c1, c2⟩, ⟨e0, e1, e2⟩, pp, -⟩; go_simp; try with_reducible rfl
                    try simp only [Act.put, List.setIfInBounds_toArray, List.set_cons_zero, List.set_cons_succ]
                    refine wpAnyC_take (i := 24) (v := .bool false) rfl (by kernel_rfl) (fun _ _ _ h => h) (Or.inl ⟨by rfl, ?y319⟩) hS ?r319
                    case y319 => intro wq _; go_simp; all_goals (first | (simp only [hk7, jI, ho8, hw0, hw1, hz2]; done) | (simp [hk7, jI, ho8, hw0, hw1, hz2]; done) | (simp; omega) | (trace_state; fail))
                    try simp only [Act.put, List.setIfInBounds_toArray, List.set_cons_zero, List.set_cons_succ]
                    refine wpAnyC_take (i := 25) (v := .bool false) rfl (by kernel_rfl) (fun _ _ _ h => h) (Or.inl ⟨by rfl, ?y320⟩) hS ?r320
                    case y320 => intro wq _; go_simp; all_goals (first | (simp only [hk7, jI, ho8, hw0, hw1, hz2]; done) | (simp [hk7, jI, ho8, hw0, hw1, hz2]; done) | (simp; omega) | (trace_state; fail))
                    try simp only [Act.put, List.setIfInBounds_toArray, List.set_cons_zero, List.set_cons_succ]
                    refine wpAnyC_take (i := 26) (v := .bool false) rfl (by kernel_rfl) (fun _ _ _ h => h) (Or.inl ⟨by rfl, ?y321⟩) hS ?r321
                    case y321 => intro wq _; go_simp; all_goals (first | (simp only [hk7, jI, ho8, hw0, hw1, hz2]; done) | (simp [hk7, jI, ho8, hw0, hw1, hz2]; done) | (simp; omega) | (trace_state; fail))
                    try simp only [Act.put, List.setIfInBounds_toArray, List.set_cons_zero, List.set_cons_succ]
                    refine wpAnyC_take (i := 27) (v := ?v322) rfl (by kernel_rfl) (fun _ _ _ h => h) (Or.inl ⟨by rfl, ?y322⟩) hS ?r322
                    case y322 => intro wq _; go_simp; try with_reducible rfl
                    try simp only [Act.put, List.setIfInBounds_toArray, List.set_cons_zero, List.set_cons_succ]
                    refine wpAnyC_take (i := 28) (v := ?v323) rfl (by kernel_rfl) (fun _ _ _ h => h) (Or.inl ⟨by rfl, ?y323⟩) hS ?r323
                    case y323 => rintro wq ⟨⟨c0, c1, c2⟩, ⟨e0, e1, e2⟩, pp, -⟩; go_simp; try with_reducible rfl
                    try simp only [Act.put, List.setIfInBounds_toArray, List.set_cons_zero, List.set_cons_succ]
                    refine wpAnyC_take (i := 29) (v := .bool false) rfl (by kernel_rfl) (fun _ _ _ h => h) (Or.inl ⟨by rfl, ?y324⟩) hS ?r324
                    case y324 => intro wq _; go_simp; all_goals (first | (simp only [hk7, jI, ho8, hw0, hw1, hz2]; done) | (simp [hk7, jI, ho8, hw0, hw1, hz2]; done) | (simp; omega) | (trace_state; fail))
                    try simp only [Act.put, List.setIfInBounds_toArray, List.set_cons_zero, List.set_cons_succ]
                    refine wpAnyC_take (i := 30) (v := .bool false) rfl (by kernel_rfl) (fun _ _ _ h => h) (Or.inl ⟨by rfl, ?y325⟩) hS ?r325
                    case y325 => intro wq _; go_simp; all_goals (first | (simp only [hk7, jI, ho8, hw0, hw1, hz2]; done) | (simp [hk7, jI, ho8, hw0, hw1, hz2]; done) | (simp; omega) | (trace_state; fail))
                    try simp only [Act.put, List.setIfInBounds_toArray, List.set_cons_zero, List.set_cons_succ]
                    refine wpAnyC_take (i := 31) (v := .bool false) rfl (by kernel_rfl) (fun _ _ _ h => h) (Or.inl ⟨by rfl, ?y326⟩) hS ?r326
                    case y326 => intro wq _; go_simp; all_goals (first | (simp only [hk7, jI, ho8, hw0, hw1, hz2]; done) | (simp [hk7, jI, ho8, hw0, hw1, hz2]; done) | (simp; omega) | (trace_state; fail))
                    try simp only [Act.put, List.setIfInBounds_toArray, List.set_cons_zero, List.set_cons_succ]
                    refine wpAnyC_take (i := 32) (v := ?v327) rfl (by kernel_rfl) (fun _ _ _ h => h) (Or.inl ⟨by rfl, ?y327⟩) hS ?r327
                    case y327 => intro wq _; go_simp; try with_reducible rfl
                    try simp only [Act.put, List.setIfInBounds_toArray, List.set_cons_zero, List.set_cons_succ]
                    refine wpAnyC_take (i := 33) (v := ?v328) rfl (by kernel_rfl) (fun _ _ _ h => h) (Or.inl ⟨by rfl, ?y328⟩) hS ?r328
                    case y328 => rintro wq ⟨⟨c0, c1, c2⟩, ⟨e0, e1, e2⟩, pp, -⟩; go_simp; try with_reducible rfl
                    try simp only [Act.put, List.setIfInBounds_toArray, List.set_cons_zero, List.set_cons_succ]
                    refine wpAnyC_take (i := 34) (v := .bool true) rfl (by kernel_rfl) (fun _ _ _ h => h) (Or.inl ⟨by rfl, ?y329⟩) hS ?r329
                    case y329 => intro wq _; go_simp; all_goals (first | (simp only [hk7, jI, ho8, hw0, hw1, hz2]; done) | (simp [hk7, jI, ho8, hw0, hw1, hz2]; done) | (simp; omega) | (trace_state; fail))
                    try simp only [Act.put, List.setIfInBounds_toArray, List.set_cons_zero, List.set_cons_succ]
                    refine wpAnyC_take (i := 35) (v := .bool true) rfl (by kernel_rfl) (fun _ _ _ h => h) (Or.inl ⟨by rfl, ?y330⟩) hS ?r330
                    case y330 => intro wq _; go_simp; all_goals (first | (simp only [hk7, jI, ho8, hw0, hw1, hz2]; done) | (simp [hk7, jI, ho8, hw0, hw1, hz2]; done) | (simp; omega) | (trace_state; fail))
                    try simp only [Act.put, List.setIfInBounds_toArray, List.set_cons_zero, List.set_cons_succ]
                    refine wpAnyC_take (i := 36) (v := ?v331) rfl (by kernel_rfl) (fun _ _ _ h => h) (Or.inl ⟨by rfl, ?y331⟩) hS ?r331
                    case y331 => intro wq _; go_simp; try with_reducible rfl
                    try simp only [Act.put, List.setIfInBounds_toArray, List.set_cons_zero, List.set_cons_succ]
                    refine wpAnyC_take (i := 37) (v := ?v332) rfl (by kernel_rfl) (fun _ _ _ h => h) (Or.inl ⟨by rfl, ?y332⟩) hS ?r332
                    case y332 => rintro wq ⟨⟨c0, c1, c2⟩, ⟨e0, e1, e2⟩, pp, -⟩; go_simp; try with_reducible rfl
                    try simp only [Act.put, List.setIfInBounds_toArray, List.set_cons_zero, List.set_cons_succ]
                    refine wpAnyC_one (j := 38) (by kernel_rfl) rfl (fun K hK => ?_)
                    go_simp
                    go_at_call 89
                    refine (rmeans_any g.text _ ht (by omega)).mono ?_
                    rw [HT.out]
                    rintro e v' ⟨rfl, rfl⟩
                    go_wp2_with fail
                    refine hK.out _ _ ⟨hS, ?_⟩
                    clear hK K
                    try simp only [Act.put, List.setIfInBounds_toArray, List.set_cons_zero, List.set_cons_succ]
                    refine wpAnyC_take (i := 39) (v := .bool true) rfl (by kernel_rfl) (fun _ _ _ h => h) (Or.inl ⟨by rfl, ?y334⟩) hS ?r334
                    case y334 => intro wq _; go_simp; all_goals (first | (simp only [hk7, jI, ho8, hw0, hw1, hz2]; done) | (simp [hk7, jI, ho8, hw0, hw1, hz2]; done) | (simp; omega) | (trace_state; fail))
                    try simp only [Act.put, List.setIfInBounds_toArray, List.set_cons_zero, List.set_cons_succ]
                    refine wpAnyC_take (i := 40) (v := .bool true) rfl (by kernel_rfl) (fun _ _ _ h => h) (Or.inl ⟨by rfl, ?y335⟩) hS ?r335
                    case y335 => intro wq _; go_simp; all_goals (first | (simp only [hk7, jI, ho8, hw0, hw1, hz2]; done) | (simp [hk7, jI, ho8, hw0, hw1, hz2]; done) | (simp; omega) | (trace_state; fail))
                    try simp only [Act.put, List.setIfInBounds_toArray, List.set_cons_zero, List.set_cons_succ]
                    refine wpAnyC_take (i := 41) (v := .bool true) rfl (by kernel_rfl) (fun _ _ _ h => h) (Or.inl ⟨by rfl, ?y336⟩) hS ?r336
                    case y336 => intro wq _; go_simp; all_goals (first | (simp only [hk7, jI, ho8, hw0, hw1, hz2]; done) | (simp [hk7, jI, ho8, hw0, hw1, hz2]; done) | (simp; omega) | (trace_state; fail))
                    try simp only [Act.put, List.setIfInBounds_toArray, List.set_cons_zero, List.set_cons_succ]
                    refine wpAnyC_done (by kernel_rfl) ?_ _
                    go_wp2_with fail
                    go_ret
                    exact ⟨ret_b (no_right _ hlt (by rw [HKk.out]; simp [HT.out, tz])), HW.out.1.trans (hS.2.2.2.mono HW.out.1.size)⟩
                  · have HT := Lib.hid hT
                    clear hT
                    refine wp_region_C (fun v => (v.cell? ⟨w.heap.size, 0, none⟩ = some (.bool wd) ∧ v.cell? ⟨w.heap.size, 1, none⟩ = some (.slice (some ⟨R, o, none⟩) gs.length c) ∧ v.cell? ⟨w.heap.size, 2, none⟩ = some (.int .i64 ot)) ∧ (v.cell? ⟨wr.heap.size, 0, none⟩ = some (.int .i64 g.code) ∧ v.cell? ⟨wr.heap.size, 1, none⟩ = some (.int .i64 g.width) ∧ v.cell? ⟨wr.heap.size, 2, none⟩ = some (.string g.text)) ∧ v.cell? ⟨R, o + j * 3, none⟩ = some (.int .i64 p.code) ∧ Below W.heap.size W v) (by kernel_rfl) ?_
                    refine wpAnyC_take (i := 0) (v := ?v337) rfl (by kernel_rfl) (fun _ _ _ h => h) (Or.inl ⟨by rfl, ?y337⟩) hS ?r337
                    case y337 => rintro wq ⟨⟨c0, c1, c2⟩, ⟨e0, e1, e2⟩, pp, -⟩; go_simp; try with_reducible rfl
                    try simp only [Act.put, List.setIfInBounds_toArray, List.set_cons_zero, List.set_cons_succ]
                    refine wpAnyC_take (i := 1) (v := ?v338) rfl (by kernel_rfl) (fun _ _ _ h => h) (Or.inl ⟨by rfl, ?y338⟩) hS ?r338
                    case y338 => intro wq _; go_simp; try with_reducible rfl
                    try simp only [Act.put, List.setIfInBounds_toArray, List.set_cons_zero, List.set_cons_succ]
                    refine wpAnyC_take (i := 2) (v := ?v339) rfl (by kernel_rfl) (fun _ _ _ h => h) (Or.inl ⟨by rfl, ?y339⟩) hS ?r339
                    case y339 => rintro wq ⟨⟨c0, c1, c2⟩, ⟨e0, e1, e2⟩, pp, -⟩; go_simp; try with_reducible rfl
                    try simp only [Act.put, List.setIfInBounds_toArray, List.set_cons_zero, List.set_cons_succ]
                    refine wpAnyC_one (j := 3) (by kernel_rfl) rfl (fun K hK => ?_)
                    go_simp
                    go_at_call 64
                    refine (rcode_any wd (some ⟨R, o, none⟩) gs.length c ot g.code _).mono ?_
                    rw [HA.out]
                    rintro e v ⟨rfl, kk⟩
                    have hbv : Below W.heap.size W v := ((Below.refl W.heap.size W).drew).trans kk
                    have hS := HC.out v hbv
                    clear kk
                    go_wp2_with fail
                    refine hK.out _ _ ⟨hS, ?_⟩
                    clear hK K
                    try simp only [Act.put, List.setIfInBounds_toArray, List.set_cons_zero, List.set_cons_succ]
                    refine wpAnyC_take (i := 4) (v := .bool false) rfl (by kernel_rfl) (fun _ _ _ h => h) (Or.inl ⟨by rfl, ?y341⟩) hS ?r341
                    case y341 => intro wq _; go_simp; all_goals (first | (simp only [hk7, jI, ho8, hw0, hw1, hz2]; done) | (simp [hk7, jI, ho8, hw0, hw1, hz2]; done) | (simp; omega) | (trace_state; fail))
                    try simp only [Act.put, List.setIfInBounds_toArray, List.set_cons_zero, List.set_cons_succ]
                    refine wpAnyC_take (i := 5) (v := .bool false) rfl (by kernel_rfl) (fun _ _ _ h => h) (Or.inl ⟨by rfl, ?y342⟩) hS ?r342
                    case y342 => intro wq _; go_simp; all_goals (first | (simp only [hk7, jI, ho8, hw0, hw1, hz2]; done) | (simp [hk7, jI, ho8, hw0, hw1, hz2]; done) | (simp; omega) | (trace_state; fail))
                    try simp only [Act.put, List.setIfInBounds_toArray, List.set_cons_zero, List.set_cons_succ]
                    refine wpAnyC_take (i := 6) (v := ?v343) rfl (by kernel_rfl) (fun _ _ _ h => h) (Or.inl ⟨by rfl, ?y343⟩) hS ?r343
                    case y343 => intro wq _; go_simp; try with_reducible rfl
                    try simp only [Act.put, List.setIfInBounds_toArray, List.set_cons_zero, List.set_cons_succ]
                    refine wpAnyC_take (i := 7) (v := .bool true) rfl (by kernel_rfl) (fun _ _ _ h => h) (Or.inl ⟨by rfl, ?y344⟩) hS ?r344
                    case y344 => intro wq _; go_simp; all_goals (first | (simp only [hk7, jI, ho8, hw0, hw1, hz2]; done) | (simp [hk7, jI, ho8, hw0, hw1, hz2]; done) | (simp; omega) | (trace_state; fail))
                    try simp only [Act.put, List.setIfInBounds_toArray, List.set_cons_zero, List.set_cons_succ]
                    refine wpAnyC_take (i := 8) (v := .bool true) rfl (by kernel_rfl) (fun _ _ _ h => h) (Or.inl ⟨by rfl, ?y345⟩) hS ?r345
                    case y345 => intro wq _; go_simp; all_goals (first | (simp only [hk7, jI, ho8, hw0, hw1, hz2]; done) | (simp [hk7, jI, ho8, hw0, hw1, hz2]; done) | (simp; omega) | (trace_state; fail))
                    try simp only [Act.put, List.setIfInBounds_toArray, List.set_cons_zero, List.set_cons_succ]
                    refine wpAnyC_take (i := 9) (v := ?v346) rfl (by kernel_rfl) (fun _ _ _ h => h) (Or.inl ⟨by rfl, ?y346⟩) hS ?r346
                    case y346 => intro wq _; go_simp; try with_reducible rfl
                    try simp only [Act.put, List.setIfInBounds_toArray, List.set_cons_zero, List.set_cons_succ]
                    refine wpAnyC_take (i := 10) (v := ?v347) rfl (by kernel_rfl) (fun _ _ _ h => h) (Or.inl ⟨by rfl, ?y347⟩) hS ?r347
                    case y347 => rintro wq ⟨⟨c0, c1, c2⟩, ⟨e0, e1, e2⟩, pp, -⟩; go_simp; try with_reducible rfl
                    try simp only [Act.put, List.setIfInBounds_toArray, List.set_cons_zero, List.set_cons_succ]
                    refine wpAnyC_take (i := 11) (v := ?v348) rfl (by kernel_rfl) (fun _ _ _ h => h) (Or.inl ⟨by rfl, ?y348⟩) hS ?r348
                    case y348 => intro wq _; go_simp; try with_reducible rfl
                    try simp only [Act.put, List.setIfInBounds_toArray, List.set_cons_zero, List.set_cons_succ]
                    refine wpAnyC_take (i := 12) (v := .int .i64 (j : Int)) rfl (by kernel_rfl) (fun _ _ _ h => h) (Or.inl ⟨by rfl, ?y349⟩) hS ?r349
                    case y349 => intro wq _; go_simp; all_goals (first | (simp only [hk7, jI, ho8, hw0, hw1, hz2]; done) | (simp [hk7, jI, ho8, hw0, hw1, hz2]; done) | (simp; omega) | (trace_state; fail))
                    try simp only [Act.put, List.setIfInBounds_toArray, List.set_cons_zero, List.set_cons_succ]
                    refine wpAnyC_take (i := 13) (v := .pointer (some ⟨R, o + j * 3, none⟩)) rfl (by kernel_rfl) (fun _ _ _ h => h) (Or.inl ⟨by rfl, ?y350⟩) hS ?r350
                    case y350 => intro wq _; go_simp; all_goals (first | (simp only [hk7, jI, ho8, hw0, hw1, hz2]; done) | (simp [hk7, jI, ho8, hw0, hw1, hz2]; done) | (simp; omega) | (trace_state; fail))
                    try simp only [Act.put, List.setIfInBounds_toArray, List.set_cons_zero, List.set_cons_succ]
                    refine wpAnyC_take (i := 14) (v := ?v351) rfl (by kernel_rfl) (fun _ _ _ h => h) (Or.inl ⟨by rfl, ?y351⟩) hS ?r351
                    case y351 => intro wq _; go_simp; try with_reducible rfl
                    try simp only [Act.put, List.setIfInBounds_toArray, List.set_cons_zero, List.set_cons_succ]
                    refine wpAnyC_take (i := 15) (v := ?v352) rfl (by kernel_rfl) (fun _ _ _ h => h) (Or.inl ⟨by rfl, ?y352⟩) hS ?r352
                    case y352 => rintro wq ⟨⟨c0, c1, c2⟩, ⟨e0, e1, e2⟩, pp, -⟩; go_simp; try with_reducible rfl
                    try simp only [Act.put, List.setIfInBounds_toArray, List.set_cons_zero, List.set_cons_succ]
                    refine wpAnyC_take (i := 16) (v := ?v353) rfl (by kernel_rfl) (fun _ _ _ h => h) (Or.inl ⟨by rfl, ?y353⟩) hS ?r353
                    case y353 => intro wq _; go_simp; try with_reducible rfl
                    try simp only [Act.put, List.setIfInBounds_toArray, List.set_cons_zero, List.set_cons_succ]
                    refine wpAnyC_take (i := 17) (v := ?v354) rfl (by kernel_rfl) (fun _ _ _ h => h) (Or.inl ⟨by rfl, ?y354⟩) hS ?r354
                    case y354 => rintro wq ⟨⟨c0, c1, c2⟩, ⟨e0, e1, e2⟩, pp, -⟩; go_simp; try with_reducible rfl
                    try simp only [Act.put, List.setIfInBounds_toArray, List.set_cons_zero, List.set_cons_succ]
                    refine wpAnyC_take (i := 18) (v := .bool false) rfl (by kernel_rfl) (fun _ _ _ h => h) (Or.inl ⟨by rfl, ?y355⟩) hS ?r355
                    case y355 => intro wq _; go_simp; all_goals (first | (simp only [hk7, jI, ho8, hw0, hw1, hz2]; done) | (simp [hk7, jI, ho8, hw0, hw1, hz2]; done) | (simp; omega) | (trace_state; fail))
                    try simp only [Act.put, List.setIfInBounds_toArray, List.set_cons_zero, List.set_cons_succ]
                    refine wpAnyC_take (i := 19) (v := .bool false) rfl (by kernel_rfl) (fun _ _ _ h => h) (Or.inl ⟨by rfl, ?y356⟩) hS ?r356
                    case y356 => intro wq _; go_simp; all_goals (first | (simp only [hk7, jI, ho8, hw0, hw1, hz2]; done) | (simp [hk7, jI, ho8, hw0, hw1, hz2]; done) | (simp; omega) | (trace_state; fail))
                    try simp only [Act.put, List.setIfInBounds_toArray, List.set_cons_zero, List.set_cons_succ]
                    refine wpAnyC_take (i := 20) (v := .bool false) rfl (by kernel_rfl) (fun _ _ _ h => h) (Or.inl ⟨by rfl, ?y357⟩) hS ?r357
                    case y357 => intro wq _; go_simp; all_goals (first | (simp only [hk7, jI, ho8, hw0, hw1, hz2]; done) | (simp [hk7, jI, ho8, hw0, hw1, hz2]; done) | (simp; omega) | (trace_state; fail))
                    try simp only [Act.put, List.setIfInBounds_toArray, List.set_cons_zero, List.set_cons_succ]
                    refine wpAnyC_take (i := 21) (v := .bool false) rfl (by kernel_rfl) (fun _ _ _ h => h) (Or.inl ⟨by rfl, ?y358⟩) hS ?r358
                    case y358 => intro wq _; go_simp; all_goals (first | (simp only [hk7, jI, ho8, hw0, hw1, hz2]; done) | (simp [hk7, jI, ho8, hw0, hw1, hz2]; done) | (simp; omega) | (trace_state; fail))
                    try simp only [Act.put, List.setIfInBounds_toArray, List.set_cons_zero, List.set_cons_succ]
                    refine wpAnyC_take (i := 22) (v := ?v359) rfl (by kernel_rfl) (fun _ _ _ h => h) (Or.inl ⟨by rfl, ?y359⟩) hS ?r359
                    case y359 => intro wq _; go_simp; try with_reducible rfl
                    try simp only [Act.put, List.setIfInBounds_toArray, List.set_cons_zero, List.set_cons_succ]
                    refine wpAnyC_take (i := 23) (v := ?v360) rfl (by kernel_rfl) (fun _ _ _ h => h) (Or.inl ⟨by rfl, ?y360⟩) hS ?r360
                    case y360 => rintro wq ⟨⟨c0, c1, c2⟩, ⟨e0, e1, e2⟩, pp, -⟩; go_simp; try with_reducible rfl
                    try simp only [Act.put, List.setIfInBounds_toArray, List.set_cons_zero, List.set_cons_succ]
                    refine wpAnyC_take (i := 24) (v := .bool false) rfl (by kernel_rfl) (fun _ _ _ h => h) (Or.inl ⟨by rfl, ?y361⟩) hS ?r361
                    case y361 => intro wq _; go_simp; all_goals (first | (simp only [hk7, jI, ho8, hw0, hw1, hz2]; done) | (simp [hk7, jI, ho8, hw0, hw1, hz2]; done) | (simp; omega) | (trace_state; fail))
                    try simp only [Act.put, List.setIfInBounds_toArray, List.set_cons_zero, List.set_cons_succ]
                    refine wpAnyC_take (i := 25) (v := .bool false) rfl (by kernel_rfl) (fun _ _ _ h => h) (Or.inl ⟨by rfl, ?y362⟩) hS ?r362
                    case y362 => intro wq _; go_simp; all_goals (first | (simp only [hk7, jI, ho8, hw0, hw1, hz2]; done) | (simp [hk7, jI, ho8, hw0, hw1, hz2]; done) | (simp; omega) | (trace_state; fail))
                    try simp only [Act.put, List.setIfInBounds_toArray, List.set_cons_zero, List.set_cons_succ]
                    refine wpAnyC_take (i := 26) (v := .bool false) rfl (by kernel_rfl) (fun _ _ _ h => h) (Or.inl ⟨by rfl, ?y363⟩) hS ?r363
                    case y363 => intro wq _; go_simp; all_goals (first | (simp only [hk7, jI, ho8, hw0, hw1, hz2]; done) | (simp [hk7, jI, ho8, hw0, hw1, hz2]; done) | (simp; omega) | (trace_state; fail))
                    try simp only [Act.put, List.setIfInBounds_toArray, List.set_cons_zero, List.set_cons_succ]
                    refine wpAnyC_take (i := 27) (v := ?v364) rfl (by kernel_rfl) (fun _ _ _ h => h) (Or.inl ⟨by rfl, ?y364⟩) hS ?r364
                    case y364 => intro wq _; go_simp; try with_reducible rfl
                    try simp only [Act.put, List.setIfInBounds_toArray, List.set_cons_zero, List.set_cons_succ]
                    refine wpAnyC_take (i := 28) (v := ?v365) rfl (by kernel_rfl) (fun _ _ _ h => h) (Or.inl ⟨by rfl, ?y365⟩) hS ?r365
                    case y365 => rintro wq ⟨⟨c0, c1, c2⟩, ⟨e0, e1, e2⟩, pp, -⟩; go_simp; try with_reducible rfl
                    try simp only [Act.put, List.setIfInBounds_toArray, List.set_cons_zero, List.set_cons_succ]
                    refine wpAnyC_take (i := 29) (v := .bool false) rfl (by kernel_rfl) (fun _ _ _ h => h) (Or.inl ⟨by rfl, ?y366⟩) hS ?r366
                    case y366 => intro wq _; go_simp; all_goals (first | (simp only [hk7, jI, ho8, hw0, hw1, hz2]; done) | (simp [hk7, jI, ho8, hw0, hw1, hz2]; done) | (simp; omega) | (trace_state; fail))
                    try simp only [Act.put, List.setIfInBounds_toArray, List.set_cons_zero, List.set_cons_succ]
                    refine wpAnyC_take (i := 30) (v := .bool false) rfl (by kernel_rfl) (fun _ _ _ h => h) (Or.inl ⟨by rfl, ?y367⟩) hS ?r367
                    case y367 => intro wq _; go_simp; all_goals (first | (simp only [hk7, jI, ho8, hw0, hw1, hz2]; done) | (simp [hk7, jI, ho8, hw0, hw1, hz2]; done) | (simp; omega) | (trace_state; fail))
                    try simp only [Act.put, List.setIfInBounds_toArray, List.set_cons_zero, List.set_cons_succ]
                    refine wpAnyC_take (i := 31) (v := .bool false) rfl (by kernel_rfl) (fun _ _ _ h => h) (Or.inl ⟨by rfl, ?y368⟩) hS ?r368
                    case y368 => intro wq _; go_simp; all_goals (first | (simp only [hk7, jI, ho8, hw0, hw1, hz2]; done) | (simp [hk7, jI, ho8, hw0, hw1, hz2]; done) | (simp; omega) | (trace_state; fail))
                    try simp only [Act.put, List.setIfInBounds_toArray, List.set_cons_zero, List.set_cons_succ]
                    refine wpAnyC_take (i := 32) (v := ?v369) rfl (by kernel_rfl) (fun _ _ _ h => h) (Or.inl ⟨by rfl, ?y369⟩) hS ?r369
                    case y369 => intro wq _; go_simp; try with_reducible rfl
                    try simp only [Act.put, List.setIfInBounds_toArray, List.set_cons_zero, List.set_cons_succ]
                    refine wpAnyC_take (i := 33) (v := ?v370) rfl (by kernel_rfl) (fun _ _ _ h => h) (Or.inl ⟨by rfl, ?y370⟩) hS ?r370
                    case y370 => rintro wq ⟨⟨c0, c1, c2⟩, ⟨e0, e1, e2⟩, pp, -⟩; go_simp; try with_reducible rfl
                    try simp only [Act.put, List.setIfInBounds_toArray, List.set_cons_zero, List.set_cons_succ]
                    refine wpAnyC_take (i := 34) (v := .bool true) rfl (by kernel_rfl) (fun _ _ _ h => h) (Or.inl ⟨by rfl, ?y371⟩) hS ?r371
                    case y371 => intro wq _; go_simp; all_goals (first | (simp only [hk7, jI, ho8, hw0, hw1, hz2]; done) | (simp [hk7, jI, ho8, hw0, hw1, hz2]; done) | (simp; omega) | (trace_state; fail))
                    try simp only [Act.put, List.setIfInBounds_toArray, List.set_cons_zero, List.set_cons_succ]
                    refine wpAnyC_take (i := 35) (v := .bool true) rfl (by kernel_rfl) (fun _ _ _ h => h) (Or.inl ⟨by rfl, ?y372⟩) hS ?r372
                    case y372 => intro wq _; go_simp; all_goals (first | (simp only [hk7, jI, ho8, hw0, hw1, hz2]; done) | (simp [hk7, jI, ho8, hw0, hw1, hz2]; done) | (simp; omega) | (trace_state; fail))
                    try simp only [Act.put, List.setIfInBounds_toArray, List.set_cons_zero, List.set_cons_succ]
                    refine wpAnyC_take (i := 36) (v := ?v373) rfl (by kernel_rfl) (fun _ _ _ h => h) (Or.inl ⟨by rfl, ?y373⟩) hS ?r373
                    case y373 => intro wq _; go_simp; try with_reducible rfl
                    try simp only [Act.put, List.setIfInBounds_toArray, List.set_cons_zero, List.set_cons_succ]
                    refine wpAnyC_take (i := 37) (v := ?v374) rfl (by kernel_rfl) (fun _ _ _ h => h) (Or.inl ⟨by rfl, ?y374⟩) hS ?r374
                    case y374 => rintro wq ⟨⟨c0, c1, c2⟩, ⟨e0, e1, e2⟩, pp, -⟩; go_simp; try with_reducible rfl
                    try simp only [Act.put, List.setIfInBounds_toArray, List.set_cons_zero, List.set_cons_succ]
                    refine wpAnyC_one (j := 38) (by kernel_rfl) rfl (fun K hK => ?_)
                    go_simp
                    go_at_call 89
                    refine (rmeans_any g.text _ ht (by omega)).mono ?_
                    rw [HT.out]
                    rintro e v' ⟨rfl, rfl⟩
                    go_wp2_with fail
                    refine hK.out _ _ ⟨hS, ?_⟩
                    clear hK K
                    try simp only [Act.put, List.setIfInBounds_toArray, List.set_cons_zero, List.set_cons_succ]
                    refine wpAnyC_take (i := 39) (v := .bool false) rfl (by kernel_rfl) (fun _ _ _ h => h) (Or.inl ⟨by rfl, ?y376⟩) hS ?r376
                    case y376 => intro wq _; go_simp; all_goals (first | (simp only [hk7, jI, ho8, hw0, hw1, hz2]; done) | (simp [hk7, jI, ho8, hw0, hw1, hz2]; done) | (simp; omega) | (trace_state; fail))
                    try simp only [Act.put, List.setIfInBounds_toArray, List.set_cons_zero, List.set_cons_succ]
                    refine wpAnyC_take (i := 40) (v := .bool false) rfl (by kernel_rfl) (fun _ _ _ h => h) (Or.inl ⟨by rfl, ?y377⟩) hS ?r377
                    case y377 => intro wq _; go_simp; all_goals (first | (simp only [hk7, jI, ho8, hw0, hw1, hz2]; done) | (simp [hk7, jI, ho8, hw0, hw1, hz2]; done) | (simp; omega) | (trace_state; fail))
                    try simp only [Act.put, List.setIfInBounds_toArray, List.set_cons_zero, List.set_cons_succ]
                    refine wpAnyC_take (i := 41) (v := .bool false) rfl (by kernel_rfl) (fun _ _ _ h => h) (Or.inl ⟨by rfl, ?y378⟩) hS ?r378
                    case y378 => intro wq _; go_simp; all_goals (first | (simp only [hk7, jI, ho8, hw0, hw1, hz2]; done) | (simp [hk7, jI, ho8, hw0, hw1, hz2]; done) | (simp; omega) | (trace_state; fail))
                    try simp only [Act.put, List.setIfInBounds_toArray, List.set_cons_zero, List.set_cons_succ]
                    refine wpAnyC_done (by kernel_rfl) ?_ _
                    go_wp2_with fail
                    go_roundw
                    case rel => exact ⟨(j + 1) + 1, by omega, by go_num, Lib.hid (fun i hi => by
                      by_cases e : i = (j + 1)
                      · rw [e]; rw [HKk.out]; simp [HA.out, hwb, HT.out, HOr.out]
                      · exact HO.out i (by omega)), HW.out.1.trans (hS.2.2.2.mono HW.out.1.size), FB.here HW.out.2 hS.2.2.2⟩
                    case measure => simp [intOf]; omega
              · have hw1 : decide (10000 < g.width) = true := decide_eq_true (by omega)
                have hwb : widthB g.width = false := by unfold widthB; exact decide_eq_false (fun h => w1 h.2)
                refine wp_region_C (fun v => (v.cell? ⟨w.heap.size, 0, none⟩ = some (.bool wd) ∧ v.cell? ⟨w.heap.size, 1, none⟩ = some (.slice (some ⟨R, o, none⟩) gs.length c) ∧ v.cell? ⟨w.heap.size, 2, none⟩ = some (.int .i64 ot)) ∧ (v.cell? ⟨wr.heap.size, 0, none⟩ = some (.int .i64 g.code) ∧ v.cell? ⟨wr.heap.size, 1, none⟩ = some (.int .i64 g.width) ∧ v.cell? ⟨wr.heap.size, 2, none⟩ = some (.string g.text)) ∧ v.cell? ⟨R, o + j * 3, none⟩ = some (.int .i64 p.code) ∧ Below W.heap.size W v) (by kernel_rfl) ?_
                refine wpAnyC_take (i := 0) (v := ?v379) rfl (by kernel_rfl) (fun _ _ _ h => h) (Or.inl ⟨by rfl, ?y379⟩) hS ?r379
                case y379 => rintro wq ⟨⟨c0, c1, c2⟩, ⟨e0, e1, e2⟩, pp, -⟩; go_simp; try with_reducible rfl
                try simp only [Act.put, List.setIfInBounds_toArray, List.set_cons_zero, List.set_cons_succ]
                refine wpAnyC_take (i := 1) (v := ?v380) rfl (by kernel_rfl) (fun _ _ _ h => h) (Or.inl ⟨by rfl, ?y380⟩) hS ?r380
                case y380 => intro wq _; go_simp; try with_reducible rfl
                try simp only [Act.put, List.setIfInBounds_toArray, List.set_cons_zero, List.set_cons_succ]
                refine wpAnyC_take (i := 2) (v := ?v381) rfl (by kernel_rfl) (fun _ _ _ h => h) (Or.inl ⟨by rfl, ?y381⟩) hS ?r381
                case y381 => rintro wq ⟨⟨c0, c1, c2⟩, ⟨e0, e1, e2⟩, pp, -⟩; go_simp; try with_reducible rfl
                try simp only [Act.put, List.setIfInBounds_toArray, List.set_cons_zero, List.set_cons_succ]
                refine wpAnyC_one (j := 3) (by kernel_rfl) rfl (fun K hK => ?_)
                go_simp
                go_at_call 64
                refine (rcode_any wd (some ⟨R, o, none⟩) gs.length c ot g.code _).mono ?_
                rw [HA.out]
                rintro e v ⟨rfl, kk⟩
                have hbv : Below W.heap.size W v := ((Below.refl W.heap.size W).drew).trans kk
                have hS := HC.out v hbv
                clear kk
                go_wp2_with fail
                refine hK.out _ _ ⟨hS, ?_⟩
                clear hK K
                try simp only [Act.put, List.setIfInBounds_toArray, List.set_cons_zero, List.set_cons_succ]
                refine wpAnyC_take (i := 4) (v := .bool false) rfl (by kernel_rfl) (fun _ _ _ h => h) (Or.inl ⟨by rfl, ?y383⟩) hS ?r383
                case y383 => intro wq _; go_simp; all_goals (first | (simp only [hk7, jI, ho8, hw0, hw1]; done) | (simp [hk7, jI, ho8, hw0, hw1]; done) | (simp; omega) | (trace_state; fail))
                try simp only [Act.put, List.setIfInBounds_toArray, List.set_cons_zero, List.set_cons_succ]
                refine wpAnyC_take (i := 5) (v := .bool false) rfl (by kernel_rfl) (fun _ _ _ h => h) (Or.inl ⟨by rfl, ?y384⟩) hS ?r384
                case y384 => intro wq _; go_simp; all_goals (first | (simp only [hk7, jI, ho8, hw0, hw1]; done) | (simp [hk7, jI, ho8, hw0, hw1]; done) | (simp; omega) | (trace_state; fail))
                try simp only [Act.put, List.setIfInBounds_toArray, List.set_cons_zero, List.set_cons_succ]
                refine wpAnyC_take (i := 6) (v := ?v385) rfl (by kernel_rfl) (fun _ _ _ h => h) (Or.inl ⟨by rfl, ?y385⟩) hS ?r385
                case y385 => intro wq _; go_simp; try with_reducible rfl
                try simp only [Act.put, List.setIfInBounds_toArray, List.set_cons_zero, List.set_cons_succ]
                refine wpAnyC_take (i := 7) (v := .bool true) rfl (by kernel_rfl) (fun _ _ _ h => h) (Or.inl ⟨by rfl, ?y386⟩) hS ?r386
                case y386 => intro wq _; go_simp; all_goals (first | (simp only [hk7, jI, ho8, hw0, hw1]; done) | (simp [hk7, jI, ho8, hw0, hw1]; done) | (simp; omega) | (trace_state; fail))
                try simp only [Act.put, List.setIfInBounds_toArray, List.set_cons_zero, List.set_cons_succ]
                refine wpAnyC_take (i := 8) (v := .bool true) rfl (by kernel_rfl) (fun _ _ _ h => h) (Or.inl ⟨by rfl, ?y387⟩) hS ?r387
                case y387 => intro wq _; go_simp; all_goals (first | (simp only [hk7, jI, ho8, hw0, hw1]; done) | (simp [hk7, jI, ho8, hw0, hw1]; done) | (simp; omega) | (trace_state; fail))
                try simp only [Act.put, List.setIfInBounds_toArray, List.set_cons_zero, List.set_cons_succ]
                refine wpAnyC_take (i := 9) (v := ?v388) rfl (by kernel_rfl) (fun _ _ _ h => h) (Or.inl ⟨by rfl, ?y388⟩) hS ?r388
                case y388 => intro wq _; go_simp; try with_reducible rfl
                try simp only [Act.put, List.setIfInBounds_toArray, List.set_cons_zero, List.set_cons_succ]
                refine wpAnyC_take (i := 10) (v := ?v389) rfl (by kernel_rfl) (fun _ _ _ h => h) (Or.inl ⟨by rfl, ?y389⟩) hS ?r389
                case y389 => rintro wq ⟨⟨c0, c1, c2⟩, ⟨e0, e1, e2⟩, pp, -⟩; go_simp; try with_reducible rfl
                try simp only [Act.put, List.setIfInBounds_toArray, List.set_cons_zero, List.set_cons_succ]
                refine wpAnyC_take (i := 11) (v := ?v390) rfl (by kernel_rfl) (fun _ _ _ h => h) (Or.inl ⟨by rfl, ?y390⟩) hS ?r390
                case y390 => intro wq _; go_simp; try with_reducible rfl
                try simp only [Act.put, List.setIfInBounds_toArray, List.set_cons_zero, List.set_cons_succ]
                refine wpAnyC_take (i := 12) (v := .int .i64 (j : Int)) rfl (by kernel_rfl) (fun _ _ _ h => h) (Or.inl ⟨by rfl, ?y391⟩) hS ?r391
                case y391 => intro wq _; go_simp; all_goals (first | (simp only [hk7, jI, ho8, hw0, hw1]; done) | (simp [hk7, jI, ho8, hw0, hw1]; done) | (simp; omega) | (trace_state; fail))
                try simp only [Act.put, List.setIfInBounds_toArray, List.set_cons_zero, List.set_cons_succ]
                refine wpAnyC_take (i := 13) (v := .pointer (some ⟨R, o + j * 3, none⟩)) rfl (by kernel_rfl) (fun _ _ _ h => h) (Or.inl ⟨by rfl, ?y392⟩) hS ?r392
                case y392 => intro wq _; go_simp; all_goals (first | (simp only [hk7, jI, ho8, hw0, hw1]; done) | (simp [hk7, jI, ho8, hw0, hw1]; done) | (simp; omega) | (trace_state; fail))
                try simp only [Act.put, List.setIfInBounds_toArray, List.set_cons_zero, List.set_cons_succ]
                refine wpAnyC_take (i := 14) (v := ?v393) rfl (by kernel_rfl) (fun _ _ _ h => h) (Or.inl ⟨by rfl, ?y393⟩) hS ?r393
                case y393 => intro wq _; go_simp; try with_reducible rfl
                try simp only [Act.put, List.setIfInBounds_toArray, List.set_cons_zero, List.set_cons_succ]
                refine wpAnyC_take (i := 15) (v := ?v394) rfl (by kernel_rfl) (fun _ _ _ h => h) (Or.inl ⟨by rfl, ?y394⟩) hS ?r394
                case y394 => rintro wq ⟨⟨c0, c1, c2⟩, ⟨e0, e1, e2⟩, pp, -⟩; go_simp; try with_reducible rfl
                try simp only [Act.put, List.setIfInBounds_toArray, List.set_cons_zero, List.set_cons_succ]
                refine wpAnyC_take (i := 16) (v := ?v395) rfl (by kernel_rfl) (fun _ _ _ h => h) (Or.inl ⟨by rfl, ?y395⟩) hS ?r395
                case y395 => intro wq _; go_simp; try with_reducible rfl
                try simp only [Act.put, List.setIfInBounds_toArray, List.set_cons_zero, List.set_cons_succ]
                refine wpAnyC_take (i := 17) (v := ?v396) rfl (by kernel_rfl) (fun _ _ _ h => h) (Or.inl ⟨by rfl, ?y396⟩) hS ?r396
                case y396 => rintro wq ⟨⟨c0, c1, c2⟩, ⟨e0, e1, e2⟩, pp, -⟩; go_simp; try with_reducible rfl
                try simp only [Act.put, List.setIfInBounds_toArray, List.set_cons_zero, List.set_cons_succ]
                refine wpAnyC_take (i := 18) (v := .bool false) rfl (by kernel_rfl) (fun _ _ _ h => h) (Or.inl ⟨by rfl, ?y397⟩) hS ?r397
                case y397 => intro wq _; go_simp; all_goals (first | (simp only [hk7, jI, ho8, hw0, hw1]; done) | (simp [hk7, jI, ho8, hw0, hw1]; done) | (simp; omega) | (trace_state; fail))
                try simp only [Act.put, List.setIfInBounds_toArray, List.set_cons_zero, List.set_cons_succ]
                refine wpAnyC_take (i := 19) (v := .bool false) rfl (by kernel_rfl) (fun _ _ _ h => h) (Or.inl ⟨by rfl, ?y398⟩) hS ?r398
                case y398 => intro wq _; go_simp; all_goals (first | (simp only [hk7, jI, ho8, hw0, hw1]; done) | (simp [hk7, jI, ho8, hw0, hw1]; done) | (simp; omega) | (trace_state; fail))
                try simp only [Act.put, List.setIfInBounds_toArray, List.set_cons_zero, List.set_cons_succ]
                refine wpAnyC_take (i := 20) (v := .bool false) rfl (by kernel_rfl) (fun _ _ _ h => h) (Or.inl ⟨by rfl, ?y399⟩) hS ?r399
                case y399 => intro wq _; go_simp; all_goals (first | (simp only [hk7, jI, ho8, hw0, hw1]; done) | (simp [hk7, jI, ho8, hw0, hw1]; done) | (simp; omega) | (trace_state; fail))
                try simp only [Act.put, List.setIfInBounds_toArray, List.set_cons_zero, List.set_cons_succ]
                refine wpAnyC_take (i := 21) (v := .bool false) rfl (by kernel_rfl) (fun _ _ _ h => h) (Or.inl ⟨by rfl, ?y400⟩) hS ?r400
                case y400 => intro wq _; go_simp; all_goals (first | (simp only [hk7, jI, ho8, hw0, hw1]; done) | (simp [hk7, jI, ho8, hw0, hw1]; done) | (simp; omega) | (trace_state; fail))
                try simp only [Act.put, List.setIfInBounds_toArray, List.set_cons_zero, List.set_cons_succ]
                refine wpAnyC_take (i := 22) (v := ?v401) rfl (by kernel_rfl) (fun _ _ _ h => h) (Or.inl ⟨by rfl, ?y401⟩) hS ?r401
                case y401 => intro wq _; go_simp; try with_reducible rfl
                try simp only [Act.put, List.setIfInBounds_toArray, List.set_cons_zero, List.set_cons_succ]
                refine wpAnyC_take (i := 23) (v := ?v402) rfl (by kernel_rfl) (fun _ _ _ h => h) (Or.inl ⟨by rfl, ?y402⟩) hS ?r402
                case y402 => rintro wq ⟨⟨c0, c1, c2⟩, ⟨e0, e1, e2⟩, pp, -⟩; go_simp; try with_reducible rfl
                try simp only [Act.put, List.setIfInBounds_toArray, List.set_cons_zero, List.set_cons_succ]
                refine wpAnyC_take (i := 24) (v := .bool false) rfl (by kernel_rfl) (fun _ _ _ h => h) (Or.inl ⟨by rfl, ?y403⟩) hS ?r403
                case y403 => intro wq _; go_simp; all_goals (first | (simp only [hk7, jI, ho8, hw0, hw1]; done) | (simp [hk7, jI, ho8, hw0, hw1]; done) | (simp; omega) | (trace_state; fail))
                try simp only [Act.put, List.setIfInBounds_toArray, List.set_cons_zero, List.set_cons_succ]
                refine wpAnyC_take (i := 25) (v := .bool false) rfl (by kernel_rfl) (fun _ _ _ h => h) (Or.inl ⟨by rfl, ?y404⟩) hS ?r404
                case y404 => intro wq _; go_simp; all_goals (first | (simp only [hk7, jI, ho8, hw0, hw1]; done) | (simp [hk7, jI, ho8, hw0, hw1]; done) | (simp; omega) | (trace_state; fail))
                try simp only [Act.put, List.setIfInBounds_toArray, List.set_cons_zero, List.set_cons_succ]
                refine wpAnyC_take (i := 26) (v := .bool false) rfl (by kernel_rfl) (fun _ _ _ h => h) (Or.inl ⟨by rfl, ?y405⟩) hS ?r405
                case y405 => intro wq _; go_simp; all_goals (first | (simp only [hk7, jI, ho8, hw0, hw1]; done) | (simp [hk7, jI, ho8, hw0, hw1]; done) | (simp; omega) | (trace_state; fail))
                try simp only [Act.put, List.setIfInBounds_toArray, List.set_cons_zero, List.set_cons_succ]
                refine wpAnyC_take (i := 27) (v := ?v406) rfl (by kernel_rfl) (fun _ _ _ h => h) (Or.inl ⟨by rfl, ?y406⟩) hS ?r406
                case y406 => intro wq _; go_simp; try with_reducible rfl
                try simp only [Act.put, List.setIfInBounds_toArray, List.set_cons_zero, List.set_cons_succ]
                refine wpAnyC_take (i := 28) (v := ?v407) rfl (by kernel_rfl) (fun _ _ _ h => h) (Or.inl ⟨by rfl, ?y407⟩) hS ?r407
                case y407 => rintro wq ⟨⟨c0, c1, c2⟩, ⟨e0, e1, e2⟩, pp, -⟩; go_simp; try with_reducible rfl
                try simp only [Act.put, List.setIfInBounds_toArray, List.set_cons_zero, List.set_cons_succ]
                refine wpAnyC_take (i := 29) (v := .bool true) rfl (by kernel_rfl) (fun _ _ _ h => h) (Or.inl ⟨by rfl, ?y408⟩) hS ?r408
                case y408 => intro wq _; go_simp; all_goals (first | (simp only [hk7, jI, ho8, hw0, hw1]; done) | (simp [hk7, jI, ho8, hw0, hw1]; done) | (simp; omega) | (trace_state; fail))
                try simp only [Act.put, List.setIfInBounds_toArray, List.set_cons_zero, List.set_cons_succ]
                refine wpAnyC_take (i := 30) (v := .bool true) rfl (by kernel_rfl) (fun _ _ _ h => h) (Or.inl ⟨by rfl, ?y409⟩) hS ?r409
                case y409 => intro wq _; go_simp; all_goals (first | (simp only [hk7, jI, ho8, hw0, hw1]; done) | (simp [hk7, jI, ho8, hw0, hw1]; done) | (simp; omega) | (trace_state; fail))
                try simp only [Act.put, List.setIfInBounds_toArray, List.set_cons_zero, List.set_cons_succ]
                refine wpAnyC_take (i := 31) (v := .bool true) rfl (by kernel_rfl) (fun _ _ _ h => h) (Or.inl ⟨by rfl, ?y410⟩) hS ?r410
                case y410 => intro wq _; go_simp; all_goals (first | (simp only [hk7, jI, ho8, hw0, hw1]; done) | (simp [hk7, jI, ho8, hw0, hw1]; done) | (simp; omega) | (trace_state; fail))
                try simp only [Act.put, List.setIfInBounds_toArray, List.set_cons_zero, List.set_cons_succ]
                refine wpAnyC_take (i := 32) (v := undef) rfl (by kernel_rfl) (fun _ _ _ h => h) (Or.inr ⟨by rfl, rfl⟩) hS ?r411
                try simp only [Act.put, List.setIfInBounds_toArray, List.set_cons_zero, List.set_cons_succ]
                refine wpAnyC_take (i := 33) (v := undef) rfl (by kernel_rfl) (fun _ _ _ h => h) (Or.inr ⟨by rfl, rfl⟩) hS ?r412
                try simp only [Act.put, List.setIfInBounds_toArray, List.set_cons_zero, List.set_cons_succ]
                refine wpAnyC_take (i := 34) (v := undef) rfl (by kernel_rfl) (fun _ _ _ h => h) (Or.inr ⟨by rfl, rfl⟩) hS ?r413
                try simp only [Act.put, List.setIfInBounds_toArray, List.set_cons_zero, List.set_cons_succ]
                refine wpAnyC_take (i := 35) (v := undef) rfl (by kernel_rfl) (fun _ _ _ h => h) (Or.inr ⟨by rfl, rfl⟩) hS ?r414
                try simp only [Act.put, List.setIfInBounds_toArray, List.set_cons_zero, List.set_cons_succ]
                refine wpAnyC_take (i := 36) (v := undef) rfl (by kernel_rfl) (fun _ _ _ h => h) (Or.inr ⟨by rfl, rfl⟩) hS ?r415
                try simp only [Act.put, List.setIfInBounds_toArray, List.set_cons_zero, List.set_cons_succ]
                refine wpAnyC_take (i := 37) (v := undef) rfl (by kernel_rfl) (fun _ _ _ h => h) (Or.inr ⟨by rfl, rfl⟩) hS ?r416
                try simp only [Act.put, List.setIfInBounds_toArray, List.set_cons_zero, List.set_cons_succ]
                refine wpAnyC_take (i := 38) (v := undef) rfl (by kernel_rfl) (fun _ _ _ h => h) (Or.inr ⟨by rfl, rfl⟩) hS ?r417
                try simp only [Act.put, List.setIfInBounds_toArray, List.set_cons_zero, List.set_cons_succ]
                refine wpAnyC_take (i := 39) (v := undef) rfl (by kernel_rfl) (fun _ _ _ h => h) (Or.inr ⟨by rfl, rfl⟩) hS ?r418
                try simp only [Act.put, List.setIfInBounds_toArray, List.set_cons_zero, List.set_cons_succ]
                refine wpAnyC_take (i := 40) (v := undef) rfl (by kernel_rfl) (fun _ _ _ h => h) (Or.inr ⟨by rfl, rfl⟩) hS ?r419
                try simp only [Act.put, List.setIfInBounds_toArray, List.set_cons_zero, List.set_cons_succ]
                refine wpAnyC_take (i := 41) (v := .bool true) rfl (by kernel_rfl) (fun _ _ _ h => h) (Or.inl ⟨by rfl, ?y420⟩) hS ?r420
                case y420 => intro wq _; go_simp; all_goals (first | (simp only [hk7, jI, ho8, hw0, hw1]; done) | (simp [hk7, jI, ho8, hw0, hw1]; done) | (simp; omega) | (trace_state; fail))
                try simp only [Act.put, List.setIfInBounds_toArray, List.set_cons_zero, List.set_cons_succ]
                refine wpAnyC_done (by kernel_rfl) ?_ _
                go_wp2_with fail
                go_ret
                exact ⟨ret_b (no_right _ hlt (by rw [HKk.out]; simp [hwb])), HW.out.1.trans (hS.2.2.2.mono HW.out.1.size)⟩
            · have hw0 : decide (g.width < 0) = true := decide_eq_true (by omega)
              have hwb : widthB g.width = false := by unfold widthB; exact decide_eq_false (fun h => w0 h.1)
              refine wp_region_C (fun v => (v.cell? ⟨w.heap.size, 0, none⟩ = some (.bool wd) ∧ v.cell? ⟨w.heap.size, 1, none⟩ = some (.slice (some ⟨R, o, none⟩) gs.length c) ∧ v.cell? ⟨w.heap.size, 2, none⟩ = some (.int .i64 ot)) ∧ (v.cell? ⟨wr.heap.size, 0, none⟩ = some (.int .i64 g.code) ∧ v.cell? ⟨wr.heap.size, 1, none⟩ = some (.int .i64 g.width) ∧ v.cell? ⟨wr.heap.size, 2, none⟩ = some (.string g.text)) ∧ v.cell? ⟨R, o + j * 3, none⟩ = some (.int .i64 p.code) ∧ Below W.heap.size W v) (by kernel_rfl) ?_
              refine wpAnyC_take (i := 0) (v := ?v421) rfl (by kernel_rfl) (fun _ _ _ h => h) (Or.inl ⟨by rfl, ?y421⟩) hS ?r421
              case y421 => rintro wq ⟨⟨c0, c1, c2⟩, ⟨e0, e1, e2⟩, pp, -⟩; go_simp; try with_reducible rfl
              try simp only [Act.put, List.setIfInBounds_toArray, List.set_cons_zero, List.set_cons_succ]
              refine wpAnyC_take (i := 1) (v := ?v422) rfl (by kernel_rfl) (fun _ _ _ h => h) (Or.inl ⟨by rfl, ?y422⟩) hS ?r422
              case y422 => intro wq _; go_simp; try with_reducible rfl
              try simp only [Act.put, List.setIfInBounds_toArray, List.set_cons_zero, List.set_cons_succ]
              refine wpAnyC_take (i := 2) (v := ?v423) rfl (by kernel_rfl) (fun _ _ _ h => h) (Or.inl ⟨by rfl, ?y423⟩) hS ?r423
              case y423 => rintro wq ⟨⟨c0, c1, c2⟩, ⟨e0, e1, e2⟩, pp, -⟩; go_simp; try with_reducible rfl
              try simp only [Act.put, List.setIfInBounds_toArray, List.set_cons_zero, List.set_cons_succ]
              refine wpAnyC_one (j := 3) (by kernel_rfl) rfl (fun K hK => ?_)
              go_simp
              go_at_call 64
              refine (rcode_any wd (some ⟨R, o, none⟩) gs.length c ot g.code _).mono ?_
              rw [HA.out]
              rintro e v ⟨rfl, kk⟩
              have hbv : Below W.heap.size W v := ((Below.refl W.heap.size W).drew).trans kk
              have hS := HC.out v hbv
              clear kk
              go_wp2_with fail
              refine hK.out _ _ ⟨hS, ?_⟩
              clear hK K
              try simp only [Act.put, List.setIfInBounds_toArray, List.set_cons_zero, List.set_cons_succ]
              refine wpAnyC_take (i := 4) (v := .bool false) rfl (by kernel_rfl) (fun _ _ _ h => h) (Or.inl ⟨by rfl, ?y425⟩) hS ?r425
              case y425 => intro wq _; go_simp; all_goals (first | (simp only [hk7, jI, ho8, hw0]; done) | (simp [hk7, jI, ho8, hw0]; done) | (simp; omega) | (trace_state; fail))
              try simp only [Act.put, List.setIfInBounds_toArray, List.set_cons_zero, List.set_cons_succ]
              refine wpAnyC_take (i := 5) (v := .bool false) rfl (by kernel_rfl) (fun _ _ _ h => h) (Or.inl ⟨by rfl, ?y426⟩) hS ?r426
              case y426 => intro wq _; go_simp; all_goals (first | (simp only [hk7, jI, ho8, hw0]; done) | (simp [hk7, jI, ho8, hw0]; done) | (simp; omega) | (trace_state; fail))
              try simp only [Act.put, List.setIfInBounds_toArray, List.set_cons_zero, List.set_cons_succ]
              refine wpAnyC_take (i := 6) (v := ?v427) rfl (by kernel_rfl) (fun _ _ _ h => h) (Or.inl ⟨by rfl, ?y427⟩) hS ?r427
              case y427 => intro wq _; go_simp; try with_reducible rfl
              try simp only [Act.put, List.setIfInBounds_toArray, List.set_cons_zero, List.set_cons_succ]
              refine wpAnyC_take (i := 7) (v := .bool true) rfl (by kernel_rfl) (fun _ _ _ h => h) (Or.inl ⟨by rfl, ?y428⟩) hS ?r428
              case y428 => intro wq _; go_simp; all_goals (first | (simp only [hk7, jI, ho8, hw0]; done) | (simp [hk7, jI, ho8, hw0]; done) | (simp; omega) | (trace_state; fail))
              try simp only [Act.put, List.setIfInBounds_toArray, List.set_cons_zero, List.set_cons_succ]
              refine wpAnyC_take (i := 8) (v := .bool true) rfl (by kernel_rfl) (fun _ _ _ h => h) (Or.inl ⟨by rfl, ?y429⟩) hS ?r429
              case y429 => intro wq _; go_simp; all_goals (first | (simp only [hk7, jI, ho8, hw0]; done) | (simp [hk7, jI, ho8, hw0]; done) | (simp; omega) | (trace_state; fail))
              try simp only [Act.put, List.setIfInBounds_toArray, List.set_cons_zero, List.set_cons_succ]
              refine wpAnyC_take (i := 9) (v := ?v430) rfl (by kernel_rfl) (fun _ _ _ h => h) (Or.inl ⟨by rfl, ?y430⟩) hS ?r430
              case y430 => intro wq _; go_simp; try with_reducible rfl
              try simp only [Act.put, List.setIfInBounds_toArray, List.set_cons_zero, List.set_cons_succ]
              refine wpAnyC_take (i := 10) (v := ?v431) rfl (by kernel_rfl) (fun _ _ _ h => h) (Or.inl ⟨by rfl, ?y431⟩) hS ?r431
              case y431 => rintro wq ⟨⟨c0, c1, c2⟩, ⟨e0, e1, e2⟩, pp, -⟩; go_simp; try with_reducible rfl
              try simp only [Act.put, List.setIfInBounds_toArray, List.set_cons_zero, List.set_cons_succ]
              refine wpAnyC_take (i := 11) (v := ?v432) rfl (by kernel_rfl) (fun _ _ _ h => h) (Or.inl ⟨by rfl, ?y432⟩) hS ?r432
              case y432 => intro wq _; go_simp; try with_reducible rfl
              try simp only [Act.put, List.setIfInBounds_toArray, List.set_cons_zero, List.set_cons_succ]
              refine wpAnyC_take (i := 12) (v := .int .i64 (j : Int)) rfl (by kernel_rfl) (fun _ _ _ h => h) (Or.inl ⟨by rfl, ?y433⟩) hS ?r433
              case y433 => intro wq _; go_simp; all_goals (first | (simp only [hk7, jI, ho8, hw0]; done) | (simp [hk7, jI, ho8, hw0]; done) | (simp; omega) | (trace_state; fail))
              try simp only [Act.put, List.setIfInBounds_toArray, List.set_cons_zero, List.set_cons_succ]
              refine wpAnyC_take (i := 13) (v := .pointer (some ⟨R, o + j * 3, none⟩)) rfl (by kernel_rfl) (fun _ _ _ h => h) (Or.inl ⟨by rfl, ?y434⟩) hS ?r434
              case y434 => intro wq _; go_simp; all_goals (first | (simp only [hk7, jI, ho8, hw0]; done) | (simp [hk7, jI, ho8, hw0]; done) | (simp; omega) | (trace_state; fail))
              try simp only [Act.put, List.setIfInBounds_toArray, List.set_cons_zero, List.set_cons_succ]
              refine wpAnyC_take (i := 14) (v := ?v435) rfl (by kernel_rfl) (fun _ _ _ h => h) (Or.inl ⟨by rfl, ?y435⟩) hS ?r435
              case y435 => intro wq _; go_simp; try with_reducible rfl
              try simp only [Act.put, List.setIfInBounds_toArray, List.set_cons_zero, List.set_cons_succ]
              refine wpAnyC_take (i := 15) (v := ?v436) rfl (by kernel_rfl) (fun _ _ _ h => h) (Or.inl ⟨by rfl, ?y436⟩) hS ?r436
              case y436 => rintro wq ⟨⟨c0, c1, c2⟩, ⟨e0, e1, e2⟩, pp, -⟩; go_simp; try with_reducible rfl
              try simp only [Act.put, List.setIfInBounds_toArray, List.set_cons_zero, List.set_cons_succ]
              refine wpAnyC_take (i := 16) (v := ?v437) rfl (by kernel_rfl) (fun _ _ _ h => h) (Or.inl ⟨by rfl, ?y437⟩) hS ?r437
              case y437 => intro wq _; go_simp; try with_reducible rfl
              try simp only [Act.put, List.setIfInBounds_toArray, List.set_cons_zero, List.set_cons_succ]
              refine wpAnyC_take (i := 17) (v := ?v438) rfl (by kernel_rfl) (fun _ _ _ h => h) (Or.inl ⟨by rfl, ?y438⟩) hS ?r438
              case y438 => rintro wq ⟨⟨c0, c1, c2⟩, ⟨e0, e1, e2⟩, pp, -⟩; go_simp; try with_reducible rfl
              try simp only [Act.put, List.setIfInBounds_toArray, List.set_cons_zero, List.set_cons_succ]
              refine wpAnyC_take (i := 18) (v := .bool false) rfl (by kernel_rfl) (fun _ _ _ h => h) (Or.inl ⟨by rfl, ?y439⟩) hS ?r439
              case y439 => intro wq _; go_simp; all_goals (first | (simp only [hk7, jI, ho8, hw0]; done) | (simp [hk7, jI, ho8, hw0]; done) | (simp; omega) | (trace_state; fail))
              try simp only [Act.put, List.setIfInBounds_toArray, List.set_cons_zero, List.set_cons_succ]
              refine wpAnyC_take (i := 19) (v := .bool false) rfl (by kernel_rfl) (fun _ _ _ h => h) (Or.inl ⟨by rfl, ?y440⟩) hS ?r440
              case y440 => intro wq _; go_simp; all_goals (first | (simp only [hk7, jI, ho8, hw0]; done) | (simp [hk7, jI, ho8, hw0]; done) | (simp; omega) | (trace_state; fail))
              try simp only [Act.put, List.setIfInBounds_toArray, List.set_cons_zero, List.set_cons_succ]
              refine wpAnyC_take (i := 20) (v := .bool false) rfl (by kernel_rfl) (fun _ _ _ h => h) (Or.inl ⟨by rfl, ?y441⟩) hS ?r441
              case y441 => intro wq _; go_simp; all_goals (first | (simp only [hk7, jI, ho8, hw0]; done) | (simp [hk7, jI, ho8, hw0]; done) | (simp; omega) | (trace_state; fail))
              try simp only [Act.put, List.setIfInBounds_toArray, List.set_cons_zero, List.set_cons_succ]
              refine wpAnyC_take (i := 21) (v := .bool false) rfl (by kernel_rfl) (fun _ _ _ h => h) (Or.inl ⟨by rfl, ?y442⟩) hS ?r442
              case y442 => intro wq _; go_simp; all_goals (first | (simp only [hk7, jI, ho8, hw0]; done) | (simp [hk7, jI, ho8, hw0]; done) | (simp; omega) | (trace_state; fail))
              try simp only [Act.put, List.setIfInBounds_toArray, List.set_cons_zero, List.set_cons_succ]
              refine wpAnyC_take (i := 22) (v := ?v443) rfl (by kernel_rfl) (fun _ _ _ h => h) (Or.inl ⟨by rfl, ?y443⟩) hS ?r443
              case y443 => intro wq _; go_simp; try with_reducible rfl
              try simp only [Act.put, List.setIfInBounds_toArray, List.set_cons_zero, List.set_cons_succ]
              refine wpAnyC_take (i := 23) (v := ?v444) rfl (by kernel_rfl) (fun _ _ _ h => h) (Or.inl ⟨by rfl, ?y444⟩) hS ?r444
              case y444 => rintro wq ⟨⟨c0, c1, c2⟩, ⟨e0, e1, e2⟩, pp, -⟩; go_simp; try with_reducible rfl
              try simp only [Act.put, List.setIfInBounds_toArray, List.set_cons_zero, List.set_cons_succ]
              refine wpAnyC_take (i := 24) (v := .bool true) rfl (by kernel_rfl) (fun _ _ _ h => h) (Or.inl ⟨by rfl, ?y445⟩) hS ?r445
              case y445 => intro wq _; go_simp; all_goals (first | (simp only [hk7, jI, ho8, hw0]; done) | (simp [hk7, jI, ho8, hw0]; done) | (simp; omega) | (trace_state; fail))
              try simp only [Act.put, List.setIfInBounds_toArray, List.set_cons_zero, List.set_cons_succ]
              refine wpAnyC_take (i := 25) (v := .bool true) rfl (by kernel_rfl) (fun _ _ _ h => h) (Or.inl ⟨by rfl, ?y446⟩) hS ?r446
              case y446 => intro wq _; go_simp; all_goals (first | (simp only [hk7, jI, ho8, hw0]; done) | (simp [hk7, jI, ho8, hw0]; done) | (simp; omega) | (trace_state; fail))
              try simp only [Act.put, List.setIfInBounds_toArray, List.set_cons_zero, List.set_cons_succ]
              refine wpAnyC_take (i := 26) (v := .bool true) rfl (by kernel_rfl) (fun _ _ _ h => h) (Or.inl ⟨by rfl, ?y447⟩) hS ?r447
              case y447 => intro wq _; go_simp; all_goals (first | (simp only [hk7, jI, ho8, hw0]; done) | (simp [hk7, jI, ho8, hw0]; done) | (simp; omega) | (trace_state; fail))
              try simp only [Act.put, List.setIfInBounds_toArray, List.set_cons_zero, List.set_cons_succ]
              refine wpAnyC_take (i := 27) (v := undef) rfl (by kernel_rfl) (fun _ _ _ h => h) (Or.inr ⟨by rfl, rfl⟩) hS ?r448
              try simp only [Act.put, List.setIfInBounds_toArray, List.set_cons_zero, List.set_cons_succ]
              refine wpAnyC_take (i := 28) (v := undef) rfl (by kernel_rfl) (fun _ _ _ h => h) (Or.inr ⟨by rfl, rfl⟩) hS ?r449
              try simp only [Act.put, List.setIfInBounds_toArray, List.set_cons_zero, List.set_cons_succ]
              refine wpAnyC_take (i := 29) (v := undef) rfl (by kernel_rfl) (fun _ _ _ h => h) (Or.inr ⟨by rfl, rfl⟩) hS ?r450
              try simp only [Act.put, List.setIfInBounds_toArray, List.set_cons_zero, List.set_cons_succ]
              refine wpAnyC_take (i := 30) (v := .bool true) rfl (by kernel_rfl) (fun _ _ _ h => h) (Or.inl ⟨by rfl, ?y451⟩) hS ?r451
              case y451 => intro wq _; go_simp; all_goals (first | (simp only [hk7, jI, ho8, hw0]; done) | (simp [hk7, jI, ho8, hw0]; done) | (simp; omega) | (trace_state; fail))
              try simp only [Act.put, List.setIfInBounds_toArray, List.set_cons_zero, List.set_cons_succ]
              refine wpAnyC_take (i := 31) (v := .bool true) rfl (by kernel_rfl) (fun _ _ _ h => h) (Or.inl ⟨by rfl, ?y452⟩) hS ?r452
              case y452 => intro wq _; go_simp; all_goals (first | (simp only [hk7, jI, ho8, hw0]; done) | (simp [hk7, jI, ho8, hw0]; done) | (simp; omega) | (trace_state; fail))
              try simp only [Act.put, List.setIfInBounds_toArray, List.set_cons_zero, List.set_cons_succ]
              refine wpAnyC_take (i := 32) (v := undef) rfl (by kernel_rfl) (fun _ _ _ h => h) (Or.inr ⟨by rfl, rfl⟩) hS ?r453
              try simp only [Act.put, List.setIfInBounds_toArray, List.set_cons_zero, List.set_cons_succ]
              refine wpAnyC_take (i := 33) (v := undef) rfl (by kernel_rfl) (fun _ _ _ h => h) (Or.inr ⟨by rfl, rfl⟩) hS ?r454
              try simp only [Act.put, List.setIfInBounds_toArray, List.set_cons_zero, List.set_cons_succ]
              refine wpAnyC_take (i := 34) (v := undef) rfl (by kernel_rfl) (fun _ _ _ h => h) (Or.inr ⟨by rfl, rfl⟩) hS ?r455
              try simp only [Act.put, List.setIfInBounds_toArray, List.set_cons_zero, List.set_cons_succ]
              refine wpAnyC_take (i := 35) (v := undef) rfl (by kernel_rfl) (fun _ _ _ h => h) (Or.inr ⟨by rfl, rfl⟩) hS ?r456
              try simp only [Act.put, List.setIfInBounds_toArray, List.set_cons_zero, List.set_cons_succ]
              refine wpAnyC_take (i := 36) (v := undef) rfl (by kernel_rfl) (fun _ _ _ h => h) (Or.inr ⟨by rfl, rfl⟩) hS ?r457
              try simp only [Act.put, List.setIfInBounds_toArray, List.set_cons_zero, List.set_cons_succ]
              refine wpAnyC_take (i := 37) (v := undef) rfl (by kernel_rfl) (fun _ _ _ h => h) (Or.inr ⟨by rfl, rfl⟩) hS ?r458
              try simp only [Act.put, List.setIfInBounds_toArray, List.set_cons_zero, List.set_cons_succ]
              refine wpAnyC_take (i := 38) (v := undef) rfl (by kernel_rfl) (fun _ _ _ h => h) (Or.inr ⟨by rfl, rfl⟩) hS ?r459
              try simp only [Act.put, List.setIfInBounds_toArray, List.set_cons_zero, List.set_cons_succ]
              refine wpAnyC_take (i := 39) (v := undef) rfl (by kernel_rfl) (fun _ _ _ h => h) (Or.inr ⟨by rfl, rfl⟩) hS ?r460
              try simp only [Act.put, List.setIfInBounds_toArray, List.set_cons_zero, List.set_cons_succ]
              refine wpAnyC_take (i := 40) (v := undef) rfl (by kernel_rfl) (fun _ _ _ h => h) (Or.inr ⟨by rfl, rfl⟩) hS ?r461
              try simp only [Act.put, List.setIfInBounds_toArray, List.set_cons_zero, List.set_cons_succ]
              refine wpAnyC_take (i := 41) (v := .bool true) rfl (by kernel_rfl) (fun _ _ _ h => h) (Or.inl ⟨by rfl, ?y462⟩) hS ?r462
              case y462 => intro wq _; go_simp; all_goals (first | (simp only [hk7, jI, ho8, hw0]; done) | (simp [hk7, jI, ho8, hw0]; done) | (simp; omega) | (trace_state; fail))
              try simp only [Act.put, List.setIfInBounds_toArray, List.set_cons_zero, List.set_cons_succ]
              refine wpAnyC_done (by kernel_rfl) ?_ _
              go_wp2_with fail
              go_ret
              exact ⟨ret_b (no_right _ hlt (by rw [HKk.out]; simp [hwb])), HW.out.1.trans (hS.2.2.2.mono HW.out.1.size)⟩
          · have ho8 : decide (g.code ≤ p.code) = true := decide_eq_true (by omega)
            refine wp_region_C (fun v => (v.cell? ⟨w.heap.size, 0, none⟩ = some (.bool wd) ∧ v.cell? ⟨w.heap.size, 1, none⟩ = some (.slice (some ⟨R, o, none⟩) gs.length c) ∧ v.cell? ⟨w.heap.size, 2, none⟩ = some (.int .i64 ot)) ∧ (v.cell? ⟨wr.heap.size, 0, none⟩ = some (.int .i64 g.code) ∧ v.cell? ⟨wr.heap.size, 1, none⟩ = some (.int .i64 g.width) ∧ v.cell? ⟨wr.heap.size, 2, none⟩ = some (.string g.text)) ∧ v.cell? ⟨R, o + j * 3, none⟩ = some (.int .i64 p.code) ∧ Below W.heap.size W v) (by kernel_rfl) ?_
            refine wpAnyC_take (i := 0) (v := ?v463) rfl (by kernel_rfl) (fun _ _ _ h => h) (Or.inl ⟨by rfl, ?y463⟩) hS ?r463
            case y463 => rintro wq ⟨⟨c0, c1, c2⟩, ⟨e0, e1, e2⟩, pp, -⟩; go_simp; try with_reducible rfl
            try simp only [Act.put, List.setIfInBounds_toArray, List.set_cons_zero, List.set_cons_succ]
            refine wpAnyC_take (i := 1) (v := ?v464) rfl (by kernel_rfl) (fun _ _ _ h => h) (Or.inl ⟨by rfl, ?y464⟩) hS ?r464
            case y464 => intro wq _; go_simp; try with_reducible rfl
            try simp only [Act.put, List.setIfInBounds_toArray, List.set_cons_zero, List.set_cons_succ]
            refine wpAnyC_take (i := 2) (v := ?v465) rfl (by kernel_rfl) (fun _ _ _ h => h) (Or.inl ⟨by rfl, ?y465⟩) hS ?r465
            case y465 => rintro wq ⟨⟨c0, c1, c2⟩, ⟨e0, e1, e2⟩, pp, -⟩; go_simp; try with_reducible rfl
            try simp only [Act.put, List.setIfInBounds_toArray, List.set_cons_zero, List.set_cons_succ]
            refine wpAnyC_one (j := 3) (by kernel_rfl) rfl (fun K hK => ?_)
            go_simp
            go_at_call 64
            refine (rcode_any wd (some ⟨R, o, none⟩) gs.length c ot g.code _).mono ?_
            rw [HA.out]
            rintro e v ⟨rfl, kk⟩
            have hbv : Below W.heap.size W v := ((Below.refl W.heap.size W).drew).trans kk
            have hS := HC.out v hbv
            clear kk
            go_wp2_with fail
            refine hK.out _ _ ⟨hS, ?_⟩
            clear hK K
            try simp only [Act.put, List.setIfInBounds_toArray, List.set_cons_zero, List.set_cons_succ]
            refine wpAnyC_take (i := 4) (v := .bool false) rfl (by kernel_rfl) (fun _ _ _ h => h) (Or.inl ⟨by rfl, ?y467⟩) hS ?r467
            case y467 => intro wq _; go_simp; all_goals (first | (simp only [hk7, jI, ho8]; done) | (simp [hk7, jI, ho8]; done) | (simp; omega) | (trace_state; fail))
            try simp only [Act.put, List.setIfInBounds_toArray, List.set_cons_zero, List.set_cons_succ]
            refine wpAnyC_take (i := 5) (v := .bool false) rfl (by kernel_rfl) (fun _ _ _ h => h) (Or.inl ⟨by rfl, ?y468⟩) hS ?r468
            case y468 => intro wq _; go_simp; all_goals (first | (simp only [hk7, jI, ho8]; done) | (simp [hk7, jI, ho8]; done) | (simp; omega) | (trace_state; fail))
            try simp only [Act.put, List.setIfInBounds_toArray, List.set_cons_zero, List.set_cons_succ]
            refine wpAnyC_take (i := 6) (v := ?v469) rfl (by kernel_rfl) (fun _ _ _ h => h) (Or.inl ⟨by rfl, ?y469⟩) hS ?r469
            case y469 => intro wq _; go_simp; try with_reducible rfl
            try simp only [Act.put, List.setIfInBounds_toArray, List.set_cons_zero, List.set_cons_succ]
            refine wpAnyC_take (i := 7) (v := .bool true) rfl (by kernel_rfl) (fun _ _ _ h => h) (Or.inl ⟨by rfl, ?y470⟩) hS ?r470
            case y470 => intro wq _; go_simp; all_goals (first | (simp only [hk7, jI, ho8]; done) | (simp [hk7, jI, ho8]; done) | (simp; omega) | (trace_state; fail))
            try simp only [Act.put, List.setIfInBounds_toArray, List.set_cons_zero, List.set_cons_succ]
            refine wpAnyC_take (i := 8) (v := .bool true) rfl (by kernel_rfl) (fun _ _ _ h => h) (Or.inl ⟨by rfl, ?y471⟩) hS ?r471
            case y471 => intro wq _; go_simp; all_goals (first | (simp only [hk7, jI, ho8]; done) | (simp [hk7, jI, ho8]; done) | (simp; omega) | (trace_state; fail))
            try simp only [Act.put, List.setIfInBounds_toArray, List.set_cons_zero, List.set_cons_succ]
            refine wpAnyC_take (i := 9) (v := ?v472) rfl (by kernel_rfl) (fun _ _ _ h => h) (Or.inl ⟨by rfl, ?y472⟩) hS ?r472
            case y472 => intro wq _; go_simp; try with_reducible rfl
            try simp only [Act.put, List.setIfInBounds_toArray, List.set_cons_zero, List.set_cons_succ]
            refine wpAnyC_take (i := 10) (v := ?v473) rfl (by kernel_rfl) (fun _ _ _ h => h) (Or.inl ⟨by rfl, ?y473⟩) hS ?r473
            case y473 => rintro wq ⟨⟨c0, c1, c2⟩, ⟨e0, e1, e2⟩, pp, -⟩; go_simp; try with_reducible rfl
            try simp only [Act.put, List.setIfInBounds_toArray, List.set_cons_zero, List.set_cons_succ]
            refine wpAnyC_take (i := 11) (v := ?v474) rfl (by kernel_rfl) (fun _ _ _ h => h) (Or.inl ⟨by rfl, ?y474⟩) hS ?r474
            case y474 => intro wq _; go_simp; try with_reducible rfl
            try simp only [Act.put, List.setIfInBounds_toArray, List.set_cons_zero, List.set_cons_succ]
            refine wpAnyC_take (i := 12) (v := .int .i64 (j : Int)) rfl (by kernel_rfl) (fun _ _ _ h => h) (Or.inl ⟨by rfl, ?y475⟩) hS ?r475
            case y475 => intro wq _; go_simp; all_goals (first | (simp only [hk7, jI, ho8]; done) | (simp [hk7, jI, ho8]; done) | (simp; omega) | (trace_state; fail))
            try simp only [Act.put, List.setIfInBounds_toArray, List.set_cons_zero, List.set_cons_succ]
            refine wpAnyC_take (i := 13) (v := .pointer (some ⟨R, o + j * 3, none⟩)) rfl (by kernel_rfl) (fun _ _ _ h => h) (Or.inl ⟨by rfl, ?y476⟩) hS ?r476
            case y476 => intro wq _; go_simp; all_goals (first | (simp only [hk7, jI, ho8]; done) | (simp [hk7, jI, ho8]; done) | (simp; omega) | (trace_state; fail))
            try simp only [Act.put, List.setIfInBounds_toArray, List.set_cons_zero, List.set_cons_succ]
            refine wpAnyC_take (i := 14) (v := ?v477) rfl (by kernel_rfl) (fun _ _ _ h => h) (Or.inl ⟨by rfl, ?y477⟩) hS ?r477
            case y477 => intro wq _; go_simp; try with_reducible rfl
            try simp only [Act.put, List.setIfInBounds_toArray, List.set_cons_zero, List.set_cons_succ]
            refine wpAnyC_take (i := 15) (v := ?v478) rfl (by kernel_rfl) (fun _ _ _ h => h) (Or.inl ⟨by rfl, ?y478⟩) hS ?r478
            case y478 => rintro wq ⟨⟨c0, c1, c2⟩, ⟨e0, e1, e2⟩, pp, -⟩; go_simp; try with_reducible rfl
            try simp only [Act.put, List.setIfInBounds_toArray, List.set_cons_zero, List.set_cons_succ]
            refine wpAnyC_take (i := 16) (v := ?v479) rfl (by kernel_rfl) (fun _ _ _ h => h) (Or.inl ⟨by rfl, ?y479⟩) hS ?r479
            case y479 => intro wq _; go_simp; try with_reducible rfl
            try simp only [Act.put, List.setIfInBounds_toArray, List.set_cons_zero, List.set_cons_succ]
            refine wpAnyC_take (i := 17) (v := ?v480) rfl (by kernel_rfl) (fun _ _ _ h => h) (Or.inl ⟨by rfl, ?y480⟩) hS ?r480
            case y480 => rintro wq ⟨⟨c0, c1, c2⟩, ⟨e0, e1, e2⟩, pp, -⟩; go_simp; try with_reducible rfl
            try simp only [Act.put, List.setIfInBounds_toArray, List.set_cons_zero, List.set_cons_succ]
            refine wpAnyC_take (i := 18) (v := .bool true) rfl (by kernel_rfl) (fun _ _ _ h => h) (Or.inl ⟨by rfl, ?y481⟩) hS ?r481
            case y481 => intro wq _; go_simp; all_goals (first | (simp only [hk7, jI, ho8]; done) | (simp [hk7, jI, ho8]; done) | (simp; omega) | (trace_state; fail))
            try simp only [Act.put, List.setIfInBounds_toArray, List.set_cons_zero, List.set_cons_succ]
            refine wpAnyC_take (i := 19) (v := .bool true) rfl (by kernel_rfl) (fun _ _ _ h => h) (Or.inl ⟨by rfl, ?y482⟩) hS ?r482
            case y482 => intro wq _; go_simp; all_goals (first | (simp only [hk7, jI, ho8]; done) | (simp [hk7, jI, ho8]; done) | (simp; omega) | (trace_state; fail))
            try simp only [Act.put, List.setIfInBounds_toArray, List.set_cons_zero, List.set_cons_succ]
            refine wpAnyC_take (i := 20) (v := .bool true) rfl (by kernel_rfl) (fun _ _ _ h => h) (Or.inl ⟨by rfl, ?y483⟩) hS ?r483
            case y483 => intro wq _; go_simp; all_goals (first | (simp only [hk7, jI, ho8]; done) | (simp [hk7, jI, ho8]; done) | (simp; omega) | (trace_state; fail))
            try simp only [Act.put, List.setIfInBounds_toArray, List.set_cons_zero, List.set_cons_succ]
            refine wpAnyC_take (i := 21) (v := .bool true) rfl (by kernel_rfl) (fun _ _ _ h => h) (Or.inl ⟨by rfl, ?y484⟩) hS ?r484
            case y484 => intro wq _; go_simp; all_goals (first | (simp only [hk7, jI, ho8]; done) | (simp [hk7, jI, ho8]; done) | (simp; omega) | (trace_state; fail))
            try simp only [Act.put, List.setIfInBounds_toArray, List.set_cons_zero, List.set_cons_succ]
            refine wpAnyC_take (i := 22) (v := undef) rfl (by kernel_rfl) (fun _ _ _ h => h) (Or.inr ⟨by rfl, rfl⟩) hS ?r485
            try simp only [Act.put, List.setIfInBounds_toArray, List.set_cons_zero, List.set_cons_succ]
            refine wpAnyC_take (i := 23) (v := undef) rfl (by kernel_rfl) (fun _ _ _ h => h) (Or.inr ⟨by rfl, rfl⟩) hS ?r486
            try simp only [Act.put, List.setIfInBounds_toArray, List.set_cons_zero, List.set_cons_succ]
            refine wpAnyC_take (i := 24) (v := undef) rfl (by kernel_rfl) (fun _ _ _ h => h) (Or.inr ⟨by rfl, rfl⟩) hS ?r487
            try simp only [Act.put, List.setIfInBounds_toArray, List.set_cons_zero, List.set_cons_succ]
            refine wpAnyC_take (i := 25) (v := .bool true) rfl (by kernel_rfl) (fun _ _ _ h => h) (Or.inl ⟨by rfl, ?y488⟩) hS ?r488
            case y488 => intro wq _; go_simp; all_goals (first | (simp only [hk7, jI, ho8]; done) | (simp [hk7, jI, ho8]; done) | (simp; omega) | (trace_state; fail))
            try simp only [Act.put, List.setIfInBounds_toArray, List.set_cons_zero, List.set_cons_succ]
            refine wpAnyC_take (i := 26) (v := .bool true) rfl (by kernel_rfl) (fun _ _ _ h => h) (Or.inl ⟨by rfl, ?y489⟩) hS ?r489
            case y489 => intro wq _; go_simp; all_goals (first | (simp only [hk7, jI, ho8]; done) | (simp [hk7, jI, ho8]; done) | (simp; omega) | (trace_state; fail))
            try simp only [Act.put, List.setIfInBounds_toArray, List.set_cons_zero, List.set_cons_succ]
            refine wpAnyC_take (i := 27) (v := undef) rfl (by kernel_rfl) (fun _ _ _ h => h) (Or.inr ⟨by rfl, rfl⟩) hS ?r490
            try simp only [Act.put, List.setIfInBounds_toArray, List.set_cons_zero, List.set_cons_succ]
            refine wpAnyC_take (i := 28) (v := undef) rfl (by kernel_rfl) (fun _ _ _ h => h) (Or.inr ⟨by rfl, rfl⟩) hS ?r491
            try simp only [Act.put, List.setIfInBounds_toArray, List.set_cons_zero, List.set_cons_succ]
            refine wpAnyC_take (i := 29) (v := undef) rfl (by kernel_rfl) (fun _ _ _ h => h) (Or.inr ⟨by rfl, rfl⟩) hS ?r492
            try simp only [Act.put, List.setIfInBounds_toArray, List.set_cons_zero, List.set_cons_succ]
            refine wpAnyC_take (i := 30) (v := .bool true) rfl (by kernel_rfl) (fun _ _ _ h => h) (Or.inl ⟨by rfl, ?y493⟩) hS ?r493
            case y493 => intro wq _; go_simp; all_goals (first | (simp only [hk7, jI, ho8]; done) | (simp [hk7, jI, ho8]; done) | (simp; omega) | (trace_state; fail))
            try simp only [Act.put, List.setIfInBounds_toArray, List.set_cons_zero, List.set_cons_succ]
            refine wpAnyC_take (i := 31) (v := .bool true) rfl (by kernel_rfl) (fun _ _ _ h => h) (Or.inl ⟨by rfl, ?y494⟩) hS ?r494
            case y494 => intro wq _; go_simp; all_goals (first | (simp only [hk7, jI, ho8]; done) | (simp [hk7, jI, ho8]; done) | (simp; omega) | (trace_state; fail))
            try simp only [Act.put, List.setIfInBounds_toArray, List.set_cons_zero, List.set_cons_succ]
            refine wpAnyC_take (i := 32) (v := undef) rfl (by kernel_rfl) (fun _ _ _ h => h) (Or.inr ⟨by rfl, rfl⟩) hS ?r495
            try simp only [Act.put, List.setIfInBounds_toArray, List.set_cons_zero, List.set_cons_succ]
            refine wpAnyC_take (i := 33) (v := undef) rfl (by kernel_rfl) (fun _ _ _ h => h) (Or.inr ⟨by rfl, rfl⟩) hS ?r496
            try simp only [Act.put, List.setIfInBounds_toArray, List.set_cons_zero, List.set_cons_succ]
            refine wpAnyC_take (i := 34) (v := undef) rfl (by kernel_rfl) (fun _ _ _ h => h) (Or.inr ⟨by rfl, rfl⟩) hS ?r497
            try simp only [Act.put, List.setIfInBounds_toArray, List.set_cons_zero, List.set_cons_succ]
            refine wpAnyC_take (i := 35) (v := undef) rfl (by kernel_rfl) (fun _ _ _ h => h) (Or.inr ⟨by rfl, rfl⟩) hS ?r498
            try simp only [Act.put, List.setIfInBounds_toArray, List.set_cons_zero, List.set_cons_succ]
            refine wpAnyC_take (i := 36) (v := undef) rfl (by kernel_rfl) (fun _ _ _ h => h) (Or.inr ⟨by rfl, rfl⟩) hS ?r499
            try simp only [Act.put, List.setIfInBounds_toArray, List.set_cons_zero, List.set_cons_succ]
            refine wpAnyC_take (i := 37) (v := undef) rfl (by kernel_rfl) (fun _ _ _ h => h) (Or.inr ⟨by rfl, rfl⟩) hS ?r500
            try simp only [Act.put, List.setIfInBounds_toArray, List.set_cons_zero, List.set_cons_succ]
            refine wpAnyC_take (i := 38) (v := undef) rfl (by kernel_rfl) (fun _ _ _ h => h) (Or.inr ⟨by rfl, rfl⟩) hS ?r501
            try simp only [Act.put, List.setIfInBounds_toArray, List.set_cons_zero, List.set_cons_succ]
            refine wpAnyC_take (i := 39) (v := undef) rfl (by kernel_rfl) (fun _ _ _ h => h) (Or.inr ⟨by rfl, rfl⟩) hS ?r502
            try simp only [Act.put, List.setIfInBounds_toArray, List.set_cons_zero, List.set_cons_succ]
            refine wpAnyC_take (i := 40) (v := undef) rfl (by kernel_rfl) (fun _ _ _ h => h) (Or.inr ⟨by rfl, rfl⟩) hS ?r503
            try simp only [Act.put, List.setIfInBounds_toArray, List.set_cons_zero, List.set_cons_succ]
            refine wpAnyC_take (i := 41) (v := .bool true) rfl (by kernel_rfl) (fun _ _ _ h => h) (Or.inl ⟨by rfl, ?y504⟩) hS ?r504
            case y504 => intro wq _; go_simp; all_goals (first | (simp only [hk7, jI, ho8]; done) | (simp [hk7, jI, ho8]; done) | (simp; omega) | (trace_state; fail))
            try simp only [Act.put, List.setIfInBounds_toArray, List.set_cons_zero, List.set_cons_succ]
            refine wpAnyC_done (by kernel_rfl) ?_ _
            go_wp2_with fail
            go_ret
            exact ⟨ret_b (no_right _ hlt (by rw [HKk.out, decide_eq_false (by omega)]; simp)), HW.out.1.trans (hS.2.2.2.mono HW.out.1.size)⟩
    · obtain rfl : k = gs.length := by omega
      have HE := Lib.hid (end_right (ot := ot) HO.out)
      have d1 : decide ((gs.length : Int) < (gs.length : Int)) = false := by simp
      have d2 : decide (gs.length < gs.length) = false := by simp
      by_cases w0 : 0 ≤ ot
      · have x0 : decide (0 ≤ ot) = true := decide_eq_true w0
        by_cases w1 : ot ≤ 10000
        · have x1 : decide (ot ≤ 10000) = true := decide_eq_true w1
          have HWb := Lib.hid (show widthB ot = true from by unfold widthB; exact decide_eq_true ⟨w0, w1⟩)
          go_wp2
          go_ret
          exact ⟨ret_b (by rw [HE.out, HWb.out, Bool.true_and, decide_eq_decide]; omega), HF.out.1⟩
        · have x1 : decide (ot ≤ 10000) = false := decide_eq_false w1
          have HWb := Lib.hid (show widthB ot = false from by unfold widthB; exact decide_eq_false (fun h => w1 h.2))
          go_wp2
          go_ret
          exact ⟨ret_b (by rw [HE.out, HWb.out]; rfl), HF.out.1⟩
      · have x0 : decide (0 ≤ ot) = false := decide_eq_false w0
        have HWb := Lib.hid (show widthB ot = false from by unfold widthB; exact decide_eq_false (fun h => w0 h.1))
        go_wp2
        go_ret
        exact ⟨ret_b (by rw [HE.out, HWb.out]; rfl), HF.out.1⟩
end Go.Proofs.YtdlmhienolmncaaGreat
