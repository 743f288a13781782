/- font's reference: Cut of a right font. Written by gen_fontcb.py. -/
import Derived.Test.YtldhkhaciflmoaaFontCa
namespace Go.Proofs.Ytldhkhaciflmoaa
open Go.RowKit

theorem wpAnyC_two {P : Program} {ops : Array Oper} {Q : Exit → Act → World → Prop} {md : Region.Mode} {C : World → Prop} {i j : Nat} {fuel : Nat} {listed : Array Bool} {a : Act} {w : World} {oi oj : Oper} {ri rj : List Oper} (hr : Region.ready md ops listed = [i, j]) (hi : ops.toList.drop i = oi :: ri) (hj : ops.toList.drop j = oj :: rj)
    (h1 : ∀ K' : Act → World → Prop, Shut (∀ a w, (C w ∧ wpAnyC P md ops Q C fuel (listed.setIfInBounds i true) a w) → K' a w) → if Region.wanted oi (yielded ops a.tmps) = true then Oper.wp P oi a w K' Q else K' (a.put oi.dst undef) w)
    (h2 : ∀ K' : Act → World → Prop, Shut (∀ a w, (C w ∧ wpAnyC P md ops Q C fuel (listed.setIfInBounds j true) a w) → K' a w) → if Region.wanted oj (yielded ops a.tmps) = true then Oper.wp P oj a w K' Q else K' (a.put oj.dst undef) w) :
    wpAnyC P md ops Q C (fuel + 1) listed a w := by
  refine ⟨fun h0 => absurd (hr ▸ h0) (by simp), fun m hm => ?_⟩
  rw [hr] at hm
  rcases List.mem_cons.1 hm with rfl | hm
  · exact wpOp_step (at_of_drop hi) (fun K' hK => h1 K' (fun a w hS => hK a w hS))
  · obtain rfl : m = j := by simpa using hm
    exact wpOp_step (at_of_drop hj) (fun K' hK => h2 K' (fun a w hS => hK a w hS))
/-- A cell of a row of ints that lies at a known place. -/
theorem IntsAt.at_k {w : World} {R o n c k : Nat} {l : List Int} {x : Int} (h : IntsAt w (some ⟨R, o, none⟩) n c l) (hx : l[k]? = some x) : w.cell? ⟨R, o + k, none⟩ = some (.int .i64 x) := by
  have hk := (List.getElem?_eq_some_iff.1 hx).1
  obtain ⟨R', o', e, _, hc⟩ := h.at_ (by have := h.len; omega)
  injection e with e
  injection e with e1 e2
  subst e1 e2
  exact hc k x hx
theorem gl_cells {w : World} {Q : Nat} {g : Gl} (h : Whole w Q 35 #[.int .i64 g.code, .int .i64 g.width, .string g.text]) :
    w.cell? ⟨Q, 0, none⟩ = some (.int .i64 g.code) ∧ w.cell? ⟨Q, 1, none⟩ = some (.int .i64 g.width) ∧ w.cell? ⟨Q, 2, none⟩ = some (.string g.text) := ⟨by rw [Whole.reads h]; rfl, by rw [Whole.reads h]; rfl, by rw [Whole.reads h]; rfl⟩
theorem hit_take {gs : List Gl} {i : Nat} {q : Gl} {x : Int} (h : gs[i]? = some q) : (hitG (gs.take (i + 1)) x).isSome = ((hitG (gs.take i) x).isSome || (q.code == x)) := by
  unfold hitG
  rw [List.take_add_one, h, List.find?_append]
  cases hf : (gs.take i).find? (fun g => g.code == x) with
  | some g => rfl
  | none => cases hq : (q.code == x) <;> simp [hq]
theorem Glyphs.set {w : World} {A : Option Addr} {n c P : Nat} {l : List Gl} (h : Glyphs w A n c l) (hl : ∀ R o, A = some ⟨R, o, none⟩ → P < R) (a : Addr) (ha : a.block < P) (v : Value) : Glyphs (w.setCell a v) A n c l :=
  h.moved (by simp) (fun R o e => Below.heap_setCell w a v R (by have := hl R o e; omega))
set_option maxRecDepth 100000 in
set_option maxHeartbeats 8000000 in
theorem rcut_ok (wd : Bool) (A : Option Addr) (n c : Nat) (ot : Int) (gs : List Gl) (A2 : Option Addr) (n2 c2 : Nat) (keep : List Int) (w : World) (h : Glyphs w A n c gs) (hk : chkB wd ot gs = true) (h2 : IntsAt w A2 n2 c2 keep) (hn : n ≤ 1000000) (hn2 : n2 ≤ 1000000) :
    Calls Try.prog 20 #[.agg #[.bool wd, .slice A n c, .int .i64 ot], .slice A2 n2 c2] w (CutOk wd (cutG wd ot gs keep) w) := by
  have hF := (Whole.made w 24 #[.bool wd, .slice A n c, .int .i64 ot]).old (.cells #[.bool false, .slice none 0 0, .int .i64 0] 24)
  have hR := Whole.made (w.alloc (.cells #[.bool wd, .slice A n c, .int .i64 ot] 24)) 24 #[.bool false, .slice none 0 0, .int .i64 0]
  simp only [World.size_alloc] at hR
  have hB : Below w.heap.size w ((w.alloc (.cells #[.bool wd, .slice A n c, .int .i64 ot] 24)).alloc (.cells #[.bool false, .slice none 0 0, .int .i64 0] 24)) := by (repeat (first | with_reducible exact Below.refl _ _ | with_reducible refine Below.drew ?_ | with_reducible refine bdrewN ?_ _ | (with_reducible refine Below.setCell ?_ ?_ _; rotate_left; focus (first | exact Nat.le_refl _ | omega | (simp; omega) | (simp; done))) | (with_reducible refine Below.alloc ?_ ?_ _; rotate_left; focus (first | exact Nat.le_refl _ | omega | (simp; omega) | (simp; done))) | (with_reducible refine Below.trans ?_ (Below.mono (by assumption) ?_); rotate_left; focus (first | exact Nat.le_refl _ | omega | (simp; omega) | (simp; done)))))
  have H0 := Lib.hid (And.intro hF (And.intro hR hB))
  have hl := h.len
  have hl2 := h2.len
  subst hl hl2
  have hcap := h.cap
  have htop := h.top
  have hcap2 := h2.cap
  have htop2 := h2.top
  have HK := Lib.hid hk
  have HG := Lib.hid h
  have HI := Lib.hid h2
  clear h h2 hk hF hR hB
  go_enter Try.func20, Try.ntmps20
  go_wp2_with fail
  refine (rright_any wd A gs.length c ot gs _ (HG.out.below H0.out.2.2) hn).mono ?_
  rw [HK.out]
  rintro e w1 ⟨rfl, hb⟩
  have H1 := Lib.hid (And.intro (H0.out.1.here hb) (And.intro (H0.out.2.1.here hb) (H0.out.2.2.trans (hb.mono H0.out.2.2.size))))
  have cf := (H0.out.1.here hb).reads
  have lF := (H0.out.1.here hb).lt
  clear hb H0
  go_wp2_with fail
  have hst : RcSt w (w1.alloc (.cells #[.bool wd, .slice none 0 0, .int .i64 0] 24)) w1.heap.size wd A gs.length c ot (cutG wd ot gs (keep.take 0)) := by
    rw [List.take_zero, cutG_none]
    exact ⟨H1.out.1.old _, H1.out.2.1.old _, ⟨none, 0, Whole.made _ _ _, glyphs_nil _, fun R o e => by cases e⟩, H1.out.2.2.alloc H1.out.2.2.size _, H1.out.2.1.lt⟩
  have HS0 := Lib.hid hst
  clear hst H1 cf lF
  obtain ⟨P, hP⟩ : ∃ P, w1.heap.size = P := ⟨_, rfl⟩
  rw [hP] at HS0
  try rw [hP]
  clear hP
  go_loopw [7] (fun s7 wx => ∃ k : Nat, k ≤ keep.length ∧ s7 = .int .i64 k ∧ Hid (RcSt w wx P wd A gs.length c ot (cutG wd ot gs (keep.take k)))) (fun s7 _ => keep.length - (intOf s7).toNat)
  case atStart => exact ⟨0, by omega, rfl, HS0⟩
  case round =>
    clear HS0
    obtain ⟨k, hk, rfl, hS0⟩ := hrel
    by_cases hlt : k < keep.length
    · obtain ⟨x, hx⟩ : ∃ x, keep[k]? = some x := ⟨_, List.getElem?_eq_getElem hlt⟩
      obtain ⟨R, o, rfl, hR0, -⟩ := HI.out.at_ (by omega)
      have d1 : decide ((k : Int) < (keep.length : Int)) = true := by simp; omega
      have d2 : decide (k < keep.length) = true := by simp; omega
      have HX := Lib.hid hx
      have HT := Lib.hid (show keep.take (k + 1) = keep.take k ++ [x] by rw [List.take_add_one, hx]; rfl)
      have hx0 := hx
      clear hx
      go_wp2_with fail
      have HC : Hid (∀ v, Below wr.heap.size wr v → (fun v => (v.cell? ⟨w.heap.size, 0, none⟩ = some (.bool wd) ∧ v.cell? ⟨w.heap.size, 1, none⟩ = some (.slice A gs.length c) ∧ v.cell? ⟨w.heap.size, 2, none⟩ = some (.int .i64 ot)) ∧ v.cell? ⟨R, o + k, none⟩ = some (.int .i64 x) ∧ Below wr.heap.size wr v) v) := Lib.hid (fun v hb => ⟨(hS0.out.later hb).f.cells, ((HI.out.below (hS0.out.later hb).below).at_k hx0), hb⟩)
      have hS := HC.out wr.drew ((Below.refl wr.heap.size wr).drew)
      clear hx0
      cases hcb : codeB wd x
      · have HCB := Lib.hid hcb
        clear hcb
        refine wp_region_C (fun v => (v.cell? ⟨w.heap.size, 0, none⟩ = some (.bool wd) ∧ v.cell? ⟨w.heap.size, 1, none⟩ = some (.slice A gs.length c) ∧ v.cell? ⟨w.heap.size, 2, none⟩ = some (.int .i64 ot)) ∧ v.cell? ⟨R, o + k, none⟩ = some (.int .i64 x) ∧ Below wr.heap.size wr v) (by kernel_rfl) ?_
        refine wpAnyC_take (i := 0) (v := ?v1) rfl (by kernel_rfl) (fun _ _ _ h => h) (Or.inl ⟨by rfl, ?y1⟩) hS ?r1
        case y1 => rintro wq ⟨⟨c0, c1, c2⟩, ck, -⟩; go_simp; try with_reducible rfl
        try simp only [Act.put, List.setIfInBounds_toArray, List.set_cons_zero, List.set_cons_succ]
        refine wpAnyC_take (i := 1) (v := ?v2) rfl (by kernel_rfl) (fun _ _ _ h => h) (Or.inl ⟨by rfl, ?y2⟩) hS ?r2
        case y2 => intro wq _; go_simp; all_goals (first | with_reducible rfl | (simp only []; done) | (simp []; done) | (simp; omega) | skip)
        try simp only [Act.put, List.setIfInBounds_toArray, List.set_cons_zero, List.set_cons_succ]
        refine wpAnyC_take (i := 2) (v := ?v3) rfl (by kernel_rfl) (fun _ _ _ h => h) (Or.inl ⟨by rfl, ?y3⟩) hS ?r3
        case y3 => intro wq _; go_simp; all_goals (first | with_reducible rfl | (simp only []; done) | (simp []; done) | (simp; omega) | skip)
        try simp only [Act.put, List.setIfInBounds_toArray, List.set_cons_zero, List.set_cons_succ]
        refine wpAnyC_take (i := 3) (v := .pointer (some ⟨R, o + k, none⟩)) rfl (by kernel_rfl) (fun _ _ _ h => h) (Or.inl ⟨by rfl, ?y4⟩) hS ?r4
        case y4 => intro wq _; go_simp; all_goals (first | with_reducible rfl | (simp only []; done) | (simp []; done) | (simp; omega) | skip)
        try simp only [Act.put, List.setIfInBounds_toArray, List.set_cons_zero, List.set_cons_succ]
        refine wpAnyC_take (i := 4) (v := ?v5) rfl (by kernel_rfl) (fun _ _ _ h => h) (Or.inl ⟨by rfl, ?y5⟩) hS ?r5
        case y5 => rintro wq ⟨⟨c0, c1, c2⟩, ck, -⟩; go_simp; try with_reducible rfl
        try simp only [Act.put, List.setIfInBounds_toArray, List.set_cons_zero, List.set_cons_succ]
        refine wpAnyC_one (j := 5) (by kernel_rfl) rfl (fun K hK => ?_)
        go_simp
        go_at_call 31
        refine (rcode_any wd A gs.length c ot x _).mono ?_
        rw [HCB.out]
        rintro e V ⟨rfl, kk⟩
        have hbv : Below wr.heap.size wr V := ((Below.refl wr.heap.size wr).drew).trans kk
        have hS := HC.out V hbv
        clear kk
        go_wp2_with fail
        refine hK.out _ _ ⟨hS, ?_⟩
        clear hK K
        try simp only [Act.put, List.setIfInBounds_toArray, List.set_cons_zero, List.set_cons_succ]
        refine wpAnyC_take (i := 6) (v := .bool true) rfl (by kernel_rfl) (fun _ _ _ h => h) (Or.inl ⟨by rfl, ?y6⟩) hS ?r6
        case y6 => intro wq _; go_simp; all_goals (first | with_reducible rfl | (simp only []; done) | (simp []; done) | (simp; omega) | skip)
        try simp only [Act.put, List.setIfInBounds_toArray, List.set_cons_zero, List.set_cons_succ]
        refine wpAnyC_done (by kernel_rfl) ?_ _
        go_wp2_with fail
        go_roundw
        case rel => exact ⟨k + 1, by omega, by go_num, Lib.hid (by rw [HT.out, cut_add_none (pick_bad HK.out HCB.out)]; exact hS0.out.later hS.2.2)⟩
        case measure => simp [intOf]; omega
      · have HCB := Lib.hid hcb
        clear hcb
        refine wp_region_C (fun v => (v.cell? ⟨w.heap.size, 0, none⟩ = some (.bool wd) ∧ v.cell? ⟨w.heap.size, 1, none⟩ = some (.slice A gs.length c) ∧ v.cell? ⟨w.heap.size, 2, none⟩ = some (.int .i64 ot)) ∧ v.cell? ⟨R, o + k, none⟩ = some (.int .i64 x) ∧ Below wr.heap.size wr v) (by kernel_rfl) ?_
        refine wpAnyC_take (i := 0) (v := ?v7) rfl (by kernel_rfl) (fun _ _ _ h => h) (Or.inl ⟨by rfl, ?y7⟩) hS ?r7
        case y7 => rintro wq ⟨⟨c0, c1, c2⟩, ck, -⟩; go_simp; try with_reducible rfl
        try simp only [Act.put, List.setIfInBounds_toArray, List.set_cons_zero, List.set_cons_succ]
        refine wpAnyC_take (i := 1) (v := ?v8) rfl (by kernel_rfl) (fun _ _ _ h => h) (Or.inl ⟨by rfl, ?y8⟩) hS ?r8
        case y8 => intro wq _; go_simp; all_goals (first | with_reducible rfl | (simp only []; done) | (simp []; done) | (simp; omega) | skip)
        try simp only [Act.put, List.setIfInBounds_toArray, List.set_cons_zero, List.set_cons_succ]
        refine wpAnyC_take (i := 2) (v := ?v9) rfl (by kernel_rfl) (fun _ _ _ h => h) (Or.inl ⟨by rfl, ?y9⟩) hS ?r9
        case y9 => intro wq _; go_simp; all_goals (first | with_reducible rfl | (simp only []; done) | (simp []; done) | (simp; omega) | skip)
        try simp only [Act.put, List.setIfInBounds_toArray, List.set_cons_zero, List.set_cons_succ]
        refine wpAnyC_take (i := 3) (v := .pointer (some ⟨R, o + k, none⟩)) rfl (by kernel_rfl) (fun _ _ _ h => h) (Or.inl ⟨by rfl, ?y10⟩) hS ?r10
        case y10 => intro wq _; go_simp; all_goals (first | with_reducible rfl | (simp only []; done) | (simp []; done) | (simp; omega) | skip)
        try simp only [Act.put, List.setIfInBounds_toArray, List.set_cons_zero, List.set_cons_succ]
        refine wpAnyC_take (i := 4) (v := ?v11) rfl (by kernel_rfl) (fun _ _ _ h => h) (Or.inl ⟨by rfl, ?y11⟩) hS ?r11
        case y11 => rintro wq ⟨⟨c0, c1, c2⟩, ck, -⟩; go_simp; try with_reducible rfl
        try simp only [Act.put, List.setIfInBounds_toArray, List.set_cons_zero, List.set_cons_succ]
        refine wpAnyC_one (j := 5) (by kernel_rfl) rfl (fun K hK => ?_)
        go_simp
        go_at_call 31
        refine (rcode_any wd A gs.length c ot x _).mono ?_
        rw [HCB.out]
        rintro e V ⟨rfl, kk⟩
        have hbv : Below wr.heap.size wr V := ((Below.refl wr.heap.size wr).drew).trans kk
        have hS := HC.out V hbv
        clear kk
        go_wp2_with fail
        refine hK.out _ _ ⟨hS, ?_⟩
        clear hK K
        try simp only [Act.put, List.setIfInBounds_toArray, List.set_cons_zero, List.set_cons_succ]
        refine wpAnyC_take (i := 6) (v := .bool false) rfl (by kernel_rfl) (fun _ _ _ h => h) (Or.inl ⟨by rfl, ?y12⟩) hS ?r12
        case y12 => intro wq _; go_simp; all_goals (first | with_reducible rfl | (simp only []; done) | (simp []; done) | (simp; omega) | skip)
        try simp only [Act.put, List.setIfInBounds_toArray, List.set_cons_zero, List.set_cons_succ]
        refine wpAnyC_done (by kernel_rfl) ?_ _
        go_wp2_with fail
        have hS1 := Lib.hid (hS0.out.later hS.2.2)
        clear HC hS hS0
        have hx0 := HX.out
        have HC : Hid (∀ v, Below V.heap.size V v → (fun v => (v.cell? ⟨w.heap.size, 0, none⟩ = some (.bool wd) ∧ v.cell? ⟨w.heap.size, 1, none⟩ = some (.slice A gs.length c) ∧ v.cell? ⟨w.heap.size, 2, none⟩ = some (.int .i64 ot)) ∧ v.cell? ⟨R, o + k, none⟩ = some (.int .i64 x) ∧ Below V.heap.size V v) v) := Lib.hid (fun v hb => ⟨(hS1.out.later hb).f.cells, ((HI.out.below (hS1.out.later hb).below).at_k hx0), hb⟩)
        have hS := HC.out V.drew ((Below.refl V.heap.size V).drew)
        clear hx0
        obtain ⟨g, hg⟩ : ∃ g, findG ot gs x = g := ⟨_, rfl⟩
        have HGC := Lib.hid (show g.code = x by rw [← hg]; exact find_code gs ot x)
        have hgt : g.text.size ≤ 9223372036854775807 := by rw [← hg]; exact findG_text HG.out.text
        have HF := Lib.hid hg
        clear hg
        refine wp_region_C (fun v => (v.cell? ⟨w.heap.size, 0, none⟩ = some (.bool wd) ∧ v.cell? ⟨w.heap.size, 1, none⟩ = some (.slice A gs.length c) ∧ v.cell? ⟨w.heap.size, 2, none⟩ = some (.int .i64 ot)) ∧ v.cell? ⟨R, o + k, none⟩ = some (.int .i64 x) ∧ Below V.heap.size V v) (by kernel_rfl) ?_
        refine wpAnyC_take (i := 0) (v := ?v13) rfl (by kernel_rfl) (fun _ _ _ h => h) (Or.inl ⟨by rfl, ?y13⟩) hS ?r13
        case y13 => rintro wq ⟨⟨c0, c1, c2⟩, ck, -⟩; go_simp; try with_reducible rfl
        try simp only [Act.put, List.setIfInBounds_toArray, List.set_cons_zero, List.set_cons_succ]
        refine wpAnyC_take (i := 1) (v := ?v14) rfl (by kernel_rfl) (fun _ _ _ h => h) (Or.inl ⟨by rfl, ?y14⟩) hS ?r14
        case y14 => intro wq _; go_simp; all_goals (first | with_reducible rfl | (simp only []; done) | (simp []; done) | (simp; omega) | skip)
        try simp only [Act.put, List.setIfInBounds_toArray, List.set_cons_zero, List.set_cons_succ]
        refine wpAnyC_take (i := 2) (v := ?v15) rfl (by kernel_rfl) (fun _ _ _ h => h) (Or.inl ⟨by rfl, ?y15⟩) hS ?r15
        case y15 => intro wq _; go_simp; all_goals (first | with_reducible rfl | (simp only []; done) | (simp []; done) | (simp; omega) | skip)
        try simp only [Act.put, List.setIfInBounds_toArray, List.set_cons_zero, List.set_cons_succ]
        refine wpAnyC_take (i := 3) (v := .pointer (some ⟨R, o + k, none⟩)) rfl (by kernel_rfl) (fun _ _ _ h => h) (Or.inl ⟨by rfl, ?y16⟩) hS ?r16
        case y16 => intro wq _; go_simp; all_goals (first | with_reducible rfl | (simp only []; done) | (simp []; done) | (simp; omega) | skip)
        try simp only [Act.put, List.setIfInBounds_toArray, List.set_cons_zero, List.set_cons_succ]
        refine wpAnyC_take (i := 4) (v := ?v17) rfl (by kernel_rfl) (fun _ _ _ h => h) (Or.inl ⟨by rfl, ?y17⟩) hS ?r17
        case y17 => rintro wq ⟨⟨c0, c1, c2⟩, ck, -⟩; go_simp; try with_reducible rfl
        try simp only [Act.put, List.setIfInBounds_toArray, List.set_cons_zero, List.set_cons_succ]
        refine wpAnyC_two (i := 5) (j := 6) (by kernel_rfl) rfl rfl (fun K hK => ?_) (fun K hK => ?_)
        · go_simp
          go_at_call 17
          refine (rfind_any wd A gs.length c ot gs x _ (HG.out.below (hS1.out.later (((Below.refl V.heap.size V).drew))).below) hn).mono ?_
          rw [HF.out]
          rintro e v2 ⟨rfl, kk⟩
          have hb2 : Below V.heap.size V v2 := (((Below.refl V.heap.size V).drew)).trans (kk.mono (((Below.refl V.heap.size V).drew)).size)
          clear kk
          have hS := HC.out v2 hb2
          go_wp2_with fail
          refine hK.out _ _ ⟨hS, ?_⟩
          clear hK K
          try simp only [Act.put, List.setIfInBounds_toArray, List.set_cons_zero, List.set_cons_succ]
          refine wpAnyC_one (j := 6) (by kernel_rfl) rfl (fun K hK => ?_)
          go_simp
          refine hK.out _ _ ⟨HC.out _ (hb2.alloc hb2.size _), ?_⟩
          clear hK K
          try simp only [Act.put, List.setIfInBounds_toArray, List.set_cons_zero, List.set_cons_succ]
          refine wpAnyC_one (j := 7) (by kernel_rfl) rfl (fun K hK => ?_)
          go_simp
          refine hK.out _ _ ⟨HC.out _ (hb2.alloc hb2.size (.cells #[.int .i64 g.code, .int .i64 g.width, .string g.text] 35)), ?_⟩
          clear hK K
          try simp only [Act.put, List.setIfInBounds_toArray, List.set_cons_zero, List.set_cons_succ]
          have HY := Lib.hid (And.intro (hS1.out.later (hb2.alloc hb2.size (.cells #[.int .i64 g.code, .int .i64 g.width, .string g.text] 35))) (Whole.made v2 35 #[.int .i64 g.code, .int .i64 g.width, .string g.text]))
          clear HC hS hb2
          generalize v2.alloc (.cells #[.int .i64 g.code, .int .i64 g.width, .string g.text] 35) = Y at *
          refine wpAnyC_done (by kernel_rfl) ?_ _
          generalize v2.heap.size = Q at *
          clear hS1
          have hG : Whole Y Q 35 #[.int .i64 g.code, .int .i64 g.width, .string g.text] := HY.out.2
          obtain ⟨f0, f1, f2⟩ := HY.out.1.f.cells
          have g0 : Y.cell? ⟨Q, 0, none⟩ = some (.int .i64 g.code) := hG.reads 0
          have lF := Whole.lt HY.out.1.f
          have lQ := hG.lt
          go_wp2_with fail
          clear f0 f1 f2 g0 lF lQ hG
          go_loopw [9, 10] (fun s9 s10 wx => ∃ i : Nat, i ≤ gs.length ∧ s10 = .int .i64 i ∧ s9 = .bool (decide (0 < ot) || (hitG (gs.take i) x).isSome) ∧ Hid (RcSt w wx P wd A gs.length c ot (cutG wd ot gs (keep.take k)) ∧ Whole wx Q 35 #[.int .i64 g.code, .int .i64 g.width, .string g.text])) (fun _ s10 _ => gs.length - (intOf s10).toNat)
          case atStart => exact ⟨0, by omega, rfl, by rw [List.take_zero]; show _ = Value.bool (_ || false); rw [Bool.or_false], HY⟩
          case round =>
            clear HY
            obtain ⟨i, hi, rfl, rfl, hJ⟩ := hrel
            obtain ⟨f0, f1, f2⟩ := hJ.out.1.f.cells
            have lF := Whole.lt hJ.out.1.f
            obtain ⟨g0, g1, g2⟩ := gl_cells hJ.out.2
            have lQ := hJ.out.2.lt
            by_cases hli : i < gs.length
            · obtain ⟨q, hq⟩ : ∃ q, gs[i]? = some q := ⟨_, List.getElem?_eq_getElem hli⟩
              obtain ⟨R3, o3, rfl, hR3, hc3⟩ := (HG.out.below hJ.out.1.below).at_ (by omega)
              obtain ⟨q0, -, -⟩ := hc3 i q hq
              have HH := Lib.hid (hit_take hq (x := x))
              have d3 : decide ((i : Int) < (gs.length : Int)) = true := by simp; omega
              have d4 : decide (i < gs.length) = true := by simp; omega
              clear hq hc3
              obtain ⟨b, hb⟩ : ∃ b, (decide (0 < ot) || (hitG (gs.take i) x).isSome) = b := ⟨_, rfl⟩
              rw [hb]
              have HBb := Lib.hid hb
              clear hb
              cases b with
              | true =>
                go_wp2_with fail
                go_quiet (fail)
                go_wp2_with fail
                go_roundw
                case rel => exact ⟨i + 1, by omega, by go_num, by rw [HH.out, ← Bool.or_assoc, HBb.out, Bool.true_or], Lib.hid ⟨hJ.out.1.later (below_drewN (Below.refl _ _) _), Whole.drawn hJ.out.2 _⟩⟩
                case measure => simp [intOf]; omega
              | false =>
                by_cases he : q.code = g.code
                · have d5 : (q.code == g.code) = true := by simp; omega
                  have HE := Lib.hid (show (q.code == x) = true by rw [← HGC.out]; exact d5)
                  go_wp2_with fail
                  go_quiet (fail)
                  go_wp2_with fail
                  go_roundw
                  case rel => exact ⟨i + 1, by omega, by go_num, by rw [HH.out, ← Bool.or_assoc, HBb.out, HE.out]; rfl, Lib.hid ⟨hJ.out.1.later (below_drewN (Below.refl _ _) _), Whole.drawn hJ.out.2 _⟩⟩
                  case measure => simp [intOf]; omega
                · have d5 : (q.code == g.code) = false := by simp; omega
                  have HE := Lib.hid (show (q.code == x) = false by rw [← HGC.out]; exact d5)
                  go_wp2_with fail
                  go_quiet (fail)
                  go_wp2_with fail
                  go_roundw
                  case rel => exact ⟨i + 1, by omega, by go_num, by rw [HH.out, ← Bool.or_assoc, HBb.out, HE.out]; rfl, Lib.hid ⟨hJ.out.1.later (below_drewN (Below.refl _ _) _), Whole.drawn hJ.out.2 _⟩⟩
                  case measure => simp [intOf]; omega
            · obtain rfl : i = gs.length := by omega
              have d3 : decide ((gs.length : Int) < (gs.length : Int)) = false := by simp
              have d4 : decide (gs.length < gs.length) = false := by simp
              rw [List.take_length]
              obtain ⟨b, hb⟩ : ∃ b, (decide (0 < ot) || (hitG gs x).isSome) = b := ⟨_, rfl⟩
              rw [hb]
              have HBb := Lib.hid hb
              clear hb
              obtain ⟨A', c', hP, hGl, -⟩ := hJ.out.1.o
              have hLn : (cutG wd ot gs (keep.take k)).length ≤ 1000000 := by have := cut_len (wd := wd) (ot := ot) (gs := gs) (keep := keep.take k); simp at this; omega
              have HL := Lib.hid (And.intro hGl (And.intro hLn hP))
              obtain ⟨p0, p1, p2⟩ := FB.cells hP
              have lP := hP.lt
              clear hGl hLn hP
              go_wp2_with fail
              refine (insert_any A' _ c' _ g _ HL.out.1 HL.out.2.1 hgt).mono ?_
              rintro e v3 ⟨hb3, h3⟩
              have hst := Lib.hid (hJ.out.1.later hb3)
              rw [HGC.out] at h3
              cases hh : (hitG (cutG wd ot gs (keep.take k)) x).isSome with
              | true =>
                have HHh := Lib.hid hh
                rw [hh, if_pos rfl] at h3
                subst h3
                clear hh hb3
                cases b
                all_goals
                  go_wp2_with fail
                  go_roundw
                  case rel => exact ⟨k + 1, by omega, by go_num, Lib.hid (by rw [HT.out, cut_ref_step HCB.out, HHh.out, if_neg (by simp)]; exact hst.out)⟩
                  case measure => simp [intOf]; omega
              | false =>
                have HHh := Lib.hid hh
                rw [hh, if_neg (by simp)] at h3
                obtain ⟨A3, c3, rfl, hg3, hl3⟩ := h3
                have H3 := Lib.hid (And.intro hg3 (And.intro hl3 hb3))
                have hP3 := HL.out.2.2.here hb3
                have rd3 := hP3.reads
                have ft3 := hP3.thawed
                have lP3 := hP3.lt
                clear hh hb3 hg3 hl3 hP3 p0 p1 p2 lP g0 g1 g2 f0 f1 f2 lF lQ
                cases b with
                | false =>
                  go_wp2_with fail
                  go_roundw
                  case rel => exact ⟨k + 1, by omega, by go_num, Lib.hid (by rw [HT.out, cut_ref_step HCB.out, HBb.out, if_neg (by simp)]; exact hst.out)⟩
                  case measure => simp [intOf]; omega
                | true =>
                  go_wp2_with fail
                  go_roundw
                  case rel => exact ⟨k + 1, by omega, by go_num, Lib.hid (by rw [HT.out, cut_ref_step HCB.out, HBb.out, HHh.out, if_pos (show (true && !false) = true from rfl), HF.out]; exact hJ.out.1.put H3.out.2.2 H3.out.1 H3.out.2.1)⟩
                  case measure => simp [intOf]; omega
        · go_simp
          have hb1 : Below V.heap.size V (V.alloc (.cells #[.int .i64 0, .int .i64 0, .string ⟨#[]⟩] 35)).drew := ((Below.refl V.heap.size V).alloc (Nat.le_refl _) _).drew
          have hZ := (Whole.made V 35 #[.int .i64 0, .int .i64 0, .string ⟨#[]⟩]).drawn1
          refine hK.out _ _ ⟨HC.out _ hb1, ?_⟩
          clear hK K
          try simp only [Act.put, List.setIfInBounds_toArray, List.set_cons_zero, List.set_cons_succ]
          refine wpAnyC_one (j := 5) (by kernel_rfl) rfl (fun K hK => ?_)
          go_simp
          go_at_call 17
          refine (rfind_any wd A gs.length c ot gs x _ (HG.out.below (hS1.out.later (hb1)).below) hn).mono ?_
          rw [HF.out]
          rintro e v2 ⟨rfl, kk⟩
          have hZ := hZ.here kk
          have rdZ := hZ.reads
          have ftZ := hZ.thawed
          have lZ := hZ.lt
          have hb2 : Below V.heap.size V v2 := (hb1).trans (kk.mono (hb1).size)
          clear kk
          have hS := HC.out v2 hb2
          go_wp2_with fail
          refine hK.out _ _ ⟨hS, ?_⟩
          clear hK K
          try simp only [Act.put, List.setIfInBounds_toArray, List.set_cons_zero, List.set_cons_succ]
          refine wpAnyC_one (j := 7) (by kernel_rfl) rfl (fun K hK => ?_)
          go_simp
          refine hK.out _ _ ⟨HC.out _ (((hb2.setCell (p := ⟨V.heap.size, 0, none⟩) (Nat.le_refl _) (.int .i64 g.code)).setCell (p := ⟨V.heap.size, 1, none⟩) (Nat.le_refl _) (.int .i64 g.width)).setCell (p := ⟨V.heap.size, 2, none⟩) (Nat.le_refl _) (.string g.text)), ?_⟩
          clear hK K
          try simp only [Act.put, List.setIfInBounds_toArray, List.set_cons_zero, List.set_cons_succ]
          have HY := Lib.hid (And.intro (hS1.out.later (((hb2.setCell (p := ⟨V.heap.size, 0, none⟩) (Nat.le_refl _) (.int .i64 g.code)).setCell (p := ⟨V.heap.size, 1, none⟩) (Nat.le_refl _) (.int .i64 g.width)).setCell (p := ⟨V.heap.size, 2, none⟩) (Nat.le_refl _) (.string g.text))) (((hZ.set 0 (.int .i64 g.code)).set 1 (.int .i64 g.width)).set 2 (.string g.text)))
          clear HC hS hb2
          generalize ((v2.setCell ⟨V.heap.size, 0, none⟩ (.int .i64 g.code)).setCell ⟨V.heap.size, 1, none⟩ (.int .i64 g.width)).setCell ⟨V.heap.size, 2, none⟩ (.string g.text) = Y at *
          refine wpAnyC_done (by kernel_rfl) ?_ _
          clear hZ rdZ ftZ lZ hb1
          generalize V.heap.size = Q at *
          clear hS1
          have hG : Whole Y Q 35 #[.int .i64 g.code, .int .i64 g.width, .string g.text] := HY.out.2
          obtain ⟨f0, f1, f2⟩ := HY.out.1.f.cells
          have g0 : Y.cell? ⟨Q, 0, none⟩ = some (.int .i64 g.code) := hG.reads 0
          have lF := Whole.lt HY.out.1.f
          have lQ := hG.lt
          go_wp2_with fail
          clear f0 f1 f2 g0 lF lQ hG
          go_loopw [9, 10] (fun s9 s10 wx => ∃ i : Nat, i ≤ gs.length ∧ s10 = .int .i64 i ∧ s9 = .bool (decide (0 < ot) || (hitG (gs.take i) x).isSome) ∧ Hid (RcSt w wx P wd A gs.length c ot (cutG wd ot gs (keep.take k)) ∧ Whole wx Q 35 #[.int .i64 g.code, .int .i64 g.width, .string g.text])) (fun _ s10 _ => gs.length - (intOf s10).toNat)
          case atStart => exact ⟨0, by omega, rfl, by rw [List.take_zero]; show _ = Value.bool (_ || false); rw [Bool.or_false], HY⟩
          case round =>
            clear HY
            obtain ⟨i, hi, rfl, rfl, hJ⟩ := hrel
            obtain ⟨f0, f1, f2⟩ := hJ.out.1.f.cells
            have lF := Whole.lt hJ.out.1.f
            obtain ⟨g0, g1, g2⟩ := gl_cells hJ.out.2
            have lQ := hJ.out.2.lt
            by_cases hli : i < gs.length
            · obtain ⟨q, hq⟩ : ∃ q, gs[i]? = some q := ⟨_, List.getElem?_eq_getElem hli⟩
              obtain ⟨R3, o3, rfl, hR3, hc3⟩ := (HG.out.below hJ.out.1.below).at_ (by omega)
              obtain ⟨q0, -, -⟩ := hc3 i q hq
              have HH := Lib.hid (hit_take hq (x := x))
              have d3 : decide ((i : Int) < (gs.length : Int)) = true := by simp; omega
              have d4 : decide (i < gs.length) = true := by simp; omega
              clear hq hc3
              obtain ⟨b, hb⟩ : ∃ b, (decide (0 < ot) || (hitG (gs.take i) x).isSome) = b := ⟨_, rfl⟩
              rw [hb]
              have HBb := Lib.hid hb
              clear hb
              cases b with
              | true =>
                go_wp2_with fail
                go_quiet (fail)
                go_wp2_with fail
                go_roundw
                case rel => exact ⟨i + 1, by omega, by go_num, by rw [HH.out, ← Bool.or_assoc, HBb.out, Bool.true_or], Lib.hid ⟨hJ.out.1.later (below_drewN (Below.refl _ _) _), Whole.drawn hJ.out.2 _⟩⟩
                case measure => simp [intOf]; omega
              | false =>
                by_cases he : q.code = g.code
                · have d5 : (q.code == g.code) = true := by simp; omega
                  have HE := Lib.hid (show (q.code == x) = true by rw [← HGC.out]; exact d5)
                  go_wp2_with fail
                  go_quiet (fail)
                  go_wp2_with fail
                  go_roundw
                  case rel => exact ⟨i + 1, by omega, by go_num, by rw [HH.out, ← Bool.or_assoc, HBb.out, HE.out]; rfl, Lib.hid ⟨hJ.out.1.later (below_drewN (Below.refl _ _) _), Whole.drawn hJ.out.2 _⟩⟩
                  case measure => simp [intOf]; omega
                · have d5 : (q.code == g.code) = false := by simp; omega
                  have HE := Lib.hid (show (q.code == x) = false by rw [← HGC.out]; exact d5)
                  go_wp2_with fail
                  go_quiet (fail)
                  go_wp2_with fail
                  go_roundw
                  case rel => exact ⟨i + 1, by omega, by go_num, by rw [HH.out, ← Bool.or_assoc, HBb.out, HE.out]; rfl, Lib.hid ⟨hJ.out.1.later (below_drewN (Below.refl _ _) _), Whole.drawn hJ.out.2 _⟩⟩
                  case measure => simp [intOf]; omega
            · obtain rfl : i = gs.length := by omega
              have d3 : decide ((gs.length : Int) < (gs.length : Int)) = false := by simp
              have d4 : decide (gs.length < gs.length) = false := by simp
              rw [List.take_length]
              obtain ⟨b, hb⟩ : ∃ b, (decide (0 < ot) || (hitG gs x).isSome) = b := ⟨_, rfl⟩
              rw [hb]
              have HBb := Lib.hid hb
              clear hb
              obtain ⟨A', c', hP, hGl, -⟩ := hJ.out.1.o
              have hLn : (cutG wd ot gs (keep.take k)).length ≤ 1000000 := by have := cut_len (wd := wd) (ot := ot) (gs := gs) (keep := keep.take k); simp at this; omega
              have HL := Lib.hid (And.intro hGl (And.intro hLn hP))
              obtain ⟨p0, p1, p2⟩ := FB.cells hP
              have lP := hP.lt
              clear hGl hLn hP
              go_wp2_with fail
              refine (insert_any A' _ c' _ g _ HL.out.1 HL.out.2.1 hgt).mono ?_
              rintro e v3 ⟨hb3, h3⟩
              have hst := Lib.hid (hJ.out.1.later hb3)
              rw [HGC.out] at h3
              cases hh : (hitG (cutG wd ot gs (keep.take k)) x).isSome with
              | true =>
                have HHh := Lib.hid hh
                rw [hh, if_pos rfl] at h3
                subst h3
                clear hh hb3
                cases b
                all_goals
                  go_wp2_with fail
                  go_roundw
                  case rel => exact ⟨k + 1, by omega, by go_num, Lib.hid (by rw [HT.out, cut_ref_step HCB.out, HHh.out, if_neg (by simp)]; exact hst.out)⟩
                  case measure => simp [intOf]; omega
              | false =>
                have HHh := Lib.hid hh
                rw [hh, if_neg (by simp)] at h3
                obtain ⟨A3, c3, rfl, hg3, hl3⟩ := h3
                have H3 := Lib.hid (And.intro hg3 (And.intro hl3 hb3))
                have hP3 := HL.out.2.2.here hb3
                have rd3 := hP3.reads
                have ft3 := hP3.thawed
                have lP3 := hP3.lt
                clear hh hb3 hg3 hl3 hP3 p0 p1 p2 lP g0 g1 g2 f0 f1 f2 lF lQ
                cases b with
                | false =>
                  go_wp2_with fail
                  go_roundw
                  case rel => exact ⟨k + 1, by omega, by go_num, Lib.hid (by rw [HT.out, cut_ref_step HCB.out, HBb.out, if_neg (by simp)]; exact hst.out)⟩
                  case measure => simp [intOf]; omega
                | true =>
                  go_wp2_with fail
                  go_roundw
                  case rel => exact ⟨k + 1, by omega, by go_num, Lib.hid (by rw [HT.out, cut_ref_step HCB.out, HBb.out, HHh.out, if_pos (show (true && !false) = true from rfl), HF.out]; exact hJ.out.1.put H3.out.2.2 H3.out.1 H3.out.2.1)⟩
                  case measure => simp [intOf]; omega
    · obtain rfl : k = keep.length := by omega
      have d1 : decide ((keep.length : Int) < (keep.length : Int)) = false := by simp
      have d2 : decide (keep.length < keep.length) = false := by simp
      rw [List.take_length] at hS0
      obtain ⟨A', c', hP, hGl, hlow⟩ := hS0.out.o
      obtain ⟨p0, p1, p2⟩ := FB.cells hP
      have lP := hP.lt
      have rd := hS0.out.r.reads
      have ft := hS0.out.r.thawed
      have lR := hS0.out.r.lt
      have HL := Lib.hid (And.intro ((((hGl.set hlow ⟨w.heap.size + 1, 0, none⟩ hS0.out.lo (.bool wd)).set hlow ⟨w.heap.size + 1, 1, none⟩ hS0.out.lo (.slice A' (cutG wd ot gs keep).length c')).set hlow ⟨w.heap.size + 1, 2, none⟩ hS0.out.lo (.int .i64 0))) hS0.out.below)
      clear hGl hP hlow
      go_wp2_with fail
      refine bodyPost_ret (v := .tuple #[.agg #[.bool wd, .slice A' (cutG wd ot gs keep).length c', .int .i64 0], .int .i64 0]) (by simp [results, Try.results20, go_sem, rd]) rfl ⟨A', _, c', rfl, HL.out.1, ?_⟩
      (repeat (first | with_reducible refine Below.drew ?_ | with_reducible refine bdrewN ?_ _ | (with_reducible refine Below.setCell ?_ ?_ _; rotate_left; focus (first | exact Nat.le_refl _ | omega | (simp; omega) | (simp; done))) | (with_reducible refine Below.alloc ?_ ?_ _; rotate_left; focus (first | exact Nat.le_refl _ | omega | (simp; omega) | (simp; done))))); with_reducible exact HL.out.2
end Go.Proofs.Ytldhkhaciflmoaa
