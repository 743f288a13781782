/- fonts by their names: Check. -/
import Derived.Test.YtdlmhienolmncaaGreatCutH
import Derived.Test.YtdlmhienolmncaaGreatRegionC
import Derived.Deep.CutRange
import Derived.Test.YtdlmhienolmncaaGreatCutD
namespace Go.Proofs.YtdlmhienolmncaaGreat
open Go.RowKit Dec

theorem NmsAt.take {w : World} {R o n c : Nat} {l : List Nm} (h : NmsAt w (some ⟨R, o, none⟩) n c l) {i : Nat} (hi : i ≤ n) : NmsAt w (some ⟨R, o, none⟩) i c (l.take i) := by
  have hr := h.row.part 0 i (by omega) hi
  rw [Nat.zero_mul, Nat.add_zero, Nat.sub_zero, Nat.sub_zero, List.drop_zero, ← List.map_take] at hr
  exact ⟨hr, fun x hx => h.ok x (List.mem_of_mem_take hx)⟩
def nmsE (fs : List Nm) : Int := if nmsB fs then 0 else 1
theorem nms_long {fs : List Nm} (h : 64 < fs.length) : (1 : Int) = nmsE fs := by
  unfold nmsE nmsB
  rw [decide_eq_false (by omega)]
  rfl
theorem nms_bad {fs : List Nm} {i : Nat} (hi : i < fs.length) (h : nmsAt fs i = false) : (1 : Int) = nmsE fs := by
  unfold nmsE
  rw [if_neg]
  intro e
  unfold nmsB at e
  simp only [Bool.and_eq_true, List.all_eq_true] at e
  rw [e.2 i (List.mem_range.2 hi)] at h
  cases h
theorem nms_ok {fs : List Nm} (h0 : fs.length ≤ 64) (h : ∀ i, i < fs.length → nmsAt fs i = true) : (0 : Int) = nmsE fs := by
  unfold nmsE
  rw [if_pos]
  unfold nmsB
  simp only [Bool.and_eq_true, List.all_eq_true, decide_eq_true_iff]
  exact ⟨h0, fun i hi => h i (List.mem_range.1 hi)⟩
theorem nmsAt_is {fs : List Nm} {i : Nat} {x : Nm} (h : fs[i]? = some x) : nmsAt fs i = (!(fontOf (fs.take i) x.name).isSome && nmB x) := by unfold nmsAt; rw [h]
theorem nm_facts {v : World} {g : Nat} {T : TypeId} {x : Nm} (h : Whole v g T #[.string x.name, .bool x.wd, .slice x.s.A x.s.n x.s.c, .int .i64 x.ot]) :
    (v.cell? ⟨g, 0, none⟩ = some (.string x.name) ∧ v.cell? ⟨g, 1, none⟩ = some (.bool x.wd) ∧ v.cell? ⟨g, 2, none⟩ = some (.slice x.s.A x.s.n x.s.c) ∧ v.cell? ⟨g, 3, none⟩ = some (.int .i64 x.ot)) ∧ g < v.heap.size :=
  ⟨⟨h.reads 0, h.reads 1, h.reads 2, h.reads 3⟩, h.lt⟩
theorem wpAnyC_two {P : Program} {ops : Array Oper} {Q : Exit → Act → World → Prop} {md : Region.Mode} {C : World → Prop} {i j : Nat} {fuel : Nat} {listed : Array Bool} {a : Act} {w : World} {oi oj : Oper} {ri rj : List Oper} (hr : Region.ready md ops listed = [i, j]) (hi : ops.toList.drop i = oi :: ri) (hj : ops.toList.drop j = oj :: rj)
    (h1 : ∀ K' : Act → World → Prop, Shut (∀ a w, (C w ∧ wpAnyC P md ops Q C fuel (listed.setIfInBounds i true) a w) → K' a w) → if Region.wanted oi (yielded ops a.tmps) = true then Oper.wp P oi a w K' Q else K' (a.put oi.dst undef) w)
    (h2 : ∀ K' : Act → World → Prop, Shut (∀ a w, (C w ∧ wpAnyC P md ops Q C fuel (listed.setIfInBounds j true) a w) → K' a w) → if Region.wanted oj (yielded ops a.tmps) = true then Oper.wp P oj a w K' Q else K' (a.put oj.dst undef) w) :
    wpAnyC P md ops Q C (fuel + 1) listed a w := by
  refine ⟨fun h0 => absurd (hr ▸ h0) (by simp), fun m hm => ?_⟩
  rw [hr] at hm
  rcases List.mem_cons.1 hm with rfl | hm
  · exact wpOp_step (at_of_drop hi) (fun K' hK => h1 K' (fun a w hS => hK a w hS))
  · obtain rfl : m = j := by simpa using hm
    exact wpOp_step (at_of_drop hj) (fun K' hK => h2 K' (fun a w hS => hK a w hS))
set_option maxRecDepth 100000 in
set_option maxHeartbeats 4000000 in
theorem ncheck_any (A : Option Addr) (n c : Nat) (fs : List Nm) (w : World) (h : NmsAt w A n c fs) :
    Calls Tryz.prog 55 #[.slice A n c] w fun e w' => e = .returned (.int .i64 (nmsE fs)) ∧ Below w.heap.size w w' := by
  have hcap := h.row.cap
  have htop := h.row.top
  have HL := Lib.hid h.len
  have H := Lib.hid h
  clear h
  by_cases h64 : 64 < n
  · have HE := Lib.hid (nms_long (fs := fs) (by rw [HL.out]; exact h64))
    have d0 : decide ((n : Int) > 64) = true := decide_eq_true (by omega)
    go_enter Tryz.func55, Tryz.ntmps55
    go_wp2_with fail
    go_ret
    exact ⟨by rw [← HE.out]; rfl, Below.refl _ _⟩
  have h64' : n ≤ 64 := by omega
  have d0 : decide ((n : Int) > 64) = false := decide_eq_false (by omega)
  go_enter Tryz.func55, Tryz.ntmps55
  go_wp2_with fail
  go_loopw [13] (fun s13 wx => ∃ k : Nat, k ≤ n ∧ s13 = .int .i64 k ∧ Hid (∀ i, i < k → nmsAt fs i = true) ∧ Hid (Below w.heap.size w wx)) (fun s13 _ => n - (intOf s13).toNat)
  case atStart => exact ⟨0, by omega, rfl, Lib.hid (fun i hi => absurd hi (by omega)), Lib.hid (Below.refl _ _)⟩
  case round =>
    obtain ⟨k, hk, rfl, HI, HB⟩ := hrel
    by_cases hlt : k < n
    · have d1 : decide ((k : Int) < (n : Int)) = true := decide_eq_true (by omega)
      obtain ⟨x, hx⟩ : ∃ x, fs[k]? = some x := ⟨_, List.getElem?_eq_getElem (by rw [HL.out]; exact hlt)⟩
      obtain ⟨R, o, rfl, hR, ⟨g0, g1, g2, g3⟩, hns, hgl⟩ := (H.out.below HB.out).get hx
      have hgc := hgl.cap
      have hgt := hgl.top
      have hb1 := HB.out.alloc HB.out.size (.cells #[.string x.name, .bool x.wd, .slice x.s.A x.s.n x.s.c, .int .i64 x.ot] 66)
      have HF := Lib.hid (fun w' (hb : Below w.heap.size w w') => nfind_any _ k c (fs.take k) x.name w' ((H.out.below hb).take hk))
      have HN := Lib.hid (nmsAt_is hx)
      obtain ⟨w1, hw1⟩ : ∃ w1, wr.alloc (.cells #[.string x.name, .bool x.wd, .slice x.s.A x.s.n x.s.c, .int .i64 x.ot] 66) = w1 := ⟨_, rfl⟩
      have HW1 := Lib.hid (show Whole w1 wr.heap.size 66 #[.string x.name, .bool x.wd, .slice x.s.A x.s.n x.s.c, .int .i64 x.ot] ∧ Below w.heap.size w w1 by rw [← hw1]; exact ⟨Whole.made _ _ _, hb1⟩)
      have HG := Lib.hid (fun w' (hb : Below w.heap.size w w') => check_any x.wd x.s.A x.s.n x.s.c x.ot x.gs w' (((H.out.ok x (List.mem_of_getElem? hx)).later hb).2))
      have b0 : (0 : Int) ≤ (k : Int) := by omega
      have b1 : (k : Int) ≤ (c : Int) := by omega
      have b2 : ((k : Int)).toNat = k := by omega
      obtain ⟨q, hq⟩ : ∃ q, fontOf (fs.take k) x.name = q := ⟨_, rfl⟩
      rw [hq] at HF HN
      clear hgl hx hb1 hq
      cases q with
      | some f =>
        simp only [fontV, Option.isSome_some] at HF HN
        have HE := Lib.hid (nms_bad (fs := fs) (i := k) (by rw [HL.out]; exact hlt) (by rw [HN.out]; rfl))
        go_upto_region 6 with fail
        try rw [hw1]
        clear hw1
        go_cut [6] from 18 to 26 (fun s6 wx => s6 = .bool true ∧ Hid (Below w.heap.size w wx))
        case first =>
          clear g0 g1 g2 g3
          have HC : Hid (∀ v, Below w1.heap.size w1 v → (fun v => v.cell? ⟨wr.heap.size, 0, none⟩ = some (.string x.name) ∧ Below w1.heap.size w1 v) v) := Lib.hid (fun v hb => ⟨(HW1.out.1.here hb).reads 0, hb⟩)
          have hS := HC.out w1.drew ((Below.refl w1.heap.size w1).drew)
          refine wp_region_C (fun v => v.cell? ⟨wr.heap.size, 0, none⟩ = some (.string x.name) ∧ Below w1.heap.size w1 v) (by kernel_rfl) ?_
          refine wpAnyC_take (i := 0) (v := ?v1) rfl (by kernel_rfl) (fun _ _ _ h => h) (Or.inl ⟨by rfl, ?y1⟩) hS ?r1
          case y1 => intro wq _; go_simp; all_goals (first | with_reducible rfl | (simp; done) | (simp; omega) | skip)
          try simp only [Act.put, List.setIfInBounds_toArray, List.set_cons_zero, List.set_cons_succ]
          refine wpAnyC_take (i := 1) (v := ?v2) rfl (by kernel_rfl) (fun _ _ _ h => h) (Or.inl ⟨by rfl, ?y2⟩) hS ?r2
          case y2 => intro wq _; go_simp; all_goals (first | with_reducible rfl | (simp; done) | (simp; omega) | skip)
          try simp only [Act.put, List.setIfInBounds_toArray, List.set_cons_zero, List.set_cons_succ]
          refine wpAnyC_take (i := 2) (v := .slice (some ⟨R, o, none⟩) k c) rfl (by kernel_rfl) (fun _ _ _ h => h) (Or.inl ⟨by rfl, ?y3⟩) hS ?r3
          case y3 => intro wq _; go_simp; all_goals (first | with_reducible rfl | (simp; done) | (simp; omega) | skip)
          try simp only [Act.put, List.setIfInBounds_toArray, List.set_cons_zero, List.set_cons_succ]
          refine wpAnyC_take (i := 3) (v := ?v4) rfl (by kernel_rfl) (fun _ _ _ h => h) (Or.inl ⟨by rfl, ?y4⟩) hS ?r4
          case y4 => intro wq _; go_simp; all_goals (first | with_reducible rfl | (simp; done) | (simp; omega) | skip)
          try simp only [Act.put, List.setIfInBounds_toArray, List.set_cons_zero, List.set_cons_succ]
          refine wpAnyC_take (i := 4) (v := ?v5) rfl (by kernel_rfl) (fun _ _ _ h => h) (Or.inl ⟨by rfl, ?y5⟩) hS ?r5
          case y5 => rintro wq ⟨c0, -⟩; go_simp; try with_reducible rfl
          try simp only [Act.put, List.setIfInBounds_toArray, List.set_cons_zero, List.set_cons_succ]
          refine wpAnyC_two (i := 5) (j := 9) (by kernel_rfl) rfl rfl (fun K hK => ?_) (fun K hK => ?_)
          · go_simp
            go_at_call 56
            refine (HF.out _ (HW1.out.2.trans (((Below.refl w1.heap.size w1).drew).mono HW1.out.2.size))).mono ?_
            rintro e v2 ⟨rfl, kk⟩
            have hb2 : Below w1.heap.size w1 v2 := ((Below.refl w1.heap.size w1).drew).trans (kk.mono ((Below.refl w1.heap.size w1).drew).size)
            clear kk
            have hS := HC.out v2 hb2
            go_wp2_with fail
            refine hK.out _ _ ⟨hS, ?_⟩
            clear hK K
            try simp only [Act.put, List.setIfInBounds_toArray, List.set_cons_zero, List.set_cons_succ]
            refine wpAnyC_take (i := 6) (v := ?v6) rfl (by kernel_rfl) (fun _ _ _ h => h) (Or.inl ⟨by rfl, ?y6⟩) hS ?r6
            case y6 => intro wq _; go_simp; all_goals (first | with_reducible rfl | (simp; done) | (simp; omega) | skip)
            try simp only [Act.put, List.setIfInBounds_toArray, List.set_cons_zero, List.set_cons_succ]
            refine wpAnyC_take (i := 7) (v := ?v7) rfl (by kernel_rfl) (fun _ _ _ h => h) (Or.inl ⟨by rfl, ?y7⟩) hS ?r7
            case y7 => intro wq _; go_simp; all_goals (first | with_reducible rfl | (simp; done) | (simp; omega) | skip)
            try simp only [Act.put, List.setIfInBounds_toArray, List.set_cons_zero, List.set_cons_succ]
            refine wpAnyC_take (i := 8) (v := ?v8) rfl (by kernel_rfl) (fun _ _ _ h => h) (Or.inl ⟨by rfl, ?y8⟩) hS ?r8
            case y8 => intro wq _; go_simp; all_goals (first | with_reducible rfl | (simp; done) | (simp; omega) | skip)
            try simp only [Act.put, List.setIfInBounds_toArray, List.set_cons_zero, List.set_cons_succ]
            refine wpAnyC_one (j := 9) (by kernel_rfl) rfl (fun K hK => ?_)
            go_simp
            refine hK.out _ _ ⟨HC.out _ (hb2.alloc hb2.size _), ?_⟩
            clear hK K
            try simp only [Act.put, List.setIfInBounds_toArray, List.set_cons_zero, List.set_cons_succ]
            refine wpAnyC_one (j := 10) (by kernel_rfl) rfl (fun K hK => ?_)
            go_simp
            have hS := HC.out _ (hb2.alloc hb2.size (.cells #[.bool f.wd, .slice f.s.A f.s.n f.s.c, .int .i64 f.ot] 64))
            refine hK.out _ _ ⟨hS, ?_⟩
            clear hK K
            try simp only [Act.put, List.setIfInBounds_toArray, List.set_cons_zero, List.set_cons_succ]
            refine wpAnyC_take (i := 11) (v := ?v9) rfl (by kernel_rfl) (fun _ _ _ h => h) (Or.inl ⟨by rfl, ?y9⟩) hS ?r9
            case y9 => intro wq _; go_simp; all_goals (first | with_reducible rfl | (simp; done) | (simp; omega) | skip)
            try simp only [Act.put, List.setIfInBounds_toArray, List.set_cons_zero, List.set_cons_succ]
            refine wpAnyC_done (by kernel_rfl) ?_ _
            go_wp2_with fail
            go_meet
            exact ⟨rfl, Lib.hid (HW1.out.2.trans ((hb2.alloc hb2.size (.cells #[.bool f.wd, .slice f.s.A f.s.n f.s.c, .int .i64 f.ot] 64)).mono HW1.out.2.size))⟩
          · go_simp
            have hb1 : Below w1.heap.size w1 (w1.alloc (.cells #[.bool false, .slice none 0 0, .int .i64 0] 64)).drew := ((Below.refl w1.heap.size w1).alloc (Nat.le_refl _) _).drew
            have hZ := (Whole.made w1 64 #[.bool false, .slice none 0 0, .int .i64 0]).drawn1
            have hS := HC.out _ hb1
            refine hK.out _ _ ⟨hS, ?_⟩
            clear hK K
            try simp only [Act.put, List.setIfInBounds_toArray, List.set_cons_zero, List.set_cons_succ]
            refine wpAnyC_one (j := 5) (by kernel_rfl) rfl (fun K hK => ?_)
            go_simp
            go_at_call 56
            refine (HF.out _ (HW1.out.2.trans ((hb1).mono HW1.out.2.size))).mono ?_
            rintro e v2 ⟨rfl, kk⟩
            have hb2 : Below w1.heap.size w1 v2 := (hb1).trans (kk.mono (hb1).size)
            have hZ2 := hZ.here kk
            clear kk
            have hS := HC.out v2 hb2
            go_wp2_with fail
            refine hK.out _ _ ⟨hS, ?_⟩
            clear hK K
            try simp only [Act.put, List.setIfInBounds_toArray, List.set_cons_zero, List.set_cons_succ]
            refine wpAnyC_take (i := 6) (v := ?v10) rfl (by kernel_rfl) (fun _ _ _ h => h) (Or.inl ⟨by rfl, ?y10⟩) hS ?r10
            case y10 => intro wq _; go_simp; all_goals (first | with_reducible rfl | (simp; done) | (simp; omega) | skip)
            try simp only [Act.put, List.setIfInBounds_toArray, List.set_cons_zero, List.set_cons_succ]
            refine wpAnyC_take (i := 7) (v := ?v11) rfl (by kernel_rfl) (fun _ _ _ h => h) (Or.inl ⟨by rfl, ?y11⟩) hS ?r11
            case y11 => intro wq _; go_simp; all_goals (first | with_reducible rfl | (simp; done) | (simp; omega) | skip)
            try simp only [Act.put, List.setIfInBounds_toArray, List.set_cons_zero, List.set_cons_succ]
            refine wpAnyC_take (i := 8) (v := ?v12) rfl (by kernel_rfl) (fun _ _ _ h => h) (Or.inl ⟨by rfl, ?y12⟩) hS ?r12
            case y12 => intro wq _; go_simp; all_goals (first | with_reducible rfl | (simp; done) | (simp; omega) | skip)
            try simp only [Act.put, List.setIfInBounds_toArray, List.set_cons_zero, List.set_cons_succ]
            have rd := hZ2.reads
            have ft := hZ2.thawed
            have lz := hZ2.lt
            refine wpAnyC_one (j := 10) (by kernel_rfl) rfl (fun K hK => ?_)
            go_simp
            have hb3 : Below w1.heap.size w1 (((v2.setCell ⟨w1.heap.size, 0, none⟩ (.bool f.wd)).setCell ⟨w1.heap.size, 1, none⟩ (.slice f.s.A f.s.n f.s.c)).setCell ⟨w1.heap.size, 2, none⟩ (.int .i64 f.ot)) := ((hb2.setCell (Nat.le_refl _) _).setCell (Nat.le_refl _) _).setCell (Nat.le_refl _) _
            have hS := HC.out _ hb3
            refine hK.out _ _ ⟨hS, ?_⟩
            clear hK K
            try simp only [Act.put, List.setIfInBounds_toArray, List.set_cons_zero, List.set_cons_succ]
            refine wpAnyC_take (i := 11) (v := ?v13) rfl (by kernel_rfl) (fun _ _ _ h => h) (Or.inl ⟨by rfl, ?y13⟩) hS ?r13
            case y13 => intro wq _; go_simp; all_goals (first | with_reducible rfl | (simp; done) | (simp; omega) | skip)
            try simp only [Act.put, List.setIfInBounds_toArray, List.set_cons_zero, List.set_cons_succ]
            refine wpAnyC_done (by kernel_rfl) ?_ _
            go_wp2_with fail
            go_meet
            exact ⟨rfl, Lib.hid (HW1.out.2.trans ((hb3).mono HW1.out.2.size))⟩
        case rest =>
          obtain ⟨rfl, hb⟩ := hcut
          go_wp2_with fail
          go_ret
          exact ⟨by rw [← HE.out]; rfl, hb.out⟩
      | none =>
        simp only [fontV, Option.isSome_none] at HF HN
        go_upto_region 6 with fail
        try rw [hw1]
        clear hw1
        go_cut [6] from 18 to 26 (fun s6 wx => s6 = .bool false ∧ Hid (Below w1.heap.size w1 wx))
        case first =>
          clear g0 g1 g2 g3
          have HC : Hid (∀ v, Below w1.heap.size w1 v → (fun v => v.cell? ⟨wr.heap.size, 0, none⟩ = some (.string x.name) ∧ Below w1.heap.size w1 v) v) := Lib.hid (fun v hb => ⟨(HW1.out.1.here hb).reads 0, hb⟩)
          have hS := HC.out w1.drew ((Below.refl w1.heap.size w1).drew)
          refine wp_region_C (fun v => v.cell? ⟨wr.heap.size, 0, none⟩ = some (.string x.name) ∧ Below w1.heap.size w1 v) (by kernel_rfl) ?_
          refine wpAnyC_take (i := 0) (v := ?v14) rfl (by kernel_rfl) (fun _ _ _ h => h) (Or.inl ⟨by rfl, ?y14⟩) hS ?r14
          case y14 => intro wq _; go_simp; all_goals (first | with_reducible rfl | (simp; done) | (simp; omega) | skip)
          try simp only [Act.put, List.setIfInBounds_toArray, List.set_cons_zero, List.set_cons_succ]
          refine wpAnyC_take (i := 1) (v := ?v15) rfl (by kernel_rfl) (fun _ _ _ h => h) (Or.inl ⟨by rfl, ?y15⟩) hS ?r15
          case y15 => intro wq _; go_simp; all_goals (first | with_reducible rfl | (simp; done) | (simp; omega) | skip)
          try simp only [Act.put, List.setIfInBounds_toArray, List.set_cons_zero, List.set_cons_succ]
          refine wpAnyC_take (i := 2) (v := .slice (some ⟨R, o, none⟩) k c) rfl (by kernel_rfl) (fun _ _ _ h => h) (Or.inl ⟨by rfl, ?y16⟩) hS ?r16
          case y16 => intro wq _; go_simp; all_goals (first | with_reducible rfl | (simp; done) | (simp; omega) | skip)
          try simp only [Act.put, List.setIfInBounds_toArray, List.set_cons_zero, List.set_cons_succ]
          refine wpAnyC_take (i := 3) (v := ?v17) rfl (by kernel_rfl) (fun _ _ _ h => h) (Or.inl ⟨by rfl, ?y17⟩) hS ?r17
          case y17 => intro wq _; go_simp; all_goals (first | with_reducible rfl | (simp; done) | (simp; omega) | skip)
          try simp only [Act.put, List.setIfInBounds_toArray, List.set_cons_zero, List.set_cons_succ]
          refine wpAnyC_take (i := 4) (v := ?v18) rfl (by kernel_rfl) (fun _ _ _ h => h) (Or.inl ⟨by rfl, ?y18⟩) hS ?r18
          case y18 => rintro wq ⟨c0, -⟩; go_simp; try with_reducible rfl
          try simp only [Act.put, List.setIfInBounds_toArray, List.set_cons_zero, List.set_cons_succ]
          refine wpAnyC_two (i := 5) (j := 9) (by kernel_rfl) rfl rfl (fun K hK => ?_) (fun K hK => ?_)
          · go_simp
            go_at_call 56
            refine (HF.out _ (HW1.out.2.trans (((Below.refl w1.heap.size w1).drew).mono HW1.out.2.size))).mono ?_
            rintro e v2 ⟨rfl, kk⟩
            have hb2 : Below w1.heap.size w1 v2 := ((Below.refl w1.heap.size w1).drew).trans (kk.mono ((Below.refl w1.heap.size w1).drew).size)
            clear kk
            have hS := HC.out v2 hb2
            go_wp2_with fail
            refine hK.out _ _ ⟨hS, ?_⟩
            clear hK K
            try simp only [Act.put, List.setIfInBounds_toArray, List.set_cons_zero, List.set_cons_succ]
            refine wpAnyC_take (i := 6) (v := ?v19) rfl (by kernel_rfl) (fun _ _ _ h => h) (Or.inl ⟨by rfl, ?y19⟩) hS ?r19
            case y19 => intro wq _; go_simp; all_goals (first | with_reducible rfl | (simp; done) | (simp; omega) | skip)
            try simp only [Act.put, List.setIfInBounds_toArray, List.set_cons_zero, List.set_cons_succ]
            refine wpAnyC_take (i := 7) (v := ?v20) rfl (by kernel_rfl) (fun _ _ _ h => h) (Or.inl ⟨by rfl, ?y20⟩) hS ?r20
            case y20 => intro wq _; go_simp; all_goals (first | with_reducible rfl | (simp; done) | (simp; omega) | skip)
            try simp only [Act.put, List.setIfInBounds_toArray, List.set_cons_zero, List.set_cons_succ]
            refine wpAnyC_take (i := 8) (v := ?v21) rfl (by kernel_rfl) (fun _ _ _ h => h) (Or.inl ⟨by rfl, ?y21⟩) hS ?r21
            case y21 => intro wq _; go_simp; all_goals (first | with_reducible rfl | (simp; done) | (simp; omega) | skip)
            try simp only [Act.put, List.setIfInBounds_toArray, List.set_cons_zero, List.set_cons_succ]
            refine wpAnyC_one (j := 9) (by kernel_rfl) rfl (fun K hK => ?_)
            go_simp
            refine hK.out _ _ ⟨HC.out _ (hb2.alloc hb2.size _), ?_⟩
            clear hK K
            try simp only [Act.put, List.setIfInBounds_toArray, List.set_cons_zero, List.set_cons_succ]
            refine wpAnyC_one (j := 10) (by kernel_rfl) rfl (fun K hK => ?_)
            go_simp
            have hS := HC.out _ (hb2.alloc hb2.size (.cells #[.bool false, .slice none 0 0, .int .i64 0] 64))
            refine hK.out _ _ ⟨hS, ?_⟩
            clear hK K
            try simp only [Act.put, List.setIfInBounds_toArray, List.set_cons_zero, List.set_cons_succ]
            refine wpAnyC_take (i := 11) (v := ?v22) rfl (by kernel_rfl) (fun _ _ _ h => h) (Or.inl ⟨by rfl, ?y22⟩) hS ?r22
            case y22 => intro wq _; go_simp; all_goals (first | with_reducible rfl | (simp; done) | (simp; omega) | skip)
            try simp only [Act.put, List.setIfInBounds_toArray, List.set_cons_zero, List.set_cons_succ]
            refine wpAnyC_done (by kernel_rfl) ?_ _
            go_wp2_with fail
            go_meet
            exact ⟨rfl, Lib.hid (hb2.alloc hb2.size (.cells #[.bool false, .slice none 0 0, .int .i64 0] 64))⟩
          · go_simp
            have hb1 : Below w1.heap.size w1 (w1.alloc (.cells #[.bool false, .slice none 0 0, .int .i64 0] 64)).drew := ((Below.refl w1.heap.size w1).alloc (Nat.le_refl _) _).drew
            have hZ := (Whole.made w1 64 #[.bool false, .slice none 0 0, .int .i64 0]).drawn1
            have hS := HC.out _ hb1
            refine hK.out _ _ ⟨hS, ?_⟩
            clear hK K
            try simp only [Act.put, List.setIfInBounds_toArray, List.set_cons_zero, List.set_cons_succ]
            refine wpAnyC_one (j := 5) (by kernel_rfl) rfl (fun K hK => ?_)
            go_simp
            go_at_call 56
            refine (HF.out _ (HW1.out.2.trans ((hb1).mono HW1.out.2.size))).mono ?_
            rintro e v2 ⟨rfl, kk⟩
            have hb2 : Below w1.heap.size w1 v2 := (hb1).trans (kk.mono (hb1).size)
            have hZ2 := hZ.here kk
            clear kk
            have hS := HC.out v2 hb2
            go_wp2_with fail
            refine hK.out _ _ ⟨hS, ?_⟩
            clear hK K
            try simp only [Act.put, List.setIfInBounds_toArray, List.set_cons_zero, List.set_cons_succ]
            refine wpAnyC_take (i := 6) (v := ?v23) rfl (by kernel_rfl) (fun _ _ _ h => h) (Or.inl ⟨by rfl, ?y23⟩) hS ?r23
            case y23 => intro wq _; go_simp; all_goals (first | with_reducible rfl | (simp; done) | (simp; omega) | skip)
            try simp only [Act.put, List.setIfInBounds_toArray, List.set_cons_zero, List.set_cons_succ]
            refine wpAnyC_take (i := 7) (v := ?v24) rfl (by kernel_rfl) (fun _ _ _ h => h) (Or.inl ⟨by rfl, ?y24⟩) hS ?r24
            case y24 => intro wq _; go_simp; all_goals (first | with_reducible rfl | (simp; done) | (simp; omega) | skip)
            try simp only [Act.put, List.setIfInBounds_toArray, List.set_cons_zero, List.set_cons_succ]
            refine wpAnyC_take (i := 8) (v := ?v25) rfl (by kernel_rfl) (fun _ _ _ h => h) (Or.inl ⟨by rfl, ?y25⟩) hS ?r25
            case y25 => intro wq _; go_simp; all_goals (first | with_reducible rfl | (simp; done) | (simp; omega) | skip)
            try simp only [Act.put, List.setIfInBounds_toArray, List.set_cons_zero, List.set_cons_succ]
            have rd := hZ2.reads
            have ft := hZ2.thawed
            have lz := hZ2.lt
            refine wpAnyC_one (j := 10) (by kernel_rfl) rfl (fun K hK => ?_)
            go_simp
            have hb3 : Below w1.heap.size w1 (((v2.setCell ⟨w1.heap.size, 0, none⟩ (.bool false)).setCell ⟨w1.heap.size, 1, none⟩ (.slice none 0 0)).setCell ⟨w1.heap.size, 2, none⟩ (.int .i64 0)) := ((hb2.setCell (Nat.le_refl _) _).setCell (Nat.le_refl _) _).setCell (Nat.le_refl _) _
            have hS := HC.out _ hb3
            refine hK.out _ _ ⟨hS, ?_⟩
            clear hK K
            try simp only [Act.put, List.setIfInBounds_toArray, List.set_cons_zero, List.set_cons_succ]
            refine wpAnyC_take (i := 11) (v := ?v26) rfl (by kernel_rfl) (fun _ _ _ h => h) (Or.inl ⟨by rfl, ?y26⟩) hS ?r26
            case y26 => intro wq _; go_simp; all_goals (first | with_reducible rfl | (simp; done) | (simp; omega) | skip)
            try simp only [Act.put, List.setIfInBounds_toArray, List.set_cons_zero, List.set_cons_succ]
            refine wpAnyC_done (by kernel_rfl) ?_ _
            go_wp2_with fail
            go_meet
            exact ⟨rfl, Lib.hid (hb3)⟩
        case rest =>
          obtain ⟨rfl, hb⟩ := hcut
          obtain ⟨⟨e0, e1, e2, e3⟩, l1⟩ := nm_facts (HW1.out.1.here hb.out)
          have HBC := Lib.hid (HW1.out.2.trans (hb.out.mono HW1.out.2.size))
          clear g0 g1 g2 g3
          obtain ⟨r, hr⟩ : ∃ r, nmB x = r := ⟨_, rfl⟩
          have HCK := Lib.hid (show chk x.wd x.ot x.gs = if r = true then 0 else 1 by rw [← hr]; rfl)
          rw [hr] at HN
          clear hr
          go_wp2_with fail
          refine (HG.out _ HBC.out).mono ?_
          rw [HCK.out]
          rintro e w3 ⟨rfl, hb3⟩
          have HB3 := Lib.hid (HBC.out.trans (hb3.mono HBC.out.size))
          clear hb3 e0 e1 e2 e3 hb
          cases r
          · have HE := Lib.hid (nms_bad (fs := fs) (i := k) (by rw [HL.out]; exact hlt) (by rw [HN.out]; rfl))
            simp only [Bool.false_eq_true, if_false]
            go_wp2_with fail
            go_ret
            exact ⟨by rw [← HE.out]; rfl, HB3.out⟩
          · have HI2 := Lib.hid (show ∀ i, i < k + 1 → nmsAt fs i = true from fun i hi => by
              rcases Nat.lt_succ_iff_lt_or_eq.1 hi with h | rfl
              · exact HI.out i h
              · rw [HN.out]; rfl)
            simp only [if_true]
            go_wp2_with fail
            go_roundw
            case rel => exact ⟨k + 1, by omega, by go_num, HI2, HB3⟩
            case measure => simp [intOf]; omega
    · obtain rfl : k = n := by omega
      have d1 : decide ((k : Int) < (k : Int)) = false := by simp
      have HE := Lib.hid (nms_ok (fs := fs) (by rw [HL.out]; exact h64') (by rw [HL.out]; exact HI.out))
      go_wp2_with fail
      go_ret
      exact ⟨by rw [← HE.out]; rfl, HB.out⟩
end Go.Proofs.YtdlmhienolmncaaGreat
/- cut: has each glyph a font? -/
namespace Go.Proofs.YtdlmhienolmncaaGreat
open Go.RowKit Dec

theorem known_bad1 {fs : List Nm} {l : List Mk} (h : nmsB fs = false) : knownE fs l = 1 := by unfold knownE knownB; rw [h]; rfl
theorem known_bad2 {fs : List Nm} {l : List Mk} (h : l.all (hasB fs) = false) : knownE fs l = 1 := by unfold knownE knownB; rw [h, Bool.and_false]; rfl
theorem known_ok {fs : List Nm} {l : List Mk} (h : nmsB fs = true) (h2 : l.all (hasB fs) = true) : knownE fs l = 0 := by unfold knownE knownB; rw [h, h2]; rfl
set_option maxRecDepth 100000 in
set_option maxHeartbeats 4000000 in
theorem known_any (A : Option Addr) (n c : Nat) (fs : List Nm) (A2 : Option Addr) (n2 c2 : Nat) (l : List Mk) (w : World) (h : NmsAt w A n c fs) (h2 : MarksAt w A2 n2 c2 l) :
    Calls Tryz.prog 29 #[.slice A n c, .slice A2 n2 c2] w fun e w' => e = .returned (.int .i64 (knownE fs l)) ∧ Below w.heap.size w w' := by
  have hcap := h2.row.cap
  have htop := h2.row.top
  have HL := Lib.hid h2.len
  have H := Lib.hid h
  have HM := Lib.hid h2
  have HC := Lib.hid (ncheck_any A n c fs w h)
  obtain ⟨q, hq⟩ : ∃ q, nmsB fs = q := ⟨_, rfl⟩
  have HQ := Lib.hid hq
  have HE := Lib.hid (show nmsE fs = if q = true then 0 else 1 by rw [← hq]; rfl)
  rw [HE.out] at HC
  clear h h2 hq
  cases q
  · simp only [Bool.false_eq_true, if_false] at HC
    go_enter Tryz.func29, Tryz.ntmps29
    go_wp2_with fail
    refine HC.out.mono ?_
    rintro e w1 ⟨rfl, hb⟩
    have HB := Lib.hid hb
    clear hb
    go_wp2_with fail
    go_ret
    exact ⟨by rw [known_bad1 HQ.out]; rfl, HB.out⟩
  simp only [if_true] at HC
  go_enter Tryz.func29, Tryz.ntmps29
  go_wp2_with fail
  refine HC.out.mono ?_
  rintro e wa ⟨rfl, hb⟩
  have HA := Lib.hid hb
  clear hb
  go_wp2_with fail
  go_loopw [17] (fun i wr => ∃ k : Nat, i = .int .i64 (k : Int) ∧ k ≤ n2 ∧ Hid ((l.take k).all (hasB fs) = true) ∧ Hid (Below w.heap.size w wr)) (fun i _ => n2 - (intOf i).toNat)
  case atStart => exact ⟨0, rfl, by omega, Lib.hid (by simp), HA⟩
  case round =>
    obtain ⟨j, rfl, hj, HK, HB⟩ := hrel
    by_cases hlt : j < n2
    · have d1 : decide ((j : Int) < (n2 : Int)) = true := decide_eq_true (by omega)
      obtain ⟨x, hx⟩ : ∃ x, l[j]? = some x := ⟨_, List.getElem?_eq_getElem (by rw [HL.out]; exact hlt)⟩
      obtain ⟨R, o, rfl, hR, hc, hns, -⟩ := (HM.out.below HB.out).get hx
      have HAT := Lib.hid (show ∀ (i : Nat) (u : Value), (mkA x).toList[i]? = some u → wr.cell? ⟨R, o + j * 25 + i, none⟩ = some u from hc)
      have HS := Lib.hid (all_step (hasB fs) hx HK.out)
      have HN := Lib.hid (fun h => all_no (hasB fs) hx h)
      obtain ⟨w1, hw1⟩ : ∃ w1, wr.alloc (.cells (mkA x) 55) = w1 := ⟨_, rfl⟩
      have hW1 : Whole w1 wr.heap.size 55 (mkA x) := by rw [← hw1]; exact Whole.made _ _ _
      have HB1 := Lib.hid (show Below w.heap.size w w1 by rw [← hw1]; exact HB.out.alloc HB.out.size _)
      have HW1 := Lib.hid hw1
      have k0 : w1.cell? ⟨wr.heap.size, 0, none⟩ = some (.int .i64 x.kind) := hW1.reads 0
      have k13 : w1.cell? ⟨wr.heap.size, 13, none⟩ = some (.string x.name) := hW1.reads 13
      have l1 := hW1.lt
      have HF := Lib.hid (fun w' (hb : Below w.heap.size w w') => nfind_any A n c fs x.name w' (H.out.below hb))
      have HH := Lib.hid (show hasB fs x = (!glyphB x || (fontOf fs x.name).isSome) from rfl)
      clear hx hc hw1 hW1
      by_cases hg : x.kind = 1
      · have d2 : (x.kind != 1) = false := by simp [hg]
        have HG := Lib.hid (show glyphB x = true by unfold glyphB; exact decide_eq_true hg)
        clear hg
        obtain ⟨q, hq⟩ : ∃ q, fontOf fs x.name = q := ⟨_, rfl⟩
        rw [hq, HG.out] at HH
        rw [hq] at HF
        clear hq
        cases q with
        | none =>
          simp only [fontV, Option.isSome_none] at HF HH
          go_wp2_with (first
            | (refine wpList_load_at rfl _ _ rfl R (o + j * 25) rfl (mkA x) _ HAT.out Tryz.underlying55 rfl (szMk x) ?_)
            | (refine wpList_store_let rfl _ _ _ rfl rfl _ _ (mkA x) HW1.out rfl rfl (szMk x) rfl (mkA_one x) ?_))
          refine (HF.out _ HB1.out).mono ?_
          rintro e w2 ⟨rfl, hb⟩
          have HB2 := Lib.hid (HB1.out.trans (hb.mono HB1.out.size))
          clear hb k0 k13 l1
          go_wp2_with fail
          go_ret
          exact ⟨by rw [known_bad2 (HN.out (by rw [HH.out]; rfl))]; rfl, HB2.out.alloc HB2.out.size _⟩
        | some f =>
          simp only [fontV, Option.isSome_some] at HF HH
          go_wp2_with (first
            | (refine wpList_load_at rfl _ _ rfl R (o + j * 25) rfl (mkA x) _ HAT.out Tryz.underlying55 rfl (szMk x) ?_)
            | (refine wpList_store_let rfl _ _ _ rfl rfl _ _ (mkA x) HW1.out rfl rfl (szMk x) rfl (mkA_one x) ?_))
          refine (HF.out _ HB1.out).mono ?_
          rintro e w2 ⟨rfl, hb⟩
          have HB2 := Lib.hid (HB1.out.trans (hb.mono HB1.out.size))
          clear hb k0 k13 l1
          go_wp2_with fail
          go_roundw
          case rel => exact ⟨j + 1, by go_num, by omega, Lib.hid (by rw [HS.out, HH.out]; rfl), Lib.hid (HB2.out.alloc HB2.out.size _)⟩
          case measure => simp [intOf]; omega
      · have d2 : (x.kind != 1) = true := by simp [hg]
        have HG := Lib.hid (show glyphB x = false by unfold glyphB; exact decide_eq_false hg)
        clear hg
        go_wp2_with (first
          | (refine wpList_load_at rfl _ _ rfl R (o + j * 25) rfl (mkA x) _ HAT.out Tryz.underlying55 rfl (szMk x) ?_)
          | (refine wpList_store_let rfl _ _ _ rfl rfl _ _ (mkA x) HW1.out rfl rfl (szMk x) rfl (mkA_one x) ?_))
        go_roundw
        case rel => exact ⟨j + 1, by go_num, by omega, Lib.hid (by rw [HS.out, HH.out, HG.out]; rfl), HB1⟩
        case measure => simp [intOf]; omega
    · obtain rfl : j = n2 := by omega
      have d1 : decide ((j : Int) < (j : Int)) = false := by simp
      have HZ := HK
      rw [List.take_of_length_le (by rw [HL.out]; exact Nat.le_refl _)] at HZ
      go_wp2_with fail
      go_ret
      exact ⟨by rw [known_ok HQ.out HZ.out]; rfl, HB.out⟩
end Go.Proofs.YtdlmhienolmncaaGreat
