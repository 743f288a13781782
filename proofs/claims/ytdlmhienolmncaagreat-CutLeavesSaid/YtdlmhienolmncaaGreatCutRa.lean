/- a list's any, a step further. -/
import Derived.Test.YtdlmhienolmncaaGreatCutD
import Derived.Test.YtdlmhienolmncaaGreatRefBoxM
namespace Go.Proofs.YtdlmhienolmncaaGreat

theorem any_step0 {α : Type} (p : α → Bool) {l : List α} {k : Nat} {x : α} (h : l[k]? = some x) : (l.take (k + 1)).any p = ((l.take k).any p || p x) := by
  rw [List.take_add_one, h, List.any_append]
  show (_ || List.any [x] p) = _
  simp
end Go.Proofs.YtdlmhienolmncaaGreat
/- the reference's cut: meets, Cut. -/
namespace Go.Proofs.YtdlmhienolmncaaGreat
open Go.RowKit Dec

theorem meet_is (a b : BV) : ∃ E, MeetIs a b (meetsB a b) E := by
  by_cases h : a.Ok ∧ b.Ok
  · exact ⟨0, .inl ⟨h.1, h.2, meetsB_ok h.1 h.2, rfl⟩⟩
  · exact ⟨1, .inr ⟨h, by unfold meetsB; rw [decide_eq_false h, Bool.false_and], rfl⟩⟩
set_option maxRecDepth 100000 in
set_option maxHeartbeats 8000000 in
theorem rmeets23_any (a : BV) (A : Option Addr) (n c : Nat) (rs : List BV) (w : World) (h : BxsAt w A n c rs) (hn : n ≤ 1000000) :
    Calls Tryz.prog 28 #[a.val, .slice A n c] w fun e w' => e = .returned (.bool (rs.any (meetsB a))) ∧ Below w.heap.size w w' := by
  have hcap := RowAt.cap h
  have htop := RowAt.top h
  have hb0 : Below w.heap.size w (w.alloc (.cells #[.int .i64 a.x0.m, .int .i64 a.x0.s, .int .i64 a.y0.m, .int .i64 a.y0.s, .int .i64 a.x1.m, .int .i64 a.x1.s, .int .i64 a.y1.m, .int .i64 a.y1.s] 49)) := (Below.refl w.heap.size w).alloc (Nat.le_refl _) _
  have H0 := Lib.hid (And.intro (h.below hb0) (And.intro (Whole.made w 49 #[.int .i64 a.x0.m, .int .i64 a.x0.s, .int .i64 a.y0.m, .int .i64 a.y0.s, .int .i64 a.x1.m, .int .i64 a.x1.s, .int .i64 a.y1.m, .int .i64 a.y1.s]) hb0))
  have HL := Lib.hid h.len
  obtain ⟨w0, hw0⟩ : ∃ w0, w.alloc (.cells #[.int .i64 a.x0.m, .int .i64 a.x0.s, .int .i64 a.y0.m, .int .i64 a.y0.s, .int .i64 a.x1.m, .int .i64 a.x1.s, .int .i64 a.y1.m, .int .i64 a.y1.s] 49) = w0 := ⟨_, rfl⟩
  rw [hw0] at H0
  have hs0 : w.heap.size < w0.heap.size := H0.out.2.1.lt
  clear h hb0
  unfold BV.val
  go_enter Tryz.func28, Tryz.ntmps28
  go_wp2_with fail
  try rw [hw0]
  clear hw0
  go_loopw [5] (fun s5 wr => ∃ k : Nat, k ≤ n ∧ s5 = .int .i64 (k : Int) ∧ Hid ((rs.take k).any (meetsB a) = false) ∧ Hid (Below w0.heap.size w0 wr)) (fun s5 _ => n - (intOf s5).toNat)
  case atStart => exact ⟨0, by omega, rfl, Lib.hid rfl, Lib.hid (Below.refl _ _)⟩
  case round =>
    obtain ⟨k, hk, rfl, HA, HB⟩ := hrel
    by_cases hlt : k < n
    · have d1 : decide ((k : Int) < (n : Int)) = true := decide_eq_true (by omega)
      obtain ⟨b, hb⟩ : ∃ b, rs[k]? = some b := ⟨_, List.getElem?_eq_getElem (by rw [HL.out]; exact hlt)⟩
      obtain ⟨R2, o2, rfl, hR2, y0, y1, y2, y3, y4, y5, y6, y7⟩ := (H0.out.1.below HB.out).get hb
      obtain ⟨⟨x0, x1, x2, x3, x4, x5, x6, x7⟩, lB⟩ := bxw_facts (b := a) (H0.out.2.1.here HB.out)
      obtain ⟨E, hE⟩ := meet_is a b
      have HC := Lib.hid (refmeets_any a b wr.drew _ E hE)
      have HS := Lib.hid (any_step0 (meetsB a) hb)
      have HM := Lib.hid (List.mem_of_getElem? hb)
      obtain ⟨q, hq⟩ : ∃ q, meetsB a b = q := ⟨_, rfl⟩
      rw [hq] at HC HS
      rw [HA.out] at HS
      have HQ := Lib.hid hq
      have g3 : (0 : Int) ≤ (k : Int) := by omega
      have g4 : (k : Int) < (n : Int) := by omega
      unfold BV.val at HC
      clear hb hE hq
      go_upto_region 4 with fail
      have HCC : Hid (∀ v, Below wr.heap.size wr v → (fun v => (v.cell? ⟨w.heap.size, 0, none⟩ = some (.int .i64 a.x0.m) ∧ v.cell? ⟨w.heap.size, 1, none⟩ = some (.int .i64 a.x0.s) ∧ v.cell? ⟨w.heap.size, 2, none⟩ = some (.int .i64 a.y0.m) ∧ v.cell? ⟨w.heap.size, 3, none⟩ = some (.int .i64 a.y0.s) ∧ v.cell? ⟨w.heap.size, 4, none⟩ = some (.int .i64 a.x1.m) ∧ v.cell? ⟨w.heap.size, 5, none⟩ = some (.int .i64 a.x1.s) ∧ v.cell? ⟨w.heap.size, 6, none⟩ = some (.int .i64 a.y1.m) ∧ v.cell? ⟨w.heap.size, 7, none⟩ = some (.int .i64 a.y1.s)) ∧ (v.cell? ⟨R2, o2 + k * 8, none⟩ = some (.int .i64 b.x0.m) ∧ v.cell? ⟨R2, o2 + k * 8 + 1, none⟩ = some (.int .i64 b.x0.s) ∧ v.cell? ⟨R2, o2 + k * 8 + 2, none⟩ = some (.int .i64 b.y0.m) ∧ v.cell? ⟨R2, o2 + k * 8 + 3, none⟩ = some (.int .i64 b.y0.s) ∧ v.cell? ⟨R2, o2 + k * 8 + 4, none⟩ = some (.int .i64 b.x1.m) ∧ v.cell? ⟨R2, o2 + k * 8 + 5, none⟩ = some (.int .i64 b.x1.s) ∧ v.cell? ⟨R2, o2 + k * 8 + 6, none⟩ = some (.int .i64 b.y1.m) ∧ v.cell? ⟨R2, o2 + k * 8 + 7, none⟩ = some (.int .i64 b.y1.s)) ∧ Below wr.heap.size wr v) v) := Lib.hid (fun v hb => ⟨⟨(hb.cell lB).trans x0, (hb.cell lB).trans x1, (hb.cell lB).trans x2, (hb.cell lB).trans x3, (hb.cell lB).trans x4, (hb.cell lB).trans x5, (hb.cell lB).trans x6, (hb.cell lB).trans x7⟩, ⟨(hb.cell hR2).trans y0, (hb.cell hR2).trans y1, (hb.cell hR2).trans y2, (hb.cell hR2).trans y3, (hb.cell hR2).trans y4, (hb.cell hR2).trans y5, (hb.cell hR2).trans y6, (hb.cell hR2).trans y7⟩, hb⟩)
      have hS := HCC.out wr.drew ((Below.refl wr.heap.size wr).drew)
      refine wp_region_C (fun v => (v.cell? ⟨w.heap.size, 0, none⟩ = some (.int .i64 a.x0.m) ∧ v.cell? ⟨w.heap.size, 1, none⟩ = some (.int .i64 a.x0.s) ∧ v.cell? ⟨w.heap.size, 2, none⟩ = some (.int .i64 a.y0.m) ∧ v.cell? ⟨w.heap.size, 3, none⟩ = some (.int .i64 a.y0.s) ∧ v.cell? ⟨w.heap.size, 4, none⟩ = some (.int .i64 a.x1.m) ∧ v.cell? ⟨w.heap.size, 5, none⟩ = some (.int .i64 a.x1.s) ∧ v.cell? ⟨w.heap.size, 6, none⟩ = some (.int .i64 a.y1.m) ∧ v.cell? ⟨w.heap.size, 7, none⟩ = some (.int .i64 a.y1.s)) ∧ (v.cell? ⟨R2, o2 + k * 8, none⟩ = some (.int .i64 b.x0.m) ∧ v.cell? ⟨R2, o2 + k * 8 + 1, none⟩ = some (.int .i64 b.x0.s) ∧ v.cell? ⟨R2, o2 + k * 8 + 2, none⟩ = some (.int .i64 b.y0.m) ∧ v.cell? ⟨R2, o2 + k * 8 + 3, none⟩ = some (.int .i64 b.y0.s) ∧ v.cell? ⟨R2, o2 + k * 8 + 4, none⟩ = some (.int .i64 b.x1.m) ∧ v.cell? ⟨R2, o2 + k * 8 + 5, none⟩ = some (.int .i64 b.x1.s) ∧ v.cell? ⟨R2, o2 + k * 8 + 6, none⟩ = some (.int .i64 b.y1.m) ∧ v.cell? ⟨R2, o2 + k * 8 + 7, none⟩ = some (.int .i64 b.y1.s)) ∧ Below wr.heap.size wr v) (by kernel_rfl) ?_
      refine wpAnyC_take (i := 0) (v := .agg #[.int .i64 a.x0.m, .int .i64 a.x0.s, .int .i64 a.y0.m, .int .i64 a.y0.s, .int .i64 a.x1.m, .int .i64 a.x1.s, .int .i64 a.y1.m, .int .i64 a.y1.s]) rfl (by kernel_rfl) (fun _ _ _ h => h) (Or.inl ⟨by rfl, ?y1⟩) hS ?r1
      case y1 => rintro wq ⟨⟨c0, c1, c2, c3, c4, c5, c6, c7⟩, -, -⟩; go_simp; try with_reducible rfl
      try simp only [Act.put, List.setIfInBounds_toArray, List.set_cons_zero, List.set_cons_succ]
      refine wpAnyC_take (i := 1) (v := ?v2) rfl (by kernel_rfl) (fun _ _ _ h => h) (Or.inl ⟨by rfl, ?y2⟩) hS ?r2
      case y2 => intro wq _; go_simp; all_goals (first | with_reducible rfl | go_num | (simp; done) | (simp; omega) | skip)
      try simp only [Act.put, List.setIfInBounds_toArray, List.set_cons_zero, List.set_cons_succ]
      refine wpAnyC_take (i := 2) (v := ?v3) rfl (by kernel_rfl) (fun _ _ _ h => h) (Or.inl ⟨by rfl, ?y3⟩) hS ?r3
      case y3 => intro wq _; go_simp; all_goals (first | with_reducible rfl | go_num | (simp; done) | (simp; omega) | skip)
      try simp only [Act.put, List.setIfInBounds_toArray, List.set_cons_zero, List.set_cons_succ]
      refine wpAnyC_take (i := 3) (v := .pointer (some ⟨R2, o2 + k * 8, none⟩)) rfl (by kernel_rfl) (fun _ _ _ h => h) (Or.inl ⟨by rfl, ?y4⟩) hS ?r4
      case y4 => intro wq _; go_simp; all_goals (first | with_reducible rfl | go_num | (simp; done) | (simp; omega) | skip)
      try simp only [Act.put, List.setIfInBounds_toArray, List.set_cons_zero, List.set_cons_succ]
      refine wpAnyC_take (i := 4) (v := .agg #[.int .i64 b.x0.m, .int .i64 b.x0.s, .int .i64 b.y0.m, .int .i64 b.y0.s, .int .i64 b.x1.m, .int .i64 b.x1.s, .int .i64 b.y1.m, .int .i64 b.y1.s]) rfl (by kernel_rfl) (fun _ _ _ h => h) (Or.inl ⟨by rfl, ?y5⟩) hS ?r5
      case y5 => rintro wq ⟨-, ⟨c0, c1, c2, c3, c4, c5, c6, c7⟩, -⟩; go_simp; try with_reducible rfl
      try simp only [Act.put, List.setIfInBounds_toArray, List.set_cons_zero, List.set_cons_succ]
      refine wpAnyC_one (j := 5) (by kernel_rfl) rfl (fun K hK => ?_)
      go_simp
      go_at_call 54
      refine HC.out.mono ?_
      rintro e v2 ⟨rfl, kk⟩
      have hb2 : Below wr.heap.size wr v2 := ((Below.refl wr.heap.size wr).drew).trans (kk.mono ((Below.refl wr.heap.size wr).drew).size)
      clear kk
      have hS := HCC.out v2 hb2
      go_wp2_with fail
      refine hK.out _ _ ⟨hS, ?_⟩
      clear hK K
      try simp only [Act.put, List.setIfInBounds_toArray, List.set_cons_zero, List.set_cons_succ]
      refine wpAnyC_take (i := 6) (v := ?v6) rfl (by kernel_rfl) (fun _ _ _ h => h) (Or.inl ⟨by rfl, ?y6⟩) hS ?r6
      case y6 => intro wq _; go_simp; all_goals (first | with_reducible rfl | go_num | (simp; done) | (simp; omega) | skip)
      try simp only [Act.put, List.setIfInBounds_toArray, List.set_cons_zero, List.set_cons_succ]
      refine wpAnyC_take (i := 7) (v := ?v7) rfl (by kernel_rfl) (fun _ _ _ h => h) (Or.inl ⟨by rfl, ?y7⟩) hS ?r7
      case y7 => intro wq _; go_simp; all_goals (first | with_reducible rfl | go_num | (simp; done) | (simp; omega) | skip)
      try simp only [Act.put, List.setIfInBounds_toArray, List.set_cons_zero, List.set_cons_succ]
      refine wpAnyC_take (i := 8) (v := ?v8) rfl (by kernel_rfl) (fun _ _ _ h => h) (Or.inl ⟨by rfl, ?y8⟩) hS ?r8
      case y8 => intro wq _; go_simp; all_goals (first | with_reducible rfl | go_num | (simp; done) | (simp; omega) | skip)
      try simp only [Act.put, List.setIfInBounds_toArray, List.set_cons_zero, List.set_cons_succ]
      refine wpAnyC_take (i := 9) (v := ?v9) rfl (by kernel_rfl) (fun _ _ _ h => h) (Or.inl ⟨by rfl, ?y9⟩) hS ?r9
      case y9 => intro wq _; go_simp; all_goals (first | with_reducible rfl | go_num | (simp; done) | (simp; omega) | skip)
      try simp only [Act.put, List.setIfInBounds_toArray, List.set_cons_zero, List.set_cons_succ]
      refine wpAnyC_take (i := 10) (v := ?v10) rfl (by kernel_rfl) (fun _ _ _ h => h) (Or.inl ⟨by rfl, ?y10⟩) hS ?r10
      case y10 => intro wq _; go_simp; all_goals (first | with_reducible rfl | go_num | (simp; done) | (simp; omega) | skip)
      try simp only [Act.put, List.setIfInBounds_toArray, List.set_cons_zero, List.set_cons_succ]
      refine wpAnyC_done (by kernel_rfl) ?_ _
      clear hS HCC
      have HB3 := Lib.hid (HB.out.trans (hb2.mono HB.out.size))
      clear hb2 x0 x1 x2 x3 x4 x5 x6 x7 y0 y1 y2 y3 y4 y5 y6 y7
      cases q
      · go_wp2_with fail
        go_roundw
        case rel => exact ⟨k + 1, by omega, by go_num, Lib.hid (by rw [HS.out]; rfl), HB3⟩
        case measure => simp [intOf]; omega
      · go_wp2_with fail
        go_ret
        refine ⟨?_, H0.out.2.2.trans (HB3.out.mono H0.out.2.2.size)⟩
        rw [List.any_eq_true.2 ⟨b, HM.out, HQ.out⟩]
        rfl
    · obtain rfl : k = n := by omega
      have d1 : decide ((k : Int) < (k : Int)) = false := by simp
      have hall : rs.any (meetsB a) = false := by
        have := HA.out
        rwa [List.take_of_length_le (by rw [HL.out]; exact Nat.le_refl _)] at this
      have HALL := Lib.hid hall
      clear hall
      go_wp2_with fail
      go_ret
      refine ⟨?_, H0.out.2.2.trans (HB.out.mono H0.out.2.2.size)⟩
      rw [HALL.out]
      rfl
theorem stays_cases (rs : List BV) (x : Mk) (p : Bool) (hp : rs.any (meetsB x.box) = p) : (stays rs x = true ∧ (p = false ∨ (p = true ∧ x.kind = 3 ∧ ¬ x.name.size = 0))) ∨ (stays rs x = false ∧ p = true ∧ (¬ x.kind = 3 ∨ (x.kind = 3 ∧ x.name.size = 0))) := by
  unfold stays imgB
  rw [hp]
  cases p
  · exact .inl ⟨by simp, .inl rfl⟩
  · by_cases h3 : x.kind = 3
    · by_cases h4 : x.name.size = 0
      · exact .inr ⟨by simp [h4], rfl, .inr ⟨h3, h4⟩⟩
      · exact .inl ⟨by simp [h3, h4], .inr ⟨rfl, h3, h4⟩⟩
    · exact .inr ⟨by simp [h3], rfl, .inl h3⟩
set_option maxRecDepth 100000 in
set_option maxHeartbeats 16000000 in
theorem rcut23_any (l : List Mk) (rs : List BV) (A : Option Addr) (n c : Nat) (A1 : Option Addr) (n1 c1 : Nat) (w : World) (hl : MarksAt w A n c l) (hn : n ≤ 1000000) (h : BxsAt w A1 n1 c1 rs) (hn1 : n1 ≤ 1000000) :
    Calls Tryz.prog 7 #[.slice A n c, .slice A1 n1 c1] w (CutSaidM l rs w) := by
  have hcap := hl.row.cap
  have htop := hl.row.top
  have hcap1 := RowAt.cap h
  have htop1 := RowAt.top h
  have HL := Lib.hid (And.intro hl.len h.len)
  have H := Lib.hid (And.intro hl h)
  clear hl h
  go_enter Tryz.func7, Tryz.ntmps7
  go_wp2_with fail
  go_loopw [6] (fun s6 wr => ∃ k : Nat, k ≤ n1 ∧ s6 = .int .i64 (k : Int) ∧ Hid ((rs.take k).all okB = true) ∧ Hid (Below w.heap.size w wr)) (fun s6 _ => n1 - (intOf s6).toNat)
  case atStart => exact ⟨0, by omega, rfl, Lib.hid (by simp), Lib.hid (Below.refl _ _)⟩
  case round =>
    obtain ⟨k, hk, rfl, HA, HB⟩ := hrel
    by_cases hlt : k < n1
    · have d1 : decide ((k : Int) < (n1 : Int)) = true := decide_eq_true (by omega)
      obtain ⟨b, hb⟩ : ∃ b, rs[k]? = some b := ⟨_, List.getElem?_eq_getElem (by rw [HL.out.2]; exact hlt)⟩
      obtain ⟨R2, o2, rfl, hR2, y0, y1, y2, y3, y4, y5, y6, y7⟩ := (H.out.2.below HB.out).get hb
      have HS := Lib.hid (all_step okB hb HA.out)
      have HN := Lib.hid (fun h => all_no okB hb h)
      have HC := Lib.hid (fun w => bright_any b w (okB b) rfl)
      obtain ⟨r, hr⟩ : ∃ r, okB b = r := ⟨_, rfl⟩
      rw [hr] at HC HS HN
      unfold BV.val at HC
      clear hb hr
      cases r
      · go_wp2_with fail
        refine (HC.out _).mono ?_
        rintro e w2 ⟨rfl, hb⟩
        have HB2 := Lib.hid (HB.out.trans (hb.mono HB.out.size))
        clear hb y0 y1 y2 y3 y4 y5 y6 y7
        go_wp2_with fail
        go_ret2
        refine cut_said_bad ?_ HB2.out
        unfold cutB
        rw [HN.out (by first | trivial | rfl), Bool.false_and]
      · go_wp2_with fail
        refine (HC.out _).mono ?_
        rintro e w2 ⟨rfl, hb⟩
        have HB2 := Lib.hid (HB.out.trans (hb.mono HB.out.size))
        clear hb y0 y1 y2 y3 y4 y5 y6 y7
        go_wp2_with fail
        go_roundw
        case rel => exact ⟨k + 1, by omega, by go_num, HS, HB2⟩
        case measure => simp [intOf]; omega
    · obtain rfl : k = n1 := by omega
      have d1 : decide ((k : Int) < (k : Int)) = false := by simp
      have hall : rs.all okB = true := by
        have := HA.out
        rwa [List.take_of_length_le (by rw [HL.out.2]; exact Nat.le_refl _)] at this
      have HALL := Lib.hid hall
      clear hall HA hlt hk
      rename World => wa
      have HWA := HB
      have hsa := HWA.out.size
      clear HB
      go_wp2_with fail
      go_loopw [7, 8] (fun v s8 wr => ∃ j : Nat, j ≤ n ∧ s8 = .int .i64 (j : Int) ∧ Hid ((l.take j).all mkB = true) ∧ Hid (wr.ownsRow wa.heap.size 55 25 v ((l.take j).filter (stays rs)).length (rowMk ((l.take j).filter (stays rs)))) ∧ Hid (Below wa.heap.size wa wr)) (fun _ s8 _ => n - (intOf s8).toNat)
      case atStart => exact ⟨0, by omega, rfl, Lib.hid (by simp), Lib.hid (World.ownsRow_nil _ _ _ _), Lib.hid (Below.refl _ _)⟩
      case round =>
        obtain ⟨j, hj, rfl, HA, HR, HB⟩ := hrel
        obtain ⟨a0, cc, rfl⟩ := own_slM HR.out
        have HBX := Lib.hid (HWA.out.trans (HB.out.mono HWA.out.size))
        by_cases hlt : j < n
        · have d1 : decide ((j : Int) < (n : Int)) = true := decide_eq_true (by omega)
          obtain ⟨x, hx⟩ : ∃ x, l[j]? = some x := ⟨_, List.getElem?_eq_getElem (by rw [HL.out.1]; exact hlt)⟩
          obtain ⟨R, o, rfl, hR, hc, -⟩ := (H.out.1.below HBX.out).get hx
          have HMA := Lib.hid hc
          obtain ⟨k0, -, -, -, -, -, -, -, -, -, -, -, -, s13, -, -, -, x0, x1, x2, x3, x4, x5, x6, x7⟩ := hc.cells
          have HS := Lib.hid (all_step mkB hx HA.out)
          have HN := Lib.hid (fun h => all_no mkB hx h)
          have HFS := Lib.hid (filt_step (stays rs) hx)
          have HMK := Lib.hid (show mkB x = (okB x.box && decide (1 ≤ x.kind ∧ x.kind ≤ 3)) from rfl)
          have HC := Lib.hid (fun w => bright_any x.box w (okB x.box) rfl)
          obtain ⟨r, hr⟩ : ∃ r, okB x.box = r := ⟨_, rfl⟩
          rw [hr] at HC HMK
          have hkl : ((l.take j).filter (stays rs)).length ≤ 1000000 := Nat.le_trans (List.length_filter_le _ _) (by rw [List.length_take]; omega)
          have HME := Lib.hid (fun w' (hb : Below wr.heap.size wr w') => rmeets23_any x.box A1 k c1 rs w' (H.out.2.below (HBX.out.trans (hb.mono HBX.out.size))) hn1)
          obtain ⟨p, hp⟩ : ∃ p, rs.any (meetsB x.box) = p := ⟨_, rfl⟩
          have hst := stays_cases rs x p hp
          rw [hp] at HME
          unfold BV.val at HC HME
          clear hx hr hc hp
          cases r
          · go_wp2_with fail
            refine (HC.out _).mono ?_
            rintro e w2 ⟨rfl, hb⟩
            have HB2 := Lib.hid (HBX.out.trans (hb.mono HBX.out.size))
            clear hb k0 s13 x0 x1 x2 x3 x4 x5 x6 x7
            go_wp2_with fail
            go_ret2
            refine cut_said_bad ?_ HB2.out
            unfold cutB
            rw [HN.out (by rw [HMK.out]; rfl), Bool.and_false]
          · go_wp2_with fail
            refine (HC.out _).mono ?_
            rintro e w2 ⟨rfl, hb⟩
            have hR2 : R < w2.heap.size := Nat.lt_of_lt_of_le hR hb.size
            have k0' := (hb.cell (p := ⟨R, o + j * 25, none⟩) hR).trans k0
            have s13' := (hb.cell (p := ⟨R, o + j * 25 + 13, none⟩) hR).trans s13
            have x0' := (hb.cell (p := ⟨R, o + j * 25 + 17, none⟩) hR).trans x0
            have x1' := (hb.cell (p := ⟨R, o + j * 25 + 18, none⟩) hR).trans x1
            have x2' := (hb.cell (p := ⟨R, o + j * 25 + 19, none⟩) hR).trans x2
            have x3' := (hb.cell (p := ⟨R, o + j * 25 + 20, none⟩) hR).trans x3
            have x4' := (hb.cell (p := ⟨R, o + j * 25 + 21, none⟩) hR).trans x4
            have x5' := (hb.cell (p := ⟨R, o + j * 25 + 22, none⟩) hR).trans x5
            have x6' := (hb.cell (p := ⟨R, o + j * 25 + 23, none⟩) hR).trans x6
            have x7' := (hb.cell (p := ⟨R, o + j * 25 + 24, none⟩) hR).trans x7
            have HB2 := Lib.hid hb
            have HBY := Lib.hid (HBX.out.trans (hb.mono HBX.out.size))
            clear hb k0 s13 x0 x1 x2 x3 x4 x5 x6 x7
            by_cases q1 : x.kind < 1
            · have HF := Lib.hid (HN.out (by rw [HMK.out, decide_eq_false (by omega)]; rfl))
              go_wp2_with fail
              go_ret2
              refine cut_said_bad ?_ HBY.out
              unfold cutB
              rw [HF.out, Bool.and_false]
            by_cases q2 : 3 < x.kind
            · have HF := Lib.hid (HN.out (by rw [HMK.out, decide_eq_false (by omega)]; rfl))
              go_wp2_with fail
              go_ret2
              refine cut_said_bad ?_ HBY.out
              unfold cutB
              rw [HF.out, Bool.and_false]
            have HT := Lib.hid (show (l.take (j + 1)).all mkB = true by rw [HS.out, HMK.out, decide_eq_true (by omega)]; rfl)
            go_wp2_with fail
            refine (HME.out _ HB2.out).mono ?_
            rintro e w3 ⟨rfl, hb⟩
            have HB3 := Lib.hid (HB.out.trans ((HB2.out.trans (hb.mono HB2.out.size)).mono HB.out.size))
            have hR3 : R < w3.heap.size := Nat.lt_of_lt_of_le hR2 hb.size
            have k0 := (hb.cell (p := ⟨R, o + j * 25, none⟩) hR2).trans k0'
            have s13 := (hb.cell (p := ⟨R, o + j * 25 + 13, none⟩) hR2).trans s13'
            have HO3 := Lib.hid (own_below3 HR.out (HB2.out.trans (hb.mono HB2.out.size)))
            have HA3 := Lib.hid (show ∀ (i : Nat) (u : Value), (mkA x).toList[i]? = some u → w3.cell? ⟨R, o + j * 25 + i, none⟩ = some u from fun i u hu => ((HB2.out.trans (hb.mono HB2.out.size)).cell (p := ⟨R, o + j * 25 + i, none⟩) hR).trans (HMA.out i u hu))
            have hs3 : wa.heap.size ≤ w3.heap.size := HB3.out.size
            clear hb k0' s13' x0' x1' x2' x3' x4' x5' x6' x7'
            have fin : ∀ (st : Bool), stays rs x = st → ((l.take (j + 1)).filter (stays rs)) = if st = true then (l.take j).filter (stays rs) ++ [x] else (l.take j).filter (stays rs) := fun st e => by rw [HFS.out, e]
            rcases hst with ⟨hst, hcs⟩ | ⟨hst, rfl, hcs⟩
            · have HFI := Lib.hid (fin true hst)
              obtain ⟨i0, hi, hz0, hz1, hz2⟩ := info_mk
              obtain ⟨w4, hw4⟩ : ∃ w4, w3.alloc (.cells (mkA x) 55) = w4 := ⟨_, rfl⟩
              have hb4 : Below w3.heap.size w3 w4 := by rw [← hw4]; exact (Below.refl _ _).alloc (Nat.le_refl _) _
              have HN4 := Lib.hid (show Whole w4 w3.heap.size 55 (mkA x) by rw [← hw4]; exact Whole.made _ _ _)
              have HO4 := Lib.hid (own_below3 HO3.out hb4)
              have HB4 := Lib.hid (HB3.out.trans (hb4.mono HB3.out.size))
              have hs4 := hb4.size
              have HW4 := Lib.hid hw4
              clear hw4 hb4 hst fin
              rcases hcs with rfl | ⟨rfl, h3, h4⟩
              · go_wp2_with (first
                  | (refine wpList_load_at rfl _ _ rfl R (o + j * 25) rfl (mkA x) _ HA3.out Tryz.underlying55 rfl (szMk x) ?_)
                  | (refine wpList_build_one rfl 22 55 _ rfl (mkA x) i0 _ 25 rfl (mkA_size x) HW4.out Tryz.underlying22 hi hz0 hz1 (by decide) (by decide) ?_)
                  | (at_builtin; refine wpList_append_own _ rfl _ _ 22 rfl wa.heap.size 55 i0 (.agg #[.int .i64 0, .int .i64 0, .int .i64 0, .int .i64 0, .int .i64 0, .int .i64 0, .int .i64 0, .int .i64 0, .int .i64 0, .int .i64 0, .int .i64 0, .int .i64 0, .int .i64 0, .string ⟨#[]⟩, .int .i64 0, .slice none 0 0, .slice none 0 0, .int .i64 0, .int .i64 0, .int .i64 0, .int .i64 0, .int .i64 0, .int .i64 0, .int .i64 0, .int .i64 0]) 25 240 Tryz.underlying22 hi hz0 hz1 hz2 rfl (by decide) _ _ _ rfl HO4.out ⟨w3.heap.size, 0, none⟩ 1 1 (mkV x) rfl rfl (World.news_of_block (cs := mkA x) HN4.out) ?p1 ?p2 ?p3 ?p4 ?_))
                case p1 => exact fun u hu => Array.all_eq_true_iff_forall_mem.1 (mkA_one x) u (Array.mem_toList_iff.1 hu)
                case p2 => unfold maxLen; omega
                case p3 => omega
                case p4 => omega
                intro v' w5 hown' hgrow _
                have hb5 := HB4.out.grown hgrow (by omega) (fun j e => (own_lt HO4.out e).1)
                have hown2 : w5.ownsRow wa.heap.size 55 25 v' ((l.take j).filter (stays rs) ++ [x]).length (rowMk ((l.take j).filter (stays rs) ++ [x])) := by rw [← rowMk_snoc, List.length_append]; exact hown'
                have HOB5 := Lib.hid (And.intro hown2 hb5)
                clear hown' hgrow hown2 hb5
                go_wp2_with fail
                go_roundw
                case rel => exact ⟨j + 1, by omega, by go_num, HT, Lib.hid (by rw [HFI.out]; exact HOB5.out.1), Lib.hid HOB5.out.2⟩
                case measure => simp [intOf]; omega
              · have hn2 := full_text (s := x.name) (by omega)
                have d3 : (x.kind == 3) = true := by simp [h3]
                clear h3 h4
                go_wp2_with (first
                  | (refine wpList_load_at rfl _ _ rfl R (o + j * 25) rfl (mkA x) _ HA3.out Tryz.underlying55 rfl (szMk x) ?_)
                  | (refine wpList_build_one rfl 22 55 _ rfl (mkA x) i0 _ 25 rfl (mkA_size x) HW4.out Tryz.underlying22 hi hz0 hz1 (by decide) (by decide) ?_)
                  | (at_builtin; refine wpList_append_own _ rfl _ _ 22 rfl wa.heap.size 55 i0 (.agg #[.int .i64 0, .int .i64 0, .int .i64 0, .int .i64 0, .int .i64 0, .int .i64 0, .int .i64 0, .int .i64 0, .int .i64 0, .int .i64 0, .int .i64 0, .int .i64 0, .int .i64 0, .string ⟨#[]⟩, .int .i64 0, .slice none 0 0, .slice none 0 0, .int .i64 0, .int .i64 0, .int .i64 0, .int .i64 0, .int .i64 0, .int .i64 0, .int .i64 0, .int .i64 0]) 25 240 Tryz.underlying22 hi hz0 hz1 hz2 rfl (by decide) _ _ _ rfl HO4.out ⟨w3.heap.size, 0, none⟩ 1 1 (mkV x) rfl rfl (World.news_of_block (cs := mkA x) HN4.out) ?p1 ?p2 ?p3 ?p4 ?_))
                case p1 => exact fun u hu => Array.all_eq_true_iff_forall_mem.1 (mkA_one x) u (Array.mem_toList_iff.1 hu)
                case p2 => unfold maxLen; omega
                case p3 => omega
                case p4 => omega
                intro v' w5 hown' hgrow _
                have hb5 := HB4.out.grown hgrow (by omega) (fun j e => (own_lt HO4.out e).1)
                have hown2 : w5.ownsRow wa.heap.size 55 25 v' ((l.take j).filter (stays rs) ++ [x]).length (rowMk ((l.take j).filter (stays rs) ++ [x])) := by rw [← rowMk_snoc, List.length_append]; exact hown'
                have HOB5 := Lib.hid (And.intro hown2 hb5)
                clear hown' hgrow hown2 hb5
                go_wp2_with fail
                go_roundw
                case rel => exact ⟨j + 1, by omega, by go_num, HT, Lib.hid (by rw [HFI.out]; exact HOB5.out.1), Lib.hid HOB5.out.2⟩
                case measure => simp [intOf]; omega
            · have HFI := Lib.hid (fin false hst)
              clear hst fin
              rcases hcs with h3 | ⟨h3, h4⟩
              · have d3 : (x.kind == 3) = false := by simp [h3]
                clear h3
                go_wp2_with fail
                go_roundw
                case rel => exact ⟨j + 1, by omega, by go_num, HT, Lib.hid (by rw [HFI.out]; exact HO3.out), HB3⟩
                case measure => simp [intOf]; omega
              · have hn2 := empty_text h4
                have d3 : (x.kind == 3) = true := by simp [h3]
                clear h3 h4
                go_wp2_with fail
                go_roundw
                case rel => exact ⟨j + 1, by omega, by go_num, HT, Lib.hid (by rw [HFI.out]; exact HO3.out), HB3⟩
                case measure => simp [intOf]; omega
        · obtain rfl : j = n := by omega
          have d1 : decide ((j : Int) < (j : Int)) = false := by simp
          have hlk : l.take j = l := List.take_of_length_le (by rw [HL.out.1]; exact Nat.le_refl _)
          have hall : cutB l rs = true := by
            have := HA.out
            rw [hlk] at this
            unfold cutB
            rw [HALL.out, this]
            rfl
          have HOK := Lib.hid (And.intro (cutE_ok hall) (cutL_ok hall))
          rw [hlk] at HR
          obtain ⟨A3, c3, e3, h3, -⟩ := MarksAt.of_own HR.out (fun x hx => (H.out.1.ok x (List.mem_filter.1 hx).1).later HBX.out)
          injection e3 with e3 e4 e5
          subst e3 e5
          have HZ := Lib.hid h3
          clear hlk hall h3 e4
          go_wp2_with fail
          go_ret2
          refine ⟨a0, cc, ?_, ?_, HBX.out⟩
          · rw [HOK.out.1, HOK.out.2]
            first | rfl | (rw [List.take_of_length_le (by rw [HL.out.1]; exact Nat.le_refl _)]; rfl)
          · rw [HOK.out.2]
            exact HZ.out
end Go.Proofs.YtdlmhienolmncaaGreat
