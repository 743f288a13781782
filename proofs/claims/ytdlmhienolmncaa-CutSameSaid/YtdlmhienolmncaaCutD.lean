/- cut: Cut, of any marks and regions. -/
import Derived.Test.YtdlmhienolmncaaCutC
namespace Go.Proofs.Ytdlmhienolmncaa
open Go.RowKit Dec

theorem okB_chk (b : BV) : ChkIs b (if okB b then 0 else 1) := by
  unfold okB
  by_cases h : b.Ok
  · rw [decide_eq_true h]; exact .inl ⟨h, rfl⟩
  · rw [decide_eq_false h]; exact .inr ⟨h, rfl⟩
theorem all_step {α : Type} (p : α → Bool) {l : List α} {k : Nat} {x : α} (h : l[k]? = some x) (ha : (l.take k).all p = true) : (l.take (k + 1)).all p = p x := by
  rw [List.take_add_one, h, List.all_append, ha, Bool.true_and]
  show List.all [x] p = _
  simp
theorem all_no {α : Type} (p : α → Bool) {l : List α} {k : Nat} {x : α} (h : l[k]? = some x) (hx : p x = false) : l.all p = false := by
  rw [List.all_eq_false]
  exact ⟨x, List.mem_of_getElem? h, by rw [hx]; decide⟩
def CutSaidM (l : List Mk) (rs : List BV) (w : World) (e : Ending) (w' : World) : Prop :=
  ∃ A' c', e = .returned (.tuple #[.slice A' (cutL l rs).length c', .int .i64 (cutE l rs)]) ∧ MarksAt w' A' (cutL l rs).length c' (cutL l rs) ∧ Below w.heap.size w w'
theorem marks_nil (w : World) : MarksAt w none 0 0 [] := ⟨RowAt.none _ _, fun x hx => by simp at hx⟩
theorem cut_said_bad {l : List Mk} {rs : List BV} {w w' : World} (h : cutB l rs = false) (hb : Below w.heap.size w w') : CutSaidM l rs w (.returned (.tuple #[.slice none 0 0, .int .i64 1])) w' := by
  obtain ⟨h1, h2⟩ := cutE_bad h
  refine ⟨none, 0, ?_, ?_, hb⟩
  · rw [h1, h2]; rfl
  · rw [h2]; exact marks_nil _
set_option maxRecDepth 100000 in
set_option maxHeartbeats 8000000 in
theorem cutM_any (l : List Mk) (rs : List BV) (A : Option Addr) (n c : Nat) (A2 : Option Addr) (n2 c2 : Nat) (w : World) (hl : MarksAt w A n c l) (hn : n ≤ 1000000) (h : BxsAt w A2 n2 c2 rs) (hn2 : n2 ≤ 1000000) :
    Calls Try.prog 8 #[.slice A n c, .slice A2 n2 c2] w (CutSaidM l rs w) := by
  have hcap := hl.row.cap
  have htop := hl.row.top
  have hcap2 := RowAt.cap h
  have htop2 := RowAt.top h
  have HL := Lib.hid hl.len
  have HL2 := Lib.hid h.len
  have HW0 := Lib.hid (Whole.made w 23 #[.slice A2 n2 c2])
  have hb0 : Below w.heap.size w (w.alloc (.cells #[.slice A2 n2 c2] 23)) := (Below.refl _ _).alloc (Nat.le_refl _) _
  have HB0 := Lib.hid hb0
  have HM := Lib.hid hl
  have HR := Lib.hid h
  clear hl h hb0
  go_enter Try.func8, Try.ntmps8
  go_wp2_with fail
  go_loopw [14] (fun i wr => ∃ k : Nat, i = .int .i64 (k : Int) ∧ k ≤ n2 ∧ Hid ((rs.take k).all okB = true) ∧ Hid (Below (w.heap.size + 1) (w.alloc (.cells #[.slice A2 n2 c2] 23)) wr)) (fun i _ => n2 - (intOf i).toNat)
  case atStart => exact ⟨0, rfl, by omega, Lib.hid (by simp), Lib.hid (Below.refl _ _)⟩
  case round =>
    obtain ⟨k, rfl, hk, HA, HB⟩ := hrel
    have hsz := HB.out.size
    simp only [World.size_alloc] at hsz
    have HBW := Lib.hid (HB0.out.trans (HB.out.mono (by omega)))
    by_cases hlt : k < n2
    · have d1 : decide ((k : Int) < (n2 : Int)) = true := decide_eq_true (by omega)
      obtain ⟨b, hb⟩ : ∃ b, rs[k]? = some b := ⟨_, List.getElem?_eq_getElem (by rw [HL2.out]; exact hlt)⟩
      obtain ⟨R2, o2, rfl, hR2, c0, c1, c3, c4, c5, c6, c7, c8⟩ := (HR.out.below HBW.out).get hb
      have HS := Lib.hid (all_step okB hb HA.out)
      have HN := Lib.hid (fun h => all_no okB hb h)
      obtain ⟨r, hr⟩ : ∃ r, okB b = r := ⟨_, rfl⟩
      have HC := Lib.hid (fun w => bcheck_any b w _ (okB_chk b))
      rw [hr] at HC HS HN
      unfold BV.val at HC
      clear hb hr
      cases r
      · go_wp2_with fail
        refine (HC.out _).mono ?_
        rintro e w2 ⟨rfl, hb⟩
        have hx : Below wr.heap.size wr w2 := ((Below.refl wr.heap.size wr).alloc (Nat.le_refl _) _).trans (hb.mono (by simp))
        have HB2 := Lib.hid (HBW.out.trans (hx.mono (by omega)))
        clear hx
        clear hb c0 c1 c3 c4 c5 c6 c7 c8
        simp only [Bool.false_eq_true, if_false]
        go_wp2_with fail
        go_ret2
        refine cut_said_bad ?_ HB2.out
        unfold cutB
        rw [HN.out (by first | trivial | rfl), Bool.false_and]
      · go_wp2_with fail
        refine (HC.out _).mono ?_
        rintro e w2 ⟨rfl, hb⟩
        have hx : Below wr.heap.size wr w2 := ((Below.refl wr.heap.size wr).alloc (Nat.le_refl _) _).trans (hb.mono (by simp))
        have HB2 := Lib.hid (HB.out.trans (hx.mono hsz))
        clear hx
        clear hb c0 c1 c3 c4 c5 c6 c7 c8
        simp only [if_true]
        go_wp2_with fail
        go_roundw
        case rel => exact ⟨k + 1, by go_num, by omega, HS, HB2⟩
        case measure => simp [intOf]; omega
    · obtain rfl : k = n2 := by omega
      have d1 : decide ((k : Int) < (k : Int)) = false := by simp
      have hall : rs.all okB = true := by
        have := HA.out
        rwa [List.take_of_length_le (by rw [HL2.out]; exact Nat.le_refl _)] at this
      have HALL := Lib.hid hall
      clear hall HA hlt hk
      have HQ := Lib.hid (HW0.out.later HB.out (by omega))
      obtain ⟨wa, hwa⟩ : ∃ wa, wa = wr := ⟨_, rfl⟩
      rw [← hwa] at HQ HBW ⊢
      have hsa : w.heap.size + 1 ≤ wa.heap.size := by rw [hwa]; exact hsz
      clear hwa hsz HB
      have q0 := HQ.out.reads 0
      have q1 := HQ.out.lt
      go_wp2_with fail
      go_loopw [26] (fun i wr => ∃ k : Nat, i = .int .i64 (k : Int) ∧ k ≤ n ∧ Hid ((l.take k).all mkB = true) ∧ Hid (Below wa.heap.size wa wr)) (fun i _ => n - (intOf i).toNat)
      case atStart => exact ⟨0, rfl, by omega, Lib.hid (by simp), Lib.hid (Below.refl _ _)⟩
      case round =>
        obtain ⟨j, rfl, hj, HA, HB⟩ := hrel
        have HBX := Lib.hid (HBW.out.trans (HB.out.mono (by omega)))
        by_cases hlt : j < n
        · have d1 : decide ((j : Int) < (n : Int)) = true := decide_eq_true (by omega)
          obtain ⟨x, hx⟩ : ∃ x, l[j]? = some x := ⟨_, List.getElem?_eq_getElem (by rw [HL.out]; exact hlt)⟩
          obtain ⟨R, o, rfl, hR, hc, -⟩ := (HM.out.below HBX.out).get hx
          have HAT := Lib.hid (show ∀ (i : Nat) (u : Value), (mkA x).toList[i]? = some u → wr.cell? ⟨R, o + j * 25 + i, none⟩ = some u from hc)
          have HS := Lib.hid (all_step mkB hx HA.out)
          have HN := Lib.hid (fun h => all_no mkB hx h)
          obtain ⟨w1, hw1⟩ : ∃ w1, wr.alloc (.cells (mkA x) 41) = w1 := ⟨_, rfl⟩
          have hW1 : Whole w1 wr.heap.size 41 (mkA x) := by rw [← hw1]; exact Whole.made _ _ _
          have HB1 := Lib.hid (show Below wa.heap.size wa w1 by rw [← hw1]; exact HB.out.alloc HB.out.size _)
          have HW1 := Lib.hid hw1
          have k0 : w1.cell? ⟨wr.heap.size, 0, none⟩ = some (.int .i64 x.kind) := hW1.reads 0
          have m0 : w1.cell? ⟨wr.heap.size, 17, none⟩ = some (.int .i64 x.box.x0.m) := hW1.reads 17
          have m1 : w1.cell? ⟨wr.heap.size, 18, none⟩ = some (.int .i64 x.box.x0.s) := hW1.reads 18
          have m2 : w1.cell? ⟨wr.heap.size, 19, none⟩ = some (.int .i64 x.box.y0.m) := hW1.reads 19
          have m3 : w1.cell? ⟨wr.heap.size, 20, none⟩ = some (.int .i64 x.box.y0.s) := hW1.reads 20
          have m4 : w1.cell? ⟨wr.heap.size, 21, none⟩ = some (.int .i64 x.box.x1.m) := hW1.reads 21
          have m5 : w1.cell? ⟨wr.heap.size, 22, none⟩ = some (.int .i64 x.box.x1.s) := hW1.reads 22
          have m6 : w1.cell? ⟨wr.heap.size, 23, none⟩ = some (.int .i64 x.box.y1.m) := hW1.reads 23
          have m7 : w1.cell? ⟨wr.heap.size, 24, none⟩ = some (.int .i64 x.box.y1.s) := hW1.reads 24
          have l1 := hW1.lt
          have HWW := Lib.hid hW1
          have HMK := Lib.hid (show mkB x = (okB x.box && decide (1 ≤ x.kind ∧ x.kind ≤ 3)) from rfl)
          obtain ⟨r, hr⟩ : ∃ r, okB x.box = r := ⟨_, rfl⟩
          have HC := Lib.hid (fun w => bcheck_any x.box w _ (okB_chk x.box))
          rw [hr] at HC HMK
          unfold BV.val at HC
          obtain ⟨kd, hkd⟩ : ∃ kd, x.kind = kd := ⟨_, rfl⟩
          rw [hkd] at k0 HMK
          have HKD := Lib.hid hkd
          clear hx hr hkd hc hw1 hW1 q0 q1
          cases r
          · go_wp2_with (first
              | (refine wpList_load_at rfl _ _ rfl R (o + j * 25) rfl (mkA x) _ HAT.out Try.underlying41 rfl (szMk x) ?_)
              | (refine wpList_store_let rfl _ _ _ rfl rfl _ _ (mkA x) HW1.out rfl rfl (szMk x) rfl (mkA_one x) ?_))
            refine (HC.out _).mono ?_
            rintro e w2 ⟨rfl, hb⟩
            have HB2 := Lib.hid (HBW.out.trans ((HB1.out.trans (hb.mono HB1.out.size)).mono (by omega)))
            clear hb k0 m0 m1 m2 m3 m4 m5 m6 m7
            simp only [Bool.false_eq_true, if_false]
            go_wp2_with fail
            go_ret2
            refine cut_said_bad ?_ HB2.out
            unfold cutB
            rw [HN.out (by rw [HMK.out]; rfl), Bool.and_false]
          · go_wp2_with (first
              | (refine wpList_load_at rfl _ _ rfl R (o + j * 25) rfl (mkA x) _ HAT.out Try.underlying41 rfl (szMk x) ?_)
              | (refine wpList_store_let rfl _ _ _ rfl rfl _ _ (mkA x) HW1.out rfl rfl (szMk x) rfl (mkA_one x) ?_))
            refine (HC.out _).mono ?_
            rintro e w2 ⟨rfl, hb⟩
            have HB2 := Lib.hid (HB1.out.trans (hb.mono HB1.out.size))
            have HBY := Lib.hid (HBW.out.trans (HB2.out.mono (by omega)))
            have hW2 := HWW.out.here hb
            have k2 := hW2.reads 0
            rw [show (mkA x)[0]? = some (.int .i64 x.kind) from rfl, HKD.out] at k2
            have l2 := hW2.lt
            clear hb k0 m0 m1 m2 m3 m4 m5 m6 m7 hW2
            simp only [if_true]
            by_cases q1 : kd < 1
            · have HF := Lib.hid (HN.out (by rw [HMK.out, decide_eq_false (by omega)]; rfl))
              go_wp2_with fail
              go_ret2
              refine cut_said_bad ?_ HBY.out
              unfold cutB
              rw [HF.out, Bool.and_false]
            by_cases q2 : 3 < kd
            · have HF := Lib.hid (HN.out (by rw [HMK.out, decide_eq_false (by omega)]; rfl))
              go_wp2_with fail
              go_ret2
              refine cut_said_bad ?_ HBY.out
              unfold cutB
              rw [HF.out, Bool.and_false]
            have HT := Lib.hid (show (l.take (j + 1)).all mkB = true by rw [HS.out, HMK.out, decide_eq_true (by omega)]; rfl)
            go_wp2_with fail
            go_roundw
            case rel => exact ⟨j + 1, by go_num, by omega, HT, HB2⟩
            case measure => simp [intOf]; omega
        · obtain rfl : j = n := by omega
          have d1 : decide ((j : Int) < (j : Int)) = false := by simp
          have hall : cutB l rs = true := by
            have := HA.out
            rw [List.take_of_length_le (by rw [HL.out]; exact Nat.le_refl _)] at this
            unfold cutB
            rw [HALL.out, this]
            rfl
          have HOK := Lib.hid (And.intro (cutE_ok hall) (cutL_ok hall))
          clear hall HA q0 q1
          have HQ2 := Lib.hid (HQ.out.here HB.out)
          go_wp2_with fail
          refine (keepM_any l w.heap.size A j c A2 _ c2 rs wr (HM.out.below HBX.out) hn (HR.out.below HBX.out) HQ2.out hn2).mono ?_
          rintro e w2 ⟨A', c', rfl, hm, hb⟩
          have HZ := Lib.hid (And.intro hm (HBX.out.trans (hb.mono HBX.out.size)))
          clear hm hb
          go_wp2_with fail
          go_ret2
          refine ⟨A', c', ?_, ?_, HZ.out.2⟩
          · rw [HOK.out.1, HOK.out.2]; rfl
          · rw [HOK.out.2]; exact HZ.out.1
end Go.Proofs.Ytdlmhienolmncaa
