/- The reference's Map of a box: the walk. -/
import Derived.Test.YtpdjooeogpidhaaRefBoxM
import Derived.Test.YtpdjooeogpidhaaBoxMapD
import Derived.Test.YtpdjooeogpidhaaRefMapW
namespace Go.Proofs.Ytpdjooeogpidhaa
open Go.RowKit Dec

/-- A point's four cells from cell o on, as they are read. -/
abbrev PQ (w : World) (R o : Nat) (p : PV) : Prop := w.cell? ⟨R, o, none⟩ = some (.int .i64 p.x.m) ∧ w.cell? ⟨R, o + 1, none⟩ = some (.int .i64 p.x.s) ∧ w.cell? ⟨R, o + 2, none⟩ = some (.int .i64 p.y.m) ∧ w.cell? ⟨R, o + 3, none⟩ = some (.int .i64 p.y.s)
theorem PQ.later {w w' : World} {R o : Nat} {p : PV} (h : PQ w R o p) (hb : Below w.heap.size w w') : PQ w' R o p :=
  ⟨cell_later' hb h.1, cell_later' hb h.2.1, cell_later' hb h.2.2.1, cell_later' hb h.2.2.2⟩
/-- What the loop knows. -/
def MpSt (m : MV) (q : Nat → PV) (b : BV) (w wx : World) (C k : Nat) : Prop := MIn wx w.heap.size m ∧ Whole wx C 27 (four (mix q (cornF b) k)) ∧ Whole wx (w.heap.size + 1 + 1) 40 #[.int .i64 0, .int .i64 0, .int .i64 0, .int .i64 0, .int .i64 0, .int .i64 0, .int .i64 0, .int .i64 0] ∧ Below w.heap.size w wx
theorem mix_at (q g : Nat → PV) (k : Nat) : mix q g k k = g k := by unfold mix; rw [if_neg (by omega)]
theorem mix_none (q g : Nat → PV) : four (mix q g 0) = four g := rfl
theorem B4 {W w : World} {b B : Nat} {x0 x1 x2 x3 : Value} (hB : b ≤ B) (h : Below b W w) : Below b W ((((w.setCell ⟨B, 0, none⟩ x0).setCell ⟨B, 1, none⟩ x1).setCell ⟨B, 2, none⟩ x2).setCell ⟨B, 3, none⟩ x3) := (((h.setCell hB _).setCell hB _).setCell hB _).setCell hB _
theorem Whole.fill4 {w : World} {g : Nat} {T : TypeId} {a0 a1 a2 a3 x0 x1 x2 x3 : Value} (h : Whole w g T #[a0, a1, a2, a3]) :
    Whole ((((w.setCell ⟨g, 0, none⟩ x0).setCell ⟨g, 1, none⟩ x1).setCell ⟨g, 2, none⟩ x2).setCell ⟨g, 3, none⟩ x3) g T #[x0, x1, x2, x3] := (((h.set 0 x0).set 1 x1).set 2 x2).set 3 x3
theorem MpSt.later {m : MV} {q : Nat → PV} {b : BV} {w wr v : World} {C k : Nat} (h : MpSt m q b w wr C k) (hv : Below wr.heap.size wr v) : MpSt m q b w v C k :=
  ⟨h.1.later hv, h.2.1.here hv, h.2.2.1.here hv, h.2.2.2.trans (hv.mono h.2.2.2.size)⟩
theorem MpSt.old {m : MV} {q : Nat → PV} {b : BV} {w v : World} {C k : Nat} (h : MpSt m q b w v C k) (o : Obj) : MpSt m q b w (v.alloc o) C k := h.later ((Below.refl _ _).alloc (Nat.le_refl _) o)
theorem MpSt.away4 {m : MV} {q : Nat → PV} {b : BV} {w v : World} {C k B : Nat} (h : MpSt m q b w v C k) (h1 : w.heap.size + 1 + 1 < B) (h2 : C < B) (x0 x1 x2 x3 : Value) :
    MpSt m q b w ((((v.setCell ⟨B, 0, none⟩ x0).setCell ⟨B, 1, none⟩ x1).setCell ⟨B, 2, none⟩ x2).setCell ⟨B, 3, none⟩ x3) C k :=
  ⟨h.1.away4 (by omega) _ _ _ _ _ _ _ _, h.2.1.away4 (by omega) _ _ _ _ _ _ _ _, h.2.2.1.away4 (by omega) _ _ _ _ _ _ _ _, B4 (by omega) h.2.2.2⟩
set_option maxRecDepth 100000 in
set_option maxHeartbeats 8000000 in
theorem refbmap_any (m : MV) (b r : BV) (q : Nat → PV) (n : Nat) (E : Int) (w : World) (h : Hid m.Ok) (h' : Hid b.Ok) (hn : n ≤ 4) (hq : Hid (∀ i < n, MapIs m (cornF b i) (q i) 0))
    (hE : Hid ((n = 4 ∧ E = 0 ∧ r = ofN q 4) ∨ (n < 4 ∧ MapIs m (cornF b n) .zero E ∧ E ≠ 0 ∧ r = .zero))) :
    Calls Try.prog 23 #[m.val, b.val] w (IsB r E w) := by
  go_enter Try.func23, Try.ntmps23
  have hM := ((MIn.made w 25 m).old (.cells #[.int .i64 b.x0.m, .int .i64 b.x0.s, .int .i64 b.y0.m, .int .i64 b.y0.s, .int .i64 b.x1.m, .int .i64 b.x1.s, .int .i64 b.y1.m, .int .i64 b.y1.s] 40)).old (.cells #[.int .i64 0, .int .i64 0, .int .i64 0, .int .i64 0, .int .i64 0, .int .i64 0, .int .i64 0, .int .i64 0] 40)
  have hB := (BIn.made (w.alloc (.cells #[.int .i64 m.a.m, .int .i64 m.a.s, .int .i64 m.b.m, .int .i64 m.b.s, .int .i64 m.c.m, .int .i64 m.c.s, .int .i64 m.d.m, .int .i64 m.d.s, .int .i64 m.e.m, .int .i64 m.e.s, .int .i64 m.f.m, .int .i64 m.f.s] 25)) 40 b).old (.cells #[.int .i64 0, .int .i64 0, .int .i64 0, .int .i64 0, .int .i64 0, .int .i64 0, .int .i64 0, .int .i64 0] 40)
  have hR := Whole.made ((w.alloc (.cells #[.int .i64 m.a.m, .int .i64 m.a.s, .int .i64 m.b.m, .int .i64 m.b.s, .int .i64 m.c.m, .int .i64 m.c.s, .int .i64 m.d.m, .int .i64 m.d.s, .int .i64 m.e.m, .int .i64 m.e.s, .int .i64 m.f.m, .int .i64 m.f.s] 25)).alloc (.cells #[.int .i64 b.x0.m, .int .i64 b.x0.s, .int .i64 b.y0.m, .int .i64 b.y0.s, .int .i64 b.x1.m, .int .i64 b.x1.s, .int .i64 b.y1.m, .int .i64 b.y1.s] 40)) 40 #[.int .i64 0, .int .i64 0, .int .i64 0, .int .i64 0, .int .i64 0, .int .i64 0, .int .i64 0, .int .i64 0]
  simp only [World.size_alloc] at hB hR
  have HB : Hid (Below w.heap.size w (((w.alloc (.cells #[.int .i64 m.a.m, .int .i64 m.a.s, .int .i64 m.b.m, .int .i64 m.b.s, .int .i64 m.c.m, .int .i64 m.c.s, .int .i64 m.d.m, .int .i64 m.d.s, .int .i64 m.e.m, .int .i64 m.e.s, .int .i64 m.f.m, .int .i64 m.f.s] 25)).alloc (.cells #[.int .i64 b.x0.m, .int .i64 b.x0.s, .int .i64 b.y0.m, .int .i64 b.y0.s, .int .i64 b.x1.m, .int .i64 b.x1.s, .int .i64 b.y1.m, .int .i64 b.y1.s] 40)).alloc (.cells #[.int .i64 0, .int .i64 0, .int .i64 0, .int .i64 0, .int .i64 0, .int .i64 0, .int .i64 0, .int .i64 0] 40))) := by
    unfold Hid
    (repeat (first | with_reducible exact Below.refl _ _ | with_reducible refine Below.drew ?_ | with_reducible refine bdrewN ?_ _ | (with_reducible refine Below.setCell ?_ ?_ _; rotate_left; focus (first | exact Nat.le_refl _ | omega | (simp; omega) | (simp; done))) | (with_reducible refine Below.alloc ?_ ?_ _; rotate_left; focus (first | exact Nat.le_refl _ | omega | (simp; omega) | (simp; done))) | (with_reducible refine Below.trans ?_ (Below.mono (by assumption) ?_); rotate_left; focus (first | exact Nat.le_refl _ | omega | (simp; omega) | (simp; done)))))
  go_wp2_with fail
  refine (mright_any m _ true (decide_eq_true h.out)).mono ?_
  rintro e w1 ⟨rfl, b1⟩
  have HB := Lib.hid (HB.out.trans (b1.mono HB.out.size))
  have hM := hM.later b1
  have hB := hB.later b1
  have hR := hR.here b1
  clear b1
  have lM := hM.lt
  have lB := hB.lt
  have lR := hR.lt
  obtain ⟨q0, q1, q2, q3, q4, q5, q6, q7⟩ := id hB
  go_wp2_with fail
  refine (bright_any b _ true (decide_eq_true h'.out)).mono ?_
  rintro e w2 ⟨rfl, b1⟩
  have HB := Lib.hid (HB.out.trans (b1.mono HB.out.size))
  have hM := hM.later b1
  have hB := hB.later b1
  have hR := hR.here b1
  clear b1 q0 q1 q2 q3 q4 q5 q6 q7 lM lB lR
  have lM := hM.lt
  have lB := hB.lt
  have lR := hR.lt
  obtain ⟨q0, q1, q2, q3, q4, q5, q6, q7⟩ := id hB
  go_wp2_with fail
  have HS := Lib.hid (show MpSt m q b w (w2.alloc (.cells (four (mix q (cornF b) 0)) 27)) w2.heap.size 0 from ⟨hM.old _, Whole.made _ _ _, hR.old _, HB.out.alloc HB.out.size _⟩)
  have lC : w.heap.size + 1 + 1 < w2.heap.size := lR
  clear hM hB hR HB q0 q1 q2 q3 q4 q5 q6 q7 lM lB lR
  obtain ⟨C, hC⟩ : ∃ C, w2.heap.size = C := ⟨_, rfl⟩
  rw [hC] at HS lC
  rw [hC]
  clear hC
  go_loopw [7] (fun i wr => ∃ k : Nat, k ≤ n ∧ i = .int .i64 k ∧ Hid (MpSt m q b w wr C k)) (fun i _ => 4 - (intOf i).toNat)
  case atStart => exact ⟨0, Nat.zero_le _, rfl, HS⟩
  case round =>
    clear HS
    obtain ⟨k, hk, rfl, hS0⟩ := hrel
    by_cases hlt : k < 4
    · obtain ⟨p, Ek, hMk, hpe⟩ : ∃ p Ek, MapIs m (cornF b k) p Ek ∧ ((k < n ∧ p = q k ∧ Ek = 0) ∨ (k = n ∧ p = .zero ∧ Ek = E ∧ E ≠ 0 ∧ r = .zero)) := by
        by_cases hkn : k < n
        · exact ⟨_, _, hq.out k hkn, .inl ⟨hkn, rfl, rfl⟩⟩
        · obtain rfl : k = n := by omega
          rcases hE.out with ⟨h4, _⟩ | ⟨_, hz, hne, hr⟩
          · omega
          · exact ⟨_, _, hz, .inr ⟨rfl, rfl, rfl, hne, hr⟩⟩
      have HMk := Lib.hid hMk
      have HPE := Lib.hid hpe
      clear hMk hpe
      obtain ⟨hM, hC, hR, hb⟩ := id hS0.out
      have k4 := four_at (mix q (cornF b) k) k (by omega)
      rw [mix_at] at k4
      have c0 := (hC.reads (k * 4)).trans k4.1
      have c1 := (hC.reads (k * 4 + 1)).trans k4.2.1
      have c2 := (hC.reads (k * 4 + 2)).trans k4.2.2.1
      have c3 := (hC.reads (k * 4 + 3)).trans k4.2.2.2
      clear k4
      have lC9 := hC.lt
      have lM := hM.lt
      have hS := And.intro hM (show PQ wr C (k * 4) (cornF b k) from ⟨c0, c1, c2, c3⟩)
      have HB := Lib.hid hb
      clear c0 c1 c2 c3 hM hb
      have HV := Below.refl wr.heap.size wr
      have hd4 : decide ((k : Int) < 4) = true := by simp; omega
      go_wp2_with fail
      clear hd4
      have hk0 : (0 : Int) ≤ (k : Int) := by omega
      have hk4 : (k : Int) < 4 := by omega
      go_cut [8, 9] from 44 to 52 (fun s8 s9 wx => ∃ g : Nat, s8 = .pointer (some ⟨g, 0, none⟩) ∧ s9 = .int .i64 Ek ∧ wr.heap.size ≤ g ∧ Whole wx g 27 #[.int .i64 p.x.m, .int .i64 p.x.s, .int .i64 p.y.m, .int .i64 p.y.s] ∧ Hid (MpSt m q b w wx C k))
      case first =>
        go_region_held3 (fun v => (v.cell? ⟨w.heap.size, 0, none⟩ = some (.int .i64 m.a.m) ∧ v.cell? ⟨w.heap.size, 1, none⟩ = some (.int .i64 m.a.s) ∧ v.cell? ⟨w.heap.size, 2, none⟩ = some (.int .i64 m.b.m) ∧ v.cell? ⟨w.heap.size, 3, none⟩ = some (.int .i64 m.b.s) ∧ v.cell? ⟨w.heap.size, 4, none⟩ = some (.int .i64 m.c.m) ∧ v.cell? ⟨w.heap.size, 5, none⟩ = some (.int .i64 m.c.s) ∧ v.cell? ⟨w.heap.size, 6, none⟩ = some (.int .i64 m.d.m) ∧ v.cell? ⟨w.heap.size, 7, none⟩ = some (.int .i64 m.d.s) ∧ v.cell? ⟨w.heap.size, 8, none⟩ = some (.int .i64 m.e.m) ∧ v.cell? ⟨w.heap.size, 9, none⟩ = some (.int .i64 m.e.s) ∧ v.cell? ⟨w.heap.size, 10, none⟩ = some (.int .i64 m.f.m) ∧ v.cell? ⟨w.heap.size, 11, none⟩ = some (.int .i64 m.f.s)) ∧ (v.cell? ⟨C, k * 4, none⟩ = some (.int .i64 (cornF b k).x.m) ∧ v.cell? ⟨C, k * 4 + 1, none⟩ = some (.int .i64 (cornF b k).x.s) ∧ v.cell? ⟨C, k * 4 + 2, none⟩ = some (.int .i64 (cornF b k).y.m) ∧ v.cell? ⟨C, k * 4 + 3, none⟩ = some (.int .i64 (cornF b k).y.s)))
          (first | with_reducible assumption | with_reducible exact And.intro (MIn.later hS.1 HV) (PQ.later hS.2 HV) | with_reducible exact And.intro (MIn.later hS.1 (Below.drew HV)) (PQ.later hS.2 (Below.drew HV)) | with_reducible exact And.intro (MIn.later hS.1 (HV.alloc HV.size _)) (PQ.later hS.2 (HV.alloc HV.size _)) | with_reducible exact And.intro (MIn.later hS.1 (Below.drew (HV.alloc HV.size _))) (PQ.later hS.2 (Below.drew (HV.alloc HV.size _))) | with_reducible exact And.intro (MIn.later hS.1 (B4 gB HV)) (PQ.later hS.2 (B4 gB HV)) | with_reducible exact And.intro (MIn.later hS.1 (B4 gB (Below.drew HV))) (PQ.later hS.2 (B4 gB (Below.drew HV))) | with_reducible exact And.intro (MIn.later hS.1 (B4 HV.size (HV.alloc HV.size _))) (PQ.later hS.2 (B4 HV.size (HV.alloc HV.size _))) | with_reducible exact And.intro (MIn.later hS.1 (B4 HV.size (Below.drew (HV.alloc HV.size _)))) (PQ.later hS.2 (B4 HV.size (Below.drew (HV.alloc HV.size _)))) | go_keep)
          (first | (go_at_call 6; (with_reducible refine (refmap_any m (cornF b k) p Ek _ HMk.out).mono ?_); rintro e v ⟨rfl, kk⟩; (first | (with_reducible have kk := undrew kk) | skip); (first | (with_reducible have HN := Below.trans HV (kk.mono HV.size); have HV := HN; clear HN kk) | (with_reducible have HN := Below.trans (HV.alloc HV.size _) (kk.mono (HV.alloc HV.size _).size); have gB := HV.size; have hG := (Whole.made _ 27 #[.int .i64 0, .int .i64 0, .int .i64 0, .int .i64 0]).here kk; have HV := HN; clear HN kk; have lG := Whole.lt hG; have rg := Whole.reads hG; have fg := Whole.thawed hG))))
        all_goals
          go_wp2_with fail
          go_meet
          refine ⟨_, rfl, rfl, ?_, ?_, ?_⟩
          · first
              | with_reducible exact HV.size
              | with_reducible exact gB
              | with_reducible exact Nat.le_refl _
          · first
              | with_reducible exact Whole.fill4 hG
              | with_reducible exact Whole.made _ _ _
          · first
              | with_reducible exact Lib.hid ((hS0.out.later HV).old _)
              | with_reducible exact Lib.hid ((hS0.out.later HV).away4 hR.lt lC9 _ _ _ _)
      case rest =>
        clear hS HV hC hR HB lC9 lM hS0
        obtain ⟨g, rfl, rfl, hgl, hG, HS⟩ := hcut
        have rg := hG.reads
        have lG := hG.lt
        obtain ⟨hM, hC, hR, hb⟩ := id HS.out
        by_cases hkn : k < n
        · obtain ⟨rfl, rfl⟩ : p = q k ∧ Ek = 0 := by
            rcases HPE.out with ⟨-, h1, h2⟩ | ⟨h1, -⟩
            · exact ⟨h1, h2⟩
            · omega
          have lC1 := hC.lt
          have k4 := four_at (mix q (cornF b) k) k (by omega)
          have c0 := (hC.reads (k * 4)).trans k4.1
          have c1 := (hC.reads (k * 4 + 1)).trans k4.2.1
          have c2 := (hC.reads (k * 4 + 2)).trans k4.2.2.1
          have c3 := (hC.reads (k * 4 + 3)).trans k4.2.2.2
          have ft := hC.thawed
          clear k4
          go_wp2
          go_roundw
          case rel =>
            have k5 := ((((hC.set (k * 4) (.int .i64 (q k).x.m)).set (k * 4 + 1) (.int .i64 (q k).x.s)).set (k * 4 + 2) (.int .i64 (q k).y.m)).set (k * 4 + 3) (.int .i64 (q k).y.s))
            rw [mix_cells q (cornF b) k (by omega)] at k5
            exact ⟨k + 1, by omega, by go_num, Lib.hid ⟨hM.away4 (by omega) _ _ _ _ _ _ _ _, k5, hR.away4 (by omega) _ _ _ _ _ _ _ _, by (repeat (first | with_reducible refine Below.drew ?_ | with_reducible refine bdrewN ?_ _ | (with_reducible refine Below.setCell ?_ ?_ _; rotate_left; focus (first | exact Nat.le_refl _ | omega | (simp; omega) | (simp; done))) | (with_reducible refine Below.alloc ?_ ?_ _; rotate_left; focus (first | exact Nat.le_refl _ | omega | (simp; omega) | (simp; done))))); with_reducible exact hb⟩⟩
          case measure => simp [intOf]; omega
        · obtain ⟨rfl, rfl, hne, rfl⟩ : p = .zero ∧ Ek = E ∧ E ≠ 0 ∧ r = .zero := by
            rcases HPE.out with ⟨h1, -⟩ | ⟨-, h1, h2, h3, h4⟩
            · omega
            · exact ⟨h1, h2, h3, h4⟩
          have he1 : (Ek != 0) = true := by rw [bne_iff_ne]; exact hne
          have rd := hR.reads
          have ft := hR.thawed
          have lR := hR.lt
          clear rg lG hne
          go_wp2
          refine bodyPost_ret (v := .tuple #[BV.zero.val, .int .i64 Ek]) (by simp [results, Try.results23, go_sem, rd, BV.zero, DV.zero]) rfl ⟨rfl, ?_⟩
          (repeat (first | with_reducible refine Below.drew ?_ | with_reducible refine bdrewN ?_ _ | (with_reducible refine Below.setCell ?_ ?_ _; rotate_left; focus (first | exact Nat.le_refl _ | omega | (simp; omega) | (simp; done))) | (with_reducible refine Below.alloc ?_ ?_ _; rotate_left; focus (first | exact Nat.le_refl _ | omega | (simp; omega) | (simp; done))))); with_reducible exact hb
    · obtain ⟨rfl, rfl⟩ : k = 4 ∧ n = 4 := by omega
      obtain ⟨rfl, rfl⟩ : E = 0 ∧ r = ofN q 4 := by
        rcases hE.out with ⟨-, h1, h2⟩ | ⟨h1, -⟩
        · exact ⟨h1, h2⟩
        · omega
      obtain ⟨hM, hC, hR, hb⟩ := id hS0.out
      rw [mix_all] at hC
      have hF : Hid (∀ i < 4, PAt wr C (0 + i * 4) (q i)) := fun i hi => by
        have k4 := four_at q i hi
        rw [Nat.zero_add]
        exact ⟨(hC.reads (i * 4)).trans k4.1, (hC.reads (i * 4 + 1)).trans k4.2.1, (hC.reads (i * 4 + 2)).trans k4.2.2.1, (hC.reads (i * 4 + 3)).trans k4.2.2.2⟩
      have HX := Lib.hid (And.intro hR hb)
      clear hM hC hR hb hS0
      go_wp2_with fail
      refine (refof_any q 4 4 C 0 _ (ofN q 4) 0 (by omega) (by omega) hF (.inr (.inr ⟨by omega, fun i hi => (hq.out i hi).ok.1, rfl, rfl⟩))).mono ?_
      rintro e w3 ⟨rfl, kk⟩
      have hR := HX.out.1.here kk
      have hb := HX.out.2.trans (kk.mono HX.out.2.size)
      have rd := hR.reads
      have ft := hR.thawed
      have lR := hR.lt
      clear kk
      go_wp2_with fail
      refine bodyPost_ret (v := .tuple #[(ofN q 4).val, .int .i64 0]) (by simp [results, Try.results23, go_sem, rd]) rfl ⟨rfl, ?_⟩
      (repeat (first | with_reducible refine Below.drew ?_ | with_reducible refine bdrewN ?_ _ | (with_reducible refine Below.setCell ?_ ?_ _; rotate_left; focus (first | exact Nat.le_refl _ | omega | (simp; omega) | (simp; done))) | (with_reducible refine Below.alloc ?_ ?_ _; rotate_left; focus (first | exact Nat.le_refl _ | omega | (simp; omega) | (simp; done))))); with_reducible exact hb
end Go.Proofs.Ytpdjooeogpidhaa
