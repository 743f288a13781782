/- The walk of box's Map, where one corner cannot be told. -/
import Derived.Test.YtgdfdlicfjjfjaaBoxMapC0
namespace Go.Proofs.Ytgdfdlicfjjfjaa
open Go.RowKit Dec

set_option maxRecDepth 100000 in
set_option maxHeartbeats 8000000 in
theorem bmap_bad3 (m : MV) (b : BV) (q : Nat → PV) (n : Nat) (E : Int) (w : World) (h : Hid m.Ok) (h' : Hid b.Ok) (hn : n < 4) (hq : Hid (∀ i < n, MapIs m (cornF b i) (q i) 0)) (hb' : Hid (MapIs m (cornF b n) .zero E)) (he1 : (E != 0) = true) :
    Calls Try.prog 11 #[m.val, b.val] w (IsB .zero E w) := by
  go_enter Try.func11, Try.ntmps11
  have hM := ((MIn.made w 35 m).old (.cells #[.int .i64 b.x0.m, .int .i64 b.x0.s, .int .i64 b.y0.m, .int .i64 b.y0.s, .int .i64 b.x1.m, .int .i64 b.x1.s, .int .i64 b.y1.m, .int .i64 b.y1.s] 25)).old (.cells #[.int .i64 0, .int .i64 0, .int .i64 0, .int .i64 0, .int .i64 0, .int .i64 0, .int .i64 0, .int .i64 0] 25)
  have hB := (BIn.made (w.alloc (.cells #[.int .i64 m.a.m, .int .i64 m.a.s, .int .i64 m.b.m, .int .i64 m.b.s, .int .i64 m.c.m, .int .i64 m.c.s, .int .i64 m.d.m, .int .i64 m.d.s, .int .i64 m.e.m, .int .i64 m.e.s, .int .i64 m.f.m, .int .i64 m.f.s] 35)) 25 b).old (.cells #[.int .i64 0, .int .i64 0, .int .i64 0, .int .i64 0, .int .i64 0, .int .i64 0, .int .i64 0, .int .i64 0] 25)
  have hR := Whole.made ((w.alloc (.cells #[.int .i64 m.a.m, .int .i64 m.a.s, .int .i64 m.b.m, .int .i64 m.b.s, .int .i64 m.c.m, .int .i64 m.c.s, .int .i64 m.d.m, .int .i64 m.d.s, .int .i64 m.e.m, .int .i64 m.e.s, .int .i64 m.f.m, .int .i64 m.f.s] 35)).alloc (.cells #[.int .i64 b.x0.m, .int .i64 b.x0.s, .int .i64 b.y0.m, .int .i64 b.y0.s, .int .i64 b.x1.m, .int .i64 b.x1.s, .int .i64 b.y1.m, .int .i64 b.y1.s] 25)) 25 #[.int .i64 0, .int .i64 0, .int .i64 0, .int .i64 0, .int .i64 0, .int .i64 0, .int .i64 0, .int .i64 0]
  simp only [World.size_alloc] at hB hR
  have HB : Hid (Below w.heap.size w (((w.alloc (.cells #[.int .i64 m.a.m, .int .i64 m.a.s, .int .i64 m.b.m, .int .i64 m.b.s, .int .i64 m.c.m, .int .i64 m.c.s, .int .i64 m.d.m, .int .i64 m.d.s, .int .i64 m.e.m, .int .i64 m.e.s, .int .i64 m.f.m, .int .i64 m.f.s] 35)).alloc (.cells #[.int .i64 b.x0.m, .int .i64 b.x0.s, .int .i64 b.y0.m, .int .i64 b.y0.s, .int .i64 b.x1.m, .int .i64 b.x1.s, .int .i64 b.y1.m, .int .i64 b.y1.s] 25)).alloc (.cells #[.int .i64 0, .int .i64 0, .int .i64 0, .int .i64 0, .int .i64 0, .int .i64 0, .int .i64 0, .int .i64 0] 25))) := by
    unfold Hid
    (repeat (first | with_reducible exact Below.refl _ _ | with_reducible refine Below.drew ?_ | with_reducible refine bdrewN ?_ _ | (with_reducible refine Below.setCell ?_ ?_ _; rotate_left; focus (first | exact Nat.le_refl _ | omega | (simp; omega) | (simp; done))) | (with_reducible refine Below.alloc ?_ ?_ _; rotate_left; focus (first | exact Nat.le_refl _ | omega | (simp; omega) | (simp; done))) | (with_reducible refine Below.trans ?_ (Below.mono (by assumption) ?_); rotate_left; focus (first | exact Nat.le_refl _ | omega | (simp; omega) | (simp; done)))))
  go_wp2_with fail
  refine (mcheck_any m _ 0 (.inl ⟨h.out, rfl⟩)).mono ?_
  rintro e w1 ⟨rfl, b1⟩
  have HB := Lib.hid (HB.out.trans (b1.mono HB.out.size))
  have hM := hM.later b1
  have hB := hB.later b1
  have hR := hR.here b1
  clear b1
  have lM := hM.lt
  have lB := hB.lt
  have lR := hR.lt
  obtain ⟨q0, q1, q2, q3, q4, q5, q6, q7⟩ := id hB
  go_wp2_with fail
  refine (bcheck_any b _ 0 (.inl ⟨h'.out, rfl⟩)).mono ?_
  rintro e w2 ⟨rfl, b1⟩
  have HB := Lib.hid (HB.out.trans (b1.mono HB.out.size))
  have hM := hM.later b1
  have hB := hB.later b1
  have hR := hR.here b1
  clear b1 q0 q1 q2 q3 q4 q5 q6 q7 lM lB lR
  have hS := And.intro hM hB
  go_wp2_with fail
  have gR : w.heap.size ≤ w.heap.size + 1 + 1 := by omega
  generalize w.heap.size + 1 + 1 = bR at *
  generalize w.heap.size + 1 = bB at *
  have lw := HB.out.size
  have lM := hM.lt
  have lB := hB.lt
  have lR := hR.lt
  have HV := Below.refl w2.heap.size w2
  go_cut [8, 9] (fun s8 s9 wx => ∃ g : Nat, s8 = .pointer (some ⟨g, 0, none⟩) ∧ s9 = .int .i64 E ∧ Whole wx g 51 (four (fun _ => PV.zero)) ∧ Whole wx bR 25 #[.int .i64 0, .int .i64 0, .int .i64 0, .int .i64 0, .int .i64 0, .int .i64 0, .int .i64 0, .int .i64 0] ∧ Hid (Below w.heap.size w wx))
  case first =>
    go_region_held3 (fun v => (v.cell? ⟨w.heap.size, 0, none⟩ = some (.int .i64 m.a.m) ∧ v.cell? ⟨w.heap.size, 1, none⟩ = some (.int .i64 m.a.s) ∧ v.cell? ⟨w.heap.size, 2, none⟩ = some (.int .i64 m.b.m) ∧ v.cell? ⟨w.heap.size, 3, none⟩ = some (.int .i64 m.b.s) ∧ v.cell? ⟨w.heap.size, 4, none⟩ = some (.int .i64 m.c.m) ∧ v.cell? ⟨w.heap.size, 5, none⟩ = some (.int .i64 m.c.s) ∧ v.cell? ⟨w.heap.size, 6, none⟩ = some (.int .i64 m.d.m) ∧ v.cell? ⟨w.heap.size, 7, none⟩ = some (.int .i64 m.d.s) ∧ v.cell? ⟨w.heap.size, 8, none⟩ = some (.int .i64 m.e.m) ∧ v.cell? ⟨w.heap.size, 9, none⟩ = some (.int .i64 m.e.s) ∧ v.cell? ⟨w.heap.size, 10, none⟩ = some (.int .i64 m.f.m) ∧ v.cell? ⟨w.heap.size, 11, none⟩ = some (.int .i64 m.f.s)) ∧ (v.cell? ⟨bB, 0, none⟩ = some (.int .i64 b.x0.m) ∧ v.cell? ⟨bB, 1, none⟩ = some (.int .i64 b.x0.s) ∧ v.cell? ⟨bB, 2, none⟩ = some (.int .i64 b.y0.m) ∧ v.cell? ⟨bB, 3, none⟩ = some (.int .i64 b.y0.s) ∧ v.cell? ⟨bB, 4, none⟩ = some (.int .i64 b.x1.m) ∧ v.cell? ⟨bB, 5, none⟩ = some (.int .i64 b.x1.s) ∧ v.cell? ⟨bB, 6, none⟩ = some (.int .i64 b.y1.m) ∧ v.cell? ⟨bB, 7, none⟩ = some (.int .i64 b.y1.s))) (first | with_reducible assumption | with_reducible exact And.intro (MIn.later hS.1 HV) (BIn.later hS.2 HV) | with_reducible exact And.intro (MIn.later hS.1 (Below.drew HV)) (BIn.later hS.2 (Below.drew HV)) | with_reducible exact And.intro (MIn.later hS.1 (HV.alloc HV.size _)) (BIn.later hS.2 (HV.alloc HV.size _)) | with_reducible exact And.intro (MIn.later hS.1 (Below.drew (HV.alloc HV.size _))) (BIn.later hS.2 (Below.drew (HV.alloc HV.size _))) | with_reducible exact And.intro (MIn.later hS.1 (B16 gB HV)) (BIn.later hS.2 (B16 gB HV)) | with_reducible exact And.intro (MIn.later hS.1 (B16 gB (Below.drew HV))) (BIn.later hS.2 (B16 gB (Below.drew HV))) | go_keep)
      (first
        | (go_at_call 17; (with_reducible refine (corners_any b _).mono ?_); rintro e v ⟨rfl, k⟩; (first | (with_reducible have k := undrew k) | skip); (first | (with_reducible have HN := Below.trans HV (k.mono HV.size); have HV := HN; clear HN; (first | (with_reducible have hG := Whole.here hG k; have lG := Whole.lt hG; have rg := Whole.reads hG; have fg := Whole.thawed hG) | skip)) | (with_reducible have HN := Below.trans (HV.alloc HV.size _) (k.mono (HV.alloc HV.size _).size); have gB := HV.size; have HV := HN; clear HN; have hG := (Whole.made _ 51 #[.int .i64 0, .int .i64 0, .int .i64 0, .int .i64 0, .int .i64 0, .int .i64 0, .int .i64 0, .int .i64 0, .int .i64 0, .int .i64 0, .int .i64 0, .int .i64 0, .int .i64 0, .int .i64 0, .int .i64 0, .int .i64 0]).here k; have lG := Whole.lt hG; have rg := Whole.reads hG; have fg := Whole.thawed hG)))
        | (go_at_call 22; (with_reducible refine (corn_bad m b q n E _ hn hq hb' he1).mono ?_); rintro e v ⟨rfl, k⟩; (first | (with_reducible have k := undrew k) | skip); (first | (with_reducible have HN := Below.trans HV (k.mono HV.size); have HV := HN; clear HN; (first | (with_reducible have hG := Whole.here hG k; have lG := Whole.lt hG; have rg := Whole.reads hG; have fg := Whole.thawed hG) | skip)) | (with_reducible have HN := Below.trans (HV.alloc HV.size _) (k.mono (HV.alloc HV.size _).size); have gB := HV.size; have HV := HN; clear HN; have hG := (Whole.made _ 51 #[.int .i64 0, .int .i64 0, .int .i64 0, .int .i64 0, .int .i64 0, .int .i64 0, .int .i64 0, .int .i64 0, .int .i64 0, .int .i64 0, .int .i64 0, .int .i64 0, .int .i64 0, .int .i64 0, .int .i64 0, .int .i64 0]).here k; have lG := Whole.lt hG; have rg := Whole.reads hG; have fg := Whole.thawed hG))))
    all_goals
      go_wp2_with fail
      go_meet
      refine ⟨_, rfl, rfl, ?_, ?_, ?_⟩
      · first
          | with_reducible exact Whole.fill16 hG
          | with_reducible exact Whole.made _ _ _
      · first
          | with_reducible exact (hR.here HV).away16 (Nat.ne_of_lt (Nat.lt_of_lt_of_le lR gB))
          | with_reducible exact (hR.here HV).old _
      · first
          | with_reducible exact Lib.hid (B16 (Nat.le_trans lw gB) (HB.out.trans (HV.mono HB.out.size)))
          | with_reducible exact Lib.hid ((HB.out.trans (HV.mono HB.out.size)).alloc (Nat.le_trans lw HV.size) _)
  case rest =>
    clear hS HB HV hM hB hR lM lB lR lw
    obtain ⟨g, rfl, rfl, hG, hR, HB⟩ := hcut
    have lG := hG.lt
    have lR := hR.lt
    have rd := hR.reads
    have ft := hR.thawed
    have lR := hR.lt
    go_wp2
    refine bodyPost_ret (v := .tuple #[BV.zero.val, .int .i64 E]) (by simp [results, Try.results11, go_sem, rd, BV.zero, DV.zero]) rfl ⟨rfl, ?_⟩
    (repeat (first | with_reducible refine Below.drew ?_ | with_reducible refine bdrewN ?_ _ | (with_reducible refine Below.setCell ?_ ?_ _; rotate_left; focus (first | exact Nat.le_refl _ | omega | (simp; omega) | (simp; done))) | (with_reducible refine Below.alloc ?_ ?_ _; rotate_left; focus (first | exact Nat.le_refl _ | omega | (simp; omega) | (simp; done))))); with_reducible exact HB.out
end Go.Proofs.Ytgdfdlicfjjfjaa
