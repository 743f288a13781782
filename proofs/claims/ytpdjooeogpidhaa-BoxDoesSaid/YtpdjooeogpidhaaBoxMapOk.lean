/- The walk of box's mapAll, where all four can be told. -/
import Derived.Test.YtpdjooeogpidhaaBoxMapA
namespace Go.Proofs.Ytpdjooeogpidhaa
open Go.RowKit Dec

set_option maxRecDepth 100000 in
set_option maxHeartbeats 8000000 in
theorem mapAll_ok (m : MV) (g q : Nat → PV) (w : World) (hq : Hid (∀ i < 4, MapIs m (g i) (q i) 0)) :
    Calls Try.prog 43 #[m.val, .agg (four g)] w fun e w' => e = .returned (.tuple #[.agg (four q), .int .i64 0]) ∧ Below w.heap.size w w' := by
  go_enter Try.func43, Try.ntmps43
  go_wp2
  have hM := ((MIn.made w 25 m).old (.cells (four g) 69)).old (.cells #[.int .i64 0, .int .i64 0, .int .i64 0, .int .i64 0, .int .i64 0, .int .i64 0, .int .i64 0, .int .i64 0, .int .i64 0, .int .i64 0, .int .i64 0, .int .i64 0, .int .i64 0, .int .i64 0, .int .i64 0, .int .i64 0] 69)
  have hC := (Whole.made (w.alloc (.cells #[.int .i64 m.a.m, .int .i64 m.a.s, .int .i64 m.b.m, .int .i64 m.b.s, .int .i64 m.c.m, .int .i64 m.c.s, .int .i64 m.d.m, .int .i64 m.d.s, .int .i64 m.e.m, .int .i64 m.e.s, .int .i64 m.f.m, .int .i64 m.f.s] 25)) 69 (four g)).old (.cells #[.int .i64 0, .int .i64 0, .int .i64 0, .int .i64 0, .int .i64 0, .int .i64 0, .int .i64 0, .int .i64 0, .int .i64 0, .int .i64 0, .int .i64 0, .int .i64 0, .int .i64 0, .int .i64 0, .int .i64 0, .int .i64 0] 69)
  have hR := Whole.made ((w.alloc (.cells #[.int .i64 m.a.m, .int .i64 m.a.s, .int .i64 m.b.m, .int .i64 m.b.s, .int .i64 m.c.m, .int .i64 m.c.s, .int .i64 m.d.m, .int .i64 m.d.s, .int .i64 m.e.m, .int .i64 m.e.s, .int .i64 m.f.m, .int .i64 m.f.s] 25)).alloc (.cells (four g) 69)) 69 #[.int .i64 0, .int .i64 0, .int .i64 0, .int .i64 0, .int .i64 0, .int .i64 0, .int .i64 0, .int .i64 0, .int .i64 0, .int .i64 0, .int .i64 0, .int .i64 0, .int .i64 0, .int .i64 0, .int .i64 0, .int .i64 0]
  simp only [World.size_alloc] at hC hR
  have HS : Hid (AllSt m q g w (((w.alloc (.cells #[.int .i64 m.a.m, .int .i64 m.a.s, .int .i64 m.b.m, .int .i64 m.b.s, .int .i64 m.c.m, .int .i64 m.c.s, .int .i64 m.d.m, .int .i64 m.d.s, .int .i64 m.e.m, .int .i64 m.e.s, .int .i64 m.f.m, .int .i64 m.f.s] 25)).alloc (.cells (four g) 69)).alloc (.cells #[.int .i64 0, .int .i64 0, .int .i64 0, .int .i64 0, .int .i64 0, .int .i64 0, .int .i64 0, .int .i64 0, .int .i64 0, .int .i64 0, .int .i64 0, .int .i64 0, .int .i64 0, .int .i64 0, .int .i64 0, .int .i64 0] 69)) 0) := ⟨hM, hC, hR, by (repeat (first | with_reducible exact Below.refl _ _ | with_reducible refine Below.drew ?_ | with_reducible refine bdrewN ?_ _ | (with_reducible refine Below.setCell ?_ ?_ _; rotate_left; focus (first | exact Nat.le_refl _ | omega | (simp; omega) | (simp; done))) | (with_reducible refine Below.alloc ?_ ?_ _; rotate_left; focus (first | exact Nat.le_refl _ | omega | (simp; omega) | (simp; done))) | (with_reducible refine Below.trans ?_ (Below.mono (by assumption) ?_); rotate_left; focus (first | exact Nat.le_refl _ | omega | (simp; omega) | (simp; done)))))⟩
  clear hM hC hR
  go_loopw [11] (fun i wr => ∃ k : Nat, k ≤ 4 ∧ i = .int .i64 k ∧ Hid (AllSt m q g w wr k)) (fun i _ => 4 - (intOf i).toNat)
  case atStart => exact ⟨0, Nat.zero_le _, rfl, HS⟩
  case round =>
    clear HS
    obtain ⟨k, hk, rfl, hS⟩ := hrel
    by_cases hlt : k < 4
    · obtain ⟨hM, hC, hR, hb⟩ := id hS.out
      have hix := idx4 g k (by omega)
      have lC := hC.lt
      have lR := hR.lt
      have hP := PIn.made wr 27 (g k)
      have hM := hM.old (.cells #[.int .i64 (g k).x.m, .int .i64 (g k).x.s, .int .i64 (g k).y.m, .int .i64 (g k).y.s] 27)
      have hC := hC.old (.cells #[.int .i64 (g k).x.m, .int .i64 (g k).x.s, .int .i64 (g k).y.m, .int .i64 (g k).y.s] 27)
      have hR := hR.old (.cells #[.int .i64 (g k).x.m, .int .i64 (g k).x.s, .int .i64 (g k).y.m, .int .i64 (g k).y.s] 27)
      have HB : Hid (Below w.heap.size w (wr.alloc (.cells #[.int .i64 (g k).x.m, .int .i64 (g k).x.s, .int .i64 (g k).y.m, .int .i64 (g k).y.s] 27))) := Below.alloc hb (by omega) _
      clear hb hS
      obtain ⟨fm0, fm1, fm2, fm3, fm4, fm5, fm6, fm7, fm8, fm9, fm10, fm11⟩ := id hM
      go_wp2_with fail
      refine (map_any m (g k) (q k) 0 _ (hq.out k hlt)).mono ?_
      rintro e1 w1 ⟨rfl, b1⟩
      have HB := Lib.hid (HB.out.trans (b1.mono HB.out.size))
      have hM := hM.later b1
      have hC := hC.here b1
      have hR := hR.here b1
      have lC1 := hC.lt
      have lR1 := hR.lt
      have lM1 := hM.lt
      clear b1 hP fm0 fm1 fm2 fm3 fm4 fm5 fm6 fm7 fm8 fm9 fm10 fm11 lC lR hix
      generalize wr.heap.size = P at *
      have k4 := four_at (mix q g k) k (by omega)
      have c0 := (hC.reads (k * 4)).trans k4.1
      have c1 := (hC.reads (k * 4 + 1)).trans k4.2.1
      have c2 := (hC.reads (k * 4 + 2)).trans k4.2.2.1
      have c3 := (hC.reads (k * 4 + 3)).trans k4.2.2.2
      have ft := hC.thawed
      clear k4
      go_wp2
      go_roundw
      case rel =>
        have k5 := ((((hC.set (k * 4) (.int .i64 (q k).x.m)).set (k * 4 + 1) (.int .i64 (q k).x.s)).set (k * 4 + 2) (.int .i64 (q k).y.m)).set (k * 4 + 3) (.int .i64 (q k).y.s))
        rw [mix_cells q g k (by omega)] at k5
        exact ⟨k + 1, by omega, by go_num, Lib.hid ⟨(hM.away4 (by omega) _ _ _ _ _ _ _ _).old _, k5.old _, (hR.away4 (by omega) _ _ _ _ _ _ _ _).old _, by (repeat (first | with_reducible refine Below.drew ?_ | with_reducible refine bdrewN ?_ _ | (with_reducible refine Below.setCell ?_ ?_ _; rotate_left; focus (first | exact Nat.le_refl _ | omega | (simp; omega) | (simp; done))) | (with_reducible refine Below.alloc ?_ ?_ _; rotate_left; focus (first | exact Nat.le_refl _ | omega | (simp; omega) | (simp; done))))); with_reducible exact HB.out⟩⟩
      case measure => simp [intOf]; omega
    · obtain rfl : k = 4 := by omega
      obtain ⟨hM, hC, hR, hb⟩ := id hS.out
      rw [mix_all] at hC
      have rd := hR.reads
      have ft := hR.thawed
      have rc := hC.reads
      have lC := hC.lt
      have lR := hR.lt
      clear hM hC hR hS
      go_wp2
      refine bodyPost_ret (v := .tuple #[.agg (four q), .int .i64 0]) (by simp [results, Try.results43, go_sem, rd]) rfl ⟨rfl, ?_⟩
      (repeat (first | with_reducible refine Below.drew ?_ | with_reducible refine bdrewN ?_ _ | (with_reducible refine Below.setCell ?_ ?_ _; rotate_left; focus (first | exact Nat.le_refl _ | omega | (simp; omega) | (simp; done))) | (with_reducible refine Below.alloc ?_ ?_ _; rotate_left; focus (first | exact Nat.le_refl _ | omega | (simp; omega) | (simp; done))))); with_reducible exact hb
end Go.Proofs.Ytpdjooeogpidhaa
