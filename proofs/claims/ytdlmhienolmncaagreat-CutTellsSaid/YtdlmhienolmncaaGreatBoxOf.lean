/- The walk of box's Of. -/
import Derived.Test.YtdlmhienolmncaaGreatBoxWalkB
import Derived.Test.YtdlmhienolmncaaGreatMatMapB
import Derived.Deep.RegionHeld3
import Derived.BigRegion
import Derived.Deep.CutRange
import Derived.Test.YtdlmhienolmncaaGreatRegionC
namespace Go.Proofs.YtdlmhienolmncaaGreat
open Go.RowKit Dec

/-- A point's four cells, from cell o on. -/
def PAt (w : World) (R o : Nat) (p : PV) : Prop := w.cell? ⟨R, o, none⟩ = some (.int .i64 p.x.m) ∧ w.cell? ⟨R, o + 1, none⟩ = some (.int .i64 p.x.s) ∧ w.cell? ⟨R, o + 2, none⟩ = some (.int .i64 p.y.m) ∧ w.cell? ⟨R, o + 3, none⟩ = some (.int .i64 p.y.s)
theorem PAt.later {w w' : World} {R o : Nat} {p : PV} (h : PAt w R o p) (hb : Below w.heap.size w w') : PAt w' R o p :=
  ⟨cell_later' hb h.1, cell_later' hb h.2.1, cell_later' hb h.2.2.1, cell_later' hb h.2.2.2⟩
theorem PAt.lt {w : World} {R o : Nat} {p : PV} (h : PAt w R o p) : R < w.heap.size := World.block_lt_of_cell? _ _ h.1
theorem Whole.away4 {w : World} {g B : Nat} {T : TypeId} {cs : Array Value} (h : Whole w g T cs) (hn : g ≠ B) (i j k l : Nat) (a b c d : Value) :
    Whole ((((w.setCell ⟨B, i, none⟩ a).setCell ⟨B, j, none⟩ b).setCell ⟨B, k, none⟩ c).setCell ⟨B, l, none⟩ d) g T cs :=
  (((h.away (p := ⟨B, i, none⟩) hn a).away (p := ⟨B, j, none⟩) hn b).away (p := ⟨B, k, none⟩) hn c).away (p := ⟨B, l, none⟩) hn d
theorem far' {w : World} {g B o i : Nat} {u v : Value} (hn : ¬ B = g) (h : w.cell? ⟨g, o, none⟩ = some v) : (w.setCell ⟨B, i, none⟩ u).cell? ⟨g, o, none⟩ = some v :=
  (World.cell?_setCell_other w ⟨B, i, none⟩ ⟨g, o, none⟩ u (fun e => by cases e; exact hn rfl)).trans h
theorem PIn.away4 {w : World} {g B : Nat} {p : PV} (h : PIn w g p) (hn : ¬ B = g) (i j k l : Nat) (a b c d : Value) :
    PIn ((((w.setCell ⟨B, i, none⟩ a).setCell ⟨B, j, none⟩ b).setCell ⟨B, k, none⟩ c).setCell ⟨B, l, none⟩ d) g p :=
  ⟨far' hn (far' hn (far' hn (far' hn h.1))), far' hn (far' hn (far' hn (far' hn h.2.1))), far' hn (far' hn (far' hn (far' hn h.2.2.1))), far' hn (far' hn (far' hn (far' hn h.2.2.2)))⟩

/-- What a round knows: the result's variable, the box, what there was. -/
def OfSt (w wx : World) (b : BV) : Prop := Whole wx w.heap.size 49 #[.int .i64 0, .int .i64 0, .int .i64 0, .int .i64 0, .int .i64 0, .int .i64 0, .int .i64 0, .int .i64 0] ∧ Whole wx (w.heap.size + 1) 49 #[.int .i64 b.x0.m, .int .i64 b.x0.s, .int .i64 b.y0.m, .int .i64 b.y0.s, .int .i64 b.x1.m, .int .i64 b.x1.s, .int .i64 b.y1.m, .int .i64 b.y1.s] ∧ Below w.heap.size w wx
theorem OfSt.mk {w wx : World} {b : BV} {x0 y0 x1 y1 : DV} (h0 : Whole wx w.heap.size 49 #[.int .i64 0, .int .i64 0, .int .i64 0, .int .i64 0, .int .i64 0, .int .i64 0, .int .i64 0, .int .i64 0]) (h1 : Whole wx (w.heap.size + 1) 49 #[.int .i64 x0.m, .int .i64 x0.s, .int .i64 y0.m, .int .i64 y0.s, .int .i64 x1.m, .int .i64 x1.s, .int .i64 y1.m, .int .i64 y1.s]) (h2 : Below w.heap.size w wx) (e0 : x0 = b.x0) (e1 : y0 = b.y0) (e2 : x1 = b.x1) (e3 : y1 = b.y1) : OfSt w wx b := by
  subst e0 e1 e2 e3; exact ⟨h0, h1, h2⟩

set_option maxHeartbeats 8000000 in
theorem of_any (f : Nat → PV) (n c R o : Nat) (w : World) (b : BV) (E : Int) (hn : 0 < n) (hm : n ≤ 1000000) (hF : Hid (∀ i < n, PAt w R (o + i * 4) (f i))) (h : Hid (OfIs f n b E)) :
    Calls Tryz.prog 112 #[.slice (some ⟨R, o, none⟩) n c] w fun e w' => e = .returned (.tuple #[b.val, .int .i64 E]) ∧ Below w.heap.size w w' := by
  obtain ⟨p0, p1, p2, p3⟩ := hF.out 0 hn
  simp only [Nat.zero_mul, Nat.add_zero] at p0 p1 p2 p3
  have lR : R < w.heap.size := World.block_lt_of_cell? _ _ p0
  have hn0 : ((n : Int) == 0) = false := by rw [beq_eq_false_iff_ne]; omega
  go_enter Tryz.func112, Tryz.ntmps112
  go_wp2
  go_region
  go_wp2
  have hB0 := (Whole.made w 49 #[.int .i64 0, .int .i64 0, .int .i64 0, .int .i64 0, .int .i64 0, .int .i64 0, .int .i64 0, .int .i64 0]).old (.cells #[.int .i64 (f 0).x.m, .int .i64 (f 0).x.s, .int .i64 (f 0).y.m, .int .i64 (f 0).y.s, .int .i64 (f 0).x.m, .int .i64 (f 0).x.s, .int .i64 (f 0).y.m, .int .i64 (f 0).y.s] 49)
  have hB1 := Whole.made (w.alloc (.cells #[.int .i64 0, .int .i64 0, .int .i64 0, .int .i64 0, .int .i64 0, .int .i64 0, .int .i64 0, .int .i64 0] 49)) 49 #[.int .i64 (f 0).x.m, .int .i64 (f 0).x.s, .int .i64 (f 0).y.m, .int .i64 (f 0).y.s, .int .i64 (f 0).x.m, .int .i64 (f 0).x.s, .int .i64 (f 0).y.m, .int .i64 (f 0).y.s]
  simp only [World.size_alloc] at hB1
  have lB : Below w.heap.size w ((w.alloc (.cells #[.int .i64 0, .int .i64 0, .int .i64 0, .int .i64 0, .int .i64 0, .int .i64 0, .int .i64 0, .int .i64 0] 49)).alloc (.cells #[.int .i64 (f 0).x.m, .int .i64 (f 0).x.s, .int .i64 (f 0).y.m, .int .i64 (f 0).y.s, .int .i64 (f 0).x.m, .int .i64 (f 0).x.s, .int .i64 (f 0).y.m, .int .i64 (f 0).y.s] 49)).drew := by (repeat (first | with_reducible exact Below.refl _ _ | with_reducible refine Below.drew ?_ | with_reducible refine bdrewN ?_ _ | (with_reducible refine Below.setCell ?_ ?_ _; rotate_left; focus (first | exact Nat.le_refl _ | omega | (simp; omega) | (simp; done))) | (with_reducible refine Below.alloc ?_ ?_ _; rotate_left; focus (first | exact Nat.le_refl _ | omega | (simp; omega) | (simp; done))) | (with_reducible refine Below.trans ?_ (Below.mono (by assumption) ?_); rotate_left; focus (first | exact Nat.le_refl _ | omega | (simp; omega) | (simp; done)))))
  have HS : Hid (OfSt w ((w.alloc (.cells #[.int .i64 0, .int .i64 0, .int .i64 0, .int .i64 0, .int .i64 0, .int .i64 0, .int .i64 0, .int .i64 0] 49)).alloc (.cells #[.int .i64 (f 0).x.m, .int .i64 (f 0).x.s, .int .i64 (f 0).y.m, .int .i64 (f 0).y.s, .int .i64 (f 0).x.m, .int .i64 (f 0).x.s, .int .i64 (f 0).y.m, .int .i64 (f 0).y.s] 49)).drew (ofN f 0)) := ⟨hB0, hB1, lB⟩
  clear hB0 hB1 lB p0 p1 p2 p3
  go_loopw [30] (fun i wr => ∃ k : Nat, k ≤ n ∧ i = .int .i64 k ∧ Hid (∀ i < k, (f i).Ok) ∧ Hid (OfSt w wr (ofN f k))) (fun i _ => n - (intOf i).toNat)
  case atStart => exact ⟨0, Nat.zero_le _, rfl, fun i hi => absurd hi (by omega), HS⟩
  case round =>
    clear HS
    obtain ⟨k, hk, rfl, hpre, hS⟩ := hrel
    obtain ⟨hW, hB, hb⟩ := id hS.out
    have l1 := hB.lt
    by_cases hlt : k < n
    · obtain ⟨p0, p1, p2, p3⟩ := (hF.out k hlt).later hb
      have lR' : R < wr.heap.size := World.block_lt_of_cell? _ _ p0
      have hP := PIn.made wr 162 (f k)
      have hB' := Whole.old hB (.cells #[.int .i64 (f k).x.m, .int .i64 (f k).x.s, .int .i64 (f k).y.m, .int .i64 (f k).y.s] 162)
      have hW' := Whole.old hW (.cells #[.int .i64 (f k).x.m, .int .i64 (f k).x.s, .int .i64 (f k).y.m, .int .i64 (f k).y.s] 162)
      have HB : Hid (Below w.heap.size w (wr.alloc (.cells #[.int .i64 (f k).x.m, .int .i64 (f k).x.s, .int .i64 (f k).y.m, .int .i64 (f k).y.s] 162))) := Below.alloc hb (by omega) _
      have gP : w.heap.size + 1 < wr.heap.size := l1
      by_cases hx : (f k).x.Ok
      · have HX := Lib.hid hx
        clear hx
        by_cases hy : (f k).y.Ok
        · have HY := Lib.hid hy
          clear hy
          go_wp2_with fail
          refine (dcheck_any (f k).x _ 0 (.inl ⟨HX.out, rfl⟩)).mono ?_
          rintro e w1 ⟨rfl, b1⟩
          have HB := Lib.hid (HB.out.trans (b1.mono HB.out.size))
          have hP := PIn.later hP b1
          have hB' := Whole.here hB' b1
          have hW' := Whole.here hW' b1
          clear b1
          have lP := hP.lt
          obtain ⟨q0, q1, q2, q3⟩ := id hP
          go_wp2_with fail
          refine (dcheck_any (f k).y _ 0 (.inl ⟨HY.out, rfl⟩)).mono ?_
          rintro e w2 ⟨rfl, b1⟩
          have HB := Lib.hid (HB.out.trans (b1.mono HB.out.size))
          have hP := PIn.later hP b1
          have hB' := Whole.here hB' b1
          have hW' := Whole.here hW' b1
          clear q0 q1 q2 q3 lP p0 p1 p2 p3 hW hB hb l1 hS
          clear b1
          have lW := hW'.lt
          have lP := hP.lt
          have l1 := hB'.lt
          generalize wr.heap.size = P at *
          go_wp2_with fail
          go_cut [30] from 30 to 69 (fun i wx => i = .int .i64 k ∧ Hid (Whole wx w.heap.size 49 #[.int .i64 0, .int .i64 0, .int .i64 0, .int .i64 0, .int .i64 0, .int .i64 0, .int .i64 0, .int .i64 0] ∧ Whole wx (w.heap.size + 1) 49 #[.int .i64 (lesD (ofN f k).x0 (f k).x).m, .int .i64 (lesD (ofN f k).x0 (f k).x).s, .int .i64 (ofN f k).y0.m, .int .i64 (ofN f k).y0.s, .int .i64 (greD (ofN f k).x1 (f k).x).m, .int .i64 (greD (ofN f k).x1 (f k).x).s, .int .i64 (ofN f k).y1.m, .int .i64 (ofN f k).y1.s] ∧ PIn wx P (f k) ∧ Below w.heap.size w wx))
          case first =>
            have rb := hB'.reads
            have HC0 := And.intro (rb 0) (And.intro (rb 1) (And.intro (rb 4) (And.intro (rb 5) (And.intro hP.1 hP.2.1))))
            clear rb
            refine wp_region_S 11 (fun v => v.cell? ⟨w.heap.size + 1, 0, none⟩ = some (.int .i64 (ofN f k).x0.m) ∧ v.cell? ⟨w.heap.size + 1, 1, none⟩ = some (.int .i64 (ofN f k).x0.s) ∧ v.cell? ⟨w.heap.size + 1, 4, none⟩ = some (.int .i64 (ofN f k).x1.m) ∧ v.cell? ⟨w.heap.size + 1, 5, none⟩ = some (.int .i64 (ofN f k).x1.s) ∧ v.cell? ⟨P, 0, none⟩ = some (.int .i64 (f k).x.m) ∧ v.cell? ⟨P, 1, none⟩ = some (.int .i64 (f k).x.s)) (by kernel_rfl) ?_
            refine wpAnyS_takeW (i := 0) (v := ?v1) rfl (by kernel_rfl) (fun _ _ _ h => h) (Or.inl ⟨by rfl, ?y1⟩) (fun _ => HC0) ?r1
            case y1 => intro wq _; go_simp; try with_reducible rfl
            try simp only [Act.put, List.setIfInBounds_toArray, List.set_cons_zero, List.set_cons_succ]
            refine wpAnyS_takeW (i := 2) (v := ?v2) rfl (by kernel_rfl) (fun _ _ _ h => h) (Or.inl ⟨by rfl, ?y2⟩) (fun _ => HC0) ?r2
            case y2 => intro wq _; go_simp; try with_reducible rfl
            try simp only [Act.put, List.setIfInBounds_toArray, List.set_cons_zero, List.set_cons_succ]
            refine wpAnyS_takeW (i := 5) (v := ?v3) rfl (by kernel_rfl) (fun _ _ _ h => h) (Or.inl ⟨by rfl, ?y3⟩) (fun _ => HC0) ?r3
            case y3 => intro wq _; go_simp; try with_reducible rfl
            try simp only [Act.put, List.setIfInBounds_toArray, List.set_cons_zero, List.set_cons_succ]
            refine wpAnyS_takeW (i := 7) (v := ?v4) rfl (by kernel_rfl) (fun _ _ _ h => h) (Or.inl ⟨by rfl, ?y4⟩) (fun _ => HC0) ?r4
            case y4 => intro wq _; go_simp; try with_reducible rfl
            try simp only [Act.put, List.setIfInBounds_toArray, List.set_cons_zero, List.set_cons_succ]
            refine wpAnyS_take (i := 1) (v := ?v5) rfl (by kernel_rfl) (fun _ _ _ h => h) (Or.inl ⟨by rfl, ?y5⟩) HC0 ?r5
            case y5 => intro wq hq; (try dsimp only at hq); go_simp; try with_reducible rfl
            try simp only [Act.put, List.setIfInBounds_toArray, List.set_cons_zero, List.set_cons_succ]
            refine wpAnyS_take (i := 3) (v := ?v6) rfl (by kernel_rfl) (fun _ _ _ h => h) (Or.inl ⟨by rfl, ?y6⟩) HC0 ?r6
            case y6 => intro wq hq; (try dsimp only at hq); go_simp; try with_reducible rfl
            try simp only [Act.put, List.setIfInBounds_toArray, List.set_cons_zero, List.set_cons_succ]
            refine wpAnyS_take (i := 6) (v := ?v7) rfl (by kernel_rfl) (fun _ _ _ h => h) (Or.inl ⟨by rfl, ?y7⟩) HC0 ?r7
            case y7 => intro wq hq; (try dsimp only at hq); go_simp; try with_reducible rfl
            try simp only [Act.put, List.setIfInBounds_toArray, List.set_cons_zero, List.set_cons_succ]
            refine wpAnyS_take (i := 8) (v := ?v8) rfl (by kernel_rfl) (fun _ _ _ h => h) (Or.inl ⟨by rfl, ?y8⟩) HC0 ?r8
            case y8 => intro wq hq; (try dsimp only at hq); go_simp; try with_reducible rfl
            try simp only [Act.put, List.setIfInBounds_toArray, List.set_cons_zero, List.set_cons_succ]
            refine wpAnyS_one (j := 4) (by kernel_rfl) rfl (fun K hK => ?_)
            go_simp
            go_at_call 135; (with_reducible refine (lesser_any (ofN f k).x0 (f k).x _).mono ?_)
            rintro e v3 ⟨rfl, k3⟩
            have k3 := undrew k3
            have hP3 := PIn.later hP k3
            have hW3 := Whole.here hW' k3
            have hB3 := Whole.here hB' k3
            have HB3 := Lib.hid (HB.out.trans (k3.mono HB.out.size))
            have r3 := hB3.reads
            have HC3 := And.intro (r3 0) (And.intro (r3 1) (And.intro (r3 4) (And.intro (r3 5) (And.intro hP3.1 hP3.2.1))))
            clear r3
            go_wp2_with fail
            refine hK.out _ _ ⟨fun _ _ => HC3, ?_⟩
            clear hK K
            try simp only [Act.put, List.setIfInBounds_toArray, List.set_cons_zero, List.set_cons_succ]
            refine wpAnyS_takeW (i := 10) (v := ?v9) rfl (by kernel_rfl) (fun _ _ _ h => h) (Or.inl ⟨by rfl, ?y9⟩) (fun _ => HC3) ?r9
            case y9 => intro wq _; go_simp; try with_reducible rfl
            try simp only [Act.put, List.setIfInBounds_toArray, List.set_cons_zero, List.set_cons_succ]
            refine wpAnyS_one (j := 9) (by kernel_rfl) rfl (fun K hK => ?_)
            go_simp
            go_at_call 136; (with_reducible refine (greater_any (ofN f k).x1 (f k).x _).mono ?_)
            rintro e v4 ⟨rfl, k4⟩
            have hP4 := PIn.later hP3 k4
            have hW4 := Whole.here hW3 k4
            have hB4 := Whole.here hB3 k4
            have HB4 := Lib.hid (HB3.out.trans (k4.mono HB3.out.size))
            have r4 := hB4.reads
            have HC4 := And.intro (r4 0) (And.intro (r4 1) (And.intro (r4 4) (And.intro (r4 5) (And.intro hP4.1 hP4.2.1))))
            have ft4 := hB4.thawed
            have l4 := hB4.lt
            go_wp2_with fail
            refine hK.out _ _ ⟨fun _ _ => HC4, ?_⟩
            clear hK K
            try simp only [Act.put, List.setIfInBounds_toArray, List.set_cons_zero, List.set_cons_succ]
            refine wpAnyS_one (j := 11) (by kernel_rfl) rfl (fun K hK => ?_)
            go_simp
            refine hK.out _ _ ⟨fun h => absurd rfl h, ?_⟩
            clear hK K
            try simp only [Act.put, List.setIfInBounds_toArray, List.set_cons_zero, List.set_cons_succ]
            refine wpAnyS_takeW (i := 12) (v := ?v10) rfl (by kernel_rfl) (fun _ _ _ h => h) (Or.inl ⟨by rfl, ?y10⟩) (fun h => (by cases h)) ?r10
            case y10 => intro wq _; go_simp; try with_reducible rfl
            try simp only [Act.put, List.setIfInBounds_toArray, List.set_cons_zero, List.set_cons_succ]
            refine wpAnyS_one (j := 13) (by kernel_rfl) rfl (fun K hK => ?_)
            go_simp
            refine hK.out _ _ ⟨fun _ h => (by cases h), ?_⟩
            clear hK K
            try simp only [Act.put, List.setIfInBounds_toArray, List.set_cons_zero, List.set_cons_succ]
            refine wpAnyS_done (by kernel_rfl) ?_ _
            go_wp2_with fail
            go_meet
            exact ⟨rfl, Lib.hid ⟨hW4.away4 (by omega) _ _ _ _ _ _ _ _, (((hB4.set 0 _).set 1 _).set 4 _).set 5 _, hP4.away4 (by omega) _ _ _ _ _ _ _ _, by (repeat (first | with_reducible refine Below.drew ?_ | with_reducible refine bdrewN ?_ _ | (with_reducible refine Below.setCell ?_ ?_ _; rotate_left; focus (first | exact Nat.le_refl _ | omega | (simp; omega) | (simp; done))) | (with_reducible refine Below.alloc ?_ ?_ _; rotate_left; focus (first | exact Nat.le_refl _ | omega | (simp; omega) | (simp; done))))); with_reducible exact HB4.out⟩⟩
          case rest =>
            clear hW' hB' hP HB lW lP l1
            obtain ⟨rfl, hcut⟩ := hcut
            obtain ⟨hW', hB', hP, hbc⟩ := id hcut.out
            have HB := Lib.hid hbc
            clear hcut hbc
            have lW := hW'.lt
            have lP := hP.lt
            have l1 := hB'.lt
            go_wp2_with fail
            have rb := hB'.reads
            have HC0 := And.intro (rb 2) (And.intro (rb 3) (And.intro (rb 6) (And.intro (rb 7) (And.intro hP.2.2.1 hP.2.2.2))))
            clear rb
            refine wp_region_S 11 (fun v => v.cell? ⟨w.heap.size + 1, 2, none⟩ = some (.int .i64 (ofN f k).y0.m) ∧ v.cell? ⟨w.heap.size + 1, 3, none⟩ = some (.int .i64 (ofN f k).y0.s) ∧ v.cell? ⟨w.heap.size + 1, 6, none⟩ = some (.int .i64 (ofN f k).y1.m) ∧ v.cell? ⟨w.heap.size + 1, 7, none⟩ = some (.int .i64 (ofN f k).y1.s) ∧ v.cell? ⟨P, 2, none⟩ = some (.int .i64 (f k).y.m) ∧ v.cell? ⟨P, 3, none⟩ = some (.int .i64 (f k).y.s)) (by kernel_rfl) ?_
            refine wpAnyS_takeW (i := 0) (v := ?v11) rfl (by kernel_rfl) (fun _ _ _ h => h) (Or.inl ⟨by rfl, ?y11⟩) (fun _ => HC0) ?r11
            case y11 => intro wq _; go_simp; try with_reducible rfl
            try simp only [Act.put, List.setIfInBounds_toArray, List.set_cons_zero, List.set_cons_succ]
            refine wpAnyS_takeW (i := 2) (v := ?v12) rfl (by kernel_rfl) (fun _ _ _ h => h) (Or.inl ⟨by rfl, ?y12⟩) (fun _ => HC0) ?r12
            case y12 => intro wq _; go_simp; try with_reducible rfl
            try simp only [Act.put, List.setIfInBounds_toArray, List.set_cons_zero, List.set_cons_succ]
            refine wpAnyS_takeW (i := 5) (v := ?v13) rfl (by kernel_rfl) (fun _ _ _ h => h) (Or.inl ⟨by rfl, ?y13⟩) (fun _ => HC0) ?r13
            case y13 => intro wq _; go_simp; try with_reducible rfl
            try simp only [Act.put, List.setIfInBounds_toArray, List.set_cons_zero, List.set_cons_succ]
            refine wpAnyS_takeW (i := 7) (v := ?v14) rfl (by kernel_rfl) (fun _ _ _ h => h) (Or.inl ⟨by rfl, ?y14⟩) (fun _ => HC0) ?r14
            case y14 => intro wq _; go_simp; try with_reducible rfl
            try simp only [Act.put, List.setIfInBounds_toArray, List.set_cons_zero, List.set_cons_succ]
            refine wpAnyS_take (i := 1) (v := ?v15) rfl (by kernel_rfl) (fun _ _ _ h => h) (Or.inl ⟨by rfl, ?y15⟩) HC0 ?r15
            case y15 => intro wq hq; (try dsimp only at hq); go_simp; try with_reducible rfl
            try simp only [Act.put, List.setIfInBounds_toArray, List.set_cons_zero, List.set_cons_succ]
            refine wpAnyS_take (i := 3) (v := ?v16) rfl (by kernel_rfl) (fun _ _ _ h => h) (Or.inl ⟨by rfl, ?y16⟩) HC0 ?r16
            case y16 => intro wq hq; (try dsimp only at hq); go_simp; try with_reducible rfl
            try simp only [Act.put, List.setIfInBounds_toArray, List.set_cons_zero, List.set_cons_succ]
            refine wpAnyS_take (i := 6) (v := ?v17) rfl (by kernel_rfl) (fun _ _ _ h => h) (Or.inl ⟨by rfl, ?y17⟩) HC0 ?r17
            case y17 => intro wq hq; (try dsimp only at hq); go_simp; try with_reducible rfl
            try simp only [Act.put, List.setIfInBounds_toArray, List.set_cons_zero, List.set_cons_succ]
            refine wpAnyS_take (i := 8) (v := ?v18) rfl (by kernel_rfl) (fun _ _ _ h => h) (Or.inl ⟨by rfl, ?y18⟩) HC0 ?r18
            case y18 => intro wq hq; (try dsimp only at hq); go_simp; try with_reducible rfl
            try simp only [Act.put, List.setIfInBounds_toArray, List.set_cons_zero, List.set_cons_succ]
            refine wpAnyS_one (j := 4) (by kernel_rfl) rfl (fun K hK => ?_)
            go_simp
            go_at_call 135; (with_reducible refine (lesser_any (ofN f k).y0 (f k).y _).mono ?_)
            rintro e v3 ⟨rfl, k3⟩
            have k3 := undrew k3
            have hP3 := PIn.later hP k3
            have hW3 := Whole.here hW' k3
            have hB3 := Whole.here hB' k3
            have HB3 := Lib.hid (HB.out.trans (k3.mono HB.out.size))
            have r3 := hB3.reads
            have HC3 := And.intro (r3 2) (And.intro (r3 3) (And.intro (r3 6) (And.intro (r3 7) (And.intro hP3.2.2.1 hP3.2.2.2))))
            clear r3
            go_wp2_with fail
            refine hK.out _ _ ⟨fun _ _ => HC3, ?_⟩
            clear hK K
            try simp only [Act.put, List.setIfInBounds_toArray, List.set_cons_zero, List.set_cons_succ]
            refine wpAnyS_takeW (i := 10) (v := ?v19) rfl (by kernel_rfl) (fun _ _ _ h => h) (Or.inl ⟨by rfl, ?y19⟩) (fun _ => HC3) ?r19
            case y19 => intro wq _; go_simp; try with_reducible rfl
            try simp only [Act.put, List.setIfInBounds_toArray, List.set_cons_zero, List.set_cons_succ]
            refine wpAnyS_one (j := 9) (by kernel_rfl) rfl (fun K hK => ?_)
            go_simp
            go_at_call 136; (with_reducible refine (greater_any (ofN f k).y1 (f k).y _).mono ?_)
            rintro e v4 ⟨rfl, k4⟩
            have hP4 := PIn.later hP3 k4
            have hW4 := Whole.here hW3 k4
            have hB4 := Whole.here hB3 k4
            have HB4 := Lib.hid (HB3.out.trans (k4.mono HB3.out.size))
            have r4 := hB4.reads
            have HC4 := And.intro (r4 2) (And.intro (r4 3) (And.intro (r4 6) (And.intro (r4 7) (And.intro hP4.2.2.1 hP4.2.2.2))))
            have ft4 := hB4.thawed
            have l4 := hB4.lt
            go_wp2_with fail
            refine hK.out _ _ ⟨fun _ _ => HC4, ?_⟩
            clear hK K
            try simp only [Act.put, List.setIfInBounds_toArray, List.set_cons_zero, List.set_cons_succ]
            refine wpAnyS_one (j := 11) (by kernel_rfl) rfl (fun K hK => ?_)
            go_simp
            refine hK.out _ _ ⟨fun h => absurd rfl h, ?_⟩
            clear hK K
            try simp only [Act.put, List.setIfInBounds_toArray, List.set_cons_zero, List.set_cons_succ]
            refine wpAnyS_takeW (i := 12) (v := ?v20) rfl (by kernel_rfl) (fun _ _ _ h => h) (Or.inl ⟨by rfl, ?y20⟩) (fun h => (by cases h)) ?r20
            case y20 => intro wq _; go_simp; try with_reducible rfl
            try simp only [Act.put, List.setIfInBounds_toArray, List.set_cons_zero, List.set_cons_succ]
            refine wpAnyS_one (j := 13) (by kernel_rfl) rfl (fun K hK => ?_)
            go_simp
            refine hK.out _ _ ⟨fun _ h => (by cases h), ?_⟩
            clear hK K
            try simp only [Act.put, List.setIfInBounds_toArray, List.set_cons_zero, List.set_cons_succ]
            refine wpAnyS_done (by kernel_rfl) ?_ _
            go_wp2_with fail
            go_roundw
            case rel => exact ⟨k + 1, by omega, by go_num, pre_succ hpre.out ⟨HX.out, HY.out⟩, Lib.hid (OfSt.mk (hW4.away4 (by omega) _ _ _ _ _ _ _ _) ((((hB4.set 2 _).set 3 _).set 6 _).set 7 _) (by (repeat (first | with_reducible refine Below.drew ?_ | with_reducible refine bdrewN ?_ _ | (with_reducible refine Below.setCell ?_ ?_ _; rotate_left; focus (first | exact Nat.le_refl _ | omega | (simp; omega) | (simp; done))) | (with_reducible refine Below.alloc ?_ ?_ _; rotate_left; focus (first | exact Nat.le_refl _ | omega | (simp; omega) | (simp; done))))); with_reducible exact HB4.out) rfl rfl rfl rfl)⟩
            case measure => simp [intOf]; omega
        · have HY := Lib.hid hy
          clear hy
          obtain ⟨rfl, rfl⟩ : b = .zero ∧ E = 1 := by
            rcases h.out with ⟨h, -⟩ | ⟨-, -, h, h'⟩ | ⟨-, h, -⟩
            · omega
            · exact ⟨h, h'⟩
            · exact absurd (h k hlt).2 HY.out
          go_wp2_with fail
          refine (dcheck_any (f k).x _ 0 (.inl ⟨HX.out, rfl⟩)).mono ?_
          rintro e w1 ⟨rfl, b1⟩
          have HB := Lib.hid (HB.out.trans (b1.mono HB.out.size))
          have hP := PIn.later hP b1
          have hB' := Whole.here hB' b1
          have hW' := Whole.here hW' b1
          clear b1
          have lP := hP.lt
          obtain ⟨q0, q1, q2, q3⟩ := id hP
          go_wp2_with fail
          refine (dcheck_any (f k).y _ 1 (.inr ⟨HY.out, rfl⟩)).mono ?_
          rintro e w2 ⟨rfl, b1⟩
          have HB := Lib.hid (HB.out.trans (b1.mono HB.out.size))
          have hP := PIn.later hP b1
          have hB' := Whole.here hB' b1
          have hW' := Whole.here hW' b1
          clear q0 q1 q2 q3 lP p0 p1 p2 p3 hW hB hb l1 hS
          clear b1
          have rd := hW'.reads
          have ft := hW'.thawed
          have lW := hW'.lt
          go_wp2
          refine bodyPost_ret (v := .tuple #[BV.zero.val, .int .i64 1]) (by simp [results, Tryz.results112, go_sem, rd, BV.zero, DV.zero]) rfl ⟨rfl, ?_⟩
          (repeat (first | with_reducible refine Below.drew ?_ | with_reducible refine bdrewN ?_ _ | (with_reducible refine Below.setCell ?_ ?_ _; rotate_left; focus (first | exact Nat.le_refl _ | omega | (simp; omega) | (simp; done))) | (with_reducible refine Below.alloc ?_ ?_ _; rotate_left; focus (first | exact Nat.le_refl _ | omega | (simp; omega) | (simp; done))))); with_reducible exact HB.out
      · have HX := Lib.hid hx
        clear hx
        obtain ⟨rfl, rfl⟩ : b = .zero ∧ E = 1 := by
          rcases h.out with ⟨h, -⟩ | ⟨-, -, h, h'⟩ | ⟨-, h, -⟩
          · omega
          · exact ⟨h, h'⟩
          · exact absurd (h k hlt).1 HX.out
        go_wp2_with fail
        refine (dcheck_any (f k).x _ 1 (.inr ⟨HX.out, rfl⟩)).mono ?_
        rintro e w1 ⟨rfl, b1⟩
        have HB := Lib.hid (HB.out.trans (b1.mono HB.out.size))
        have hP := PIn.later hP b1
        have hB' := Whole.here hB' b1
        have hW' := Whole.here hW' b1
        clear p0 p1 p2 p3 hW hB hb l1 hS
        clear b1
        have rd := hW'.reads
        have ft := hW'.thawed
        have lW := hW'.lt
        go_wp2
        refine bodyPost_ret (v := .tuple #[BV.zero.val, .int .i64 1]) (by simp [results, Tryz.results112, go_sem, rd, BV.zero, DV.zero]) rfl ⟨rfl, ?_⟩
        (repeat (first | with_reducible refine Below.drew ?_ | with_reducible refine bdrewN ?_ _ | (with_reducible refine Below.setCell ?_ ?_ _; rotate_left; focus (first | exact Nat.le_refl _ | omega | (simp; omega) | (simp; done))) | (with_reducible refine Below.alloc ?_ ?_ _; rotate_left; focus (first | exact Nat.le_refl _ | omega | (simp; omega) | (simp; done))))); with_reducible exact HB.out
    · obtain ⟨rfl, rfl⟩ : b = ofN f n ∧ E = 0 := by
        obtain rfl : k = n := by omega
        rcases h.out with ⟨h, -⟩ | ⟨-, ⟨i, hi, h'⟩, -⟩ | ⟨-, -, h, h'⟩
        · omega
        · exact absurd (hpre.out i hi) h'
        · exact ⟨h, h'⟩
      obtain rfl : n = k := by omega
      have rd := hW.reads
      have ft := hW.thawed
      have lW := hW.lt
      have rb := hB.reads
      go_wp2
      refine bodyPost_ret (v := .tuple #[(ofN f n).val, .int .i64 0]) (by simp [results, Tryz.results112, go_sem, rd]) rfl ⟨rfl, ?_⟩
      (repeat (first | with_reducible refine Below.drew ?_ | with_reducible refine bdrewN ?_ _ | (with_reducible refine Below.setCell ?_ ?_ _; rotate_left; focus (first | exact Nat.le_refl _ | omega | (simp; omega) | (simp; done))) | (with_reducible refine Below.alloc ?_ ?_ _; rotate_left; focus (first | exact Nat.le_refl _ | omega | (simp; omega) | (simp; done))))); with_reducible exact hb
end Go.Proofs.YtdlmhienolmncaaGreat
