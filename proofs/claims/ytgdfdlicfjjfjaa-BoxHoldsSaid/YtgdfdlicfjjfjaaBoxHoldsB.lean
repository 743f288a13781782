/- The walk of BoxHolds, where it looks at each point. -/
import Derived.Test.YtgdfdlicfjjfjaaBoxHoldsA
import Derived.Deep.QuietTactic
import Derived.BigQuiet
namespace Go.Proofs.Ytgdfdlicfjjfjaa
open Go.RowKit Dec

abbrev PAtR (w : World) (R o : Nat) (p : PV) : Prop := w.cell? ⟨R, o, none⟩ = some (.int .i64 p.x.m) ∧ w.cell? ⟨R, o + 1, none⟩ = some (.int .i64 p.x.s) ∧ w.cell? ⟨R, o + 2, none⟩ = some (.int .i64 p.y.m) ∧ w.cell? ⟨R, o + 3, none⟩ = some (.int .i64 p.y.s)
theorem PAtR.later {w w' : World} {R o : Nat} {p : PV} (h : PAtR w R o p) (hb : Below w.heap.size w w') : PAtR w' R o p := PAt.later h hb
theorem PIn.sets' {w : World} {B : Nat} {T : TypeId} {p : PV} (h : Whole w B T #[.int .i64 0, .int .i64 0, .int .i64 0, .int .i64 0]) : PIn ((((w.setCell ⟨B, 0, none⟩ (.int .i64 p.x.m)).setCell ⟨B, 1, none⟩ (.int .i64 p.x.s)).setCell ⟨B, 2, none⟩ (.int .i64 p.y.m)).setCell ⟨B, 3, none⟩ (.int .i64 p.y.s)) B p := by
  have h' := ((((h.set 0 (.int .i64 p.x.m)).set 1 (.int .i64 p.x.s)).set 2 (.int .i64 p.y.m)).set 3 (.int .i64 p.y.s))
  exact ⟨h'.reads 0, h'.reads 1, h'.reads 2, h'.reads 3⟩
theorem BS4 {W w : World} {b B : Nat} {x0 x1 x2 x3 : Value} (hB : b ≤ B) (h : Below b W w) : Below b W ((((w.setCell ⟨B, 0, none⟩ x0).setCell ⟨B, 1, none⟩ x1).setCell ⟨B, 2, none⟩ x2).setCell ⟨B, 3, none⟩ x3) := (((h.setCell hB _).setCell hB _).setCell hB _).setCell hB _

set_option maxRecDepth 100000 in
set_option maxHeartbeats 16000000 in
theorem holds_good (m : MV) (F : Nat → PV) (n c R o : Nat) (w : World) (cB : BV) (fE : Int) (h0 : 0 < n) (hn : n ≤ 50) (hc : n ≤ c) (hF : Hid (∀ i < n, PAt w R (o + i * 4) (F i))) (hok : Hid (∀ i < n, (F i).Ok)) (hmap : Hid (BMapIs m (ofN F n) cB fE)) :
    Calls Try.prog 4 #[m.val, .slice (some ⟨R, o, none⟩) n c] w fun e w' => e = .returned (.bool true) ∧ Below w.heap.size w w' := by
  have hn' : ¬ 50 < n := by omega
  have hn50 : decide ((50 : Int) < (n : Int)) = false := by rw [decide_eq_false_iff_not]; omega
  go_enter Try.func4, Try.ntmps4
  have hM := MIn.made w 35 m
  have HB : Hid (Below w.heap.size w (w.alloc (.cells #[.int .i64 m.a.m, .int .i64 m.a.s, .int .i64 m.b.m, .int .i64 m.b.s, .int .i64 m.c.m, .int .i64 m.c.s, .int .i64 m.d.m, .int .i64 m.d.s, .int .i64 m.e.m, .int .i64 m.e.s, .int .i64 m.f.m, .int .i64 m.f.s] 35))) := (Below.refl _ _).alloc (Nat.le_refl _) _
  go_wp2_with fail
  refine (of_any F n c R o _ (ofN F n) 0 h0 (by omega) (Lib.hid fun i hi => (hF.out i hi).later ((Below.refl _ _).alloc (Nat.le_refl _) _)) (Lib.hid (.inr (.inr ⟨h0, hok.out, rfl, rfl⟩)))).mono ?_
  rintro e w1 ⟨rfl, b1⟩
  have HB := Lib.hid (HB.out.trans (b1.mono HB.out.size))
  have hM := hM.later b1
  clear b1
  have gP5 := hM.lt
  have hB := BIn.made w1 25 (ofN F n)
  have hM := hM.old (.cells #[.int .i64 (ofN F n).x0.m, .int .i64 (ofN F n).x0.s, .int .i64 (ofN F n).y0.m, .int .i64 (ofN F n).y0.s, .int .i64 (ofN F n).x1.m, .int .i64 (ofN F n).x1.s, .int .i64 (ofN F n).y1.m, .int .i64 (ofN F n).y1.s] 25)
  have HB := Lib.hid (HB.out.alloc HB.out.size (.cells #[.int .i64 (ofN F n).x0.m, .int .i64 (ofN F n).x0.s, .int .i64 (ofN F n).y0.m, .int .i64 (ofN F n).y0.s, .int .i64 (ofN F n).x1.m, .int .i64 (ofN F n).x1.s, .int .i64 (ofN F n).y1.m, .int .i64 (ofN F n).y1.s] 25))
  have lM := hM.lt
  have lw1 := HB.out.size
  obtain ⟨fm0, fm1, fm2, fm3, fm4, fm5, fm6, fm7, fm8, fm9, fm10, fm11⟩ := id hM
  obtain ⟨fb0, fb1, fb2, fb3, fb4, fb5, fb6, fb7⟩ := id hB
  go_wp2_with fail
  refine (bmap_any m (ofN F n) cB fE _ hmap.out).mono ?_
  rintro e w2 ⟨rfl, b1⟩
  have HB := Lib.hid (HB.out.trans (b1.mono HB.out.size))
  have hM := hM.later b1
  have hB := hB.later b1
  clear b1 fm0 fm1 fm2 fm3 fm4 fm5 fm6 fm7 fm8 fm9 fm10 fm11 fb0 fb1 fb2 fb3 fb4 fb5 fb6 fb7 lM
  have gP7 := hB.lt
  have hC := BIn.made w2 25 cB
  have hM := hM.old (.cells #[.int .i64 cB.x0.m, .int .i64 cB.x0.s, .int .i64 cB.y0.m, .int .i64 cB.y0.s, .int .i64 cB.x1.m, .int .i64 cB.x1.s, .int .i64 cB.y1.m, .int .i64 cB.y1.s] 25)
  have hB := hB.old (.cells #[.int .i64 cB.x0.m, .int .i64 cB.x0.s, .int .i64 cB.y0.m, .int .i64 cB.y0.s, .int .i64 cB.x1.m, .int .i64 cB.x1.s, .int .i64 cB.y1.m, .int .i64 cB.y1.s] 25)
  have HB := Lib.hid (HB.out.alloc HB.out.size (.cells #[.int .i64 cB.x0.m, .int .i64 cB.x0.s, .int .i64 cB.y0.m, .int .i64 cB.y0.s, .int .i64 cB.x1.m, .int .i64 cB.x1.s, .int .i64 cB.y1.m, .int .i64 cB.y1.s] 25))
  have hS : Hid (HoldSt w _ w.heap.size w1.heap.size w2.heap.size m (ofN F n) cB) := ⟨hM, hB, hC, HB.out⟩
  clear hM hB hC HB lw1
  go_wp2
  go_loopw [9, 10, 11] (fun s9 s10 s11 wr => ∃ (k : Nat) (lb ub : Bool), k ≤ n ∧ s11 = .int .i64 k ∧ s9 = .bool lb ∧ s10 = .bool ub ∧ Hid (∀ j < k, (F j).x = (ofN F n).x0 → lb = true) ∧ Hid (∀ j < k, (F j).y = (ofN F n).y1 → ub = true) ∧ Hid (HoldSt w wr w.heap.size w1.heap.size w2.heap.size m (ofN F n) cB)) (fun _ _ s11 _ => n - (intOf s11).toNat)
  case atStart => exact ⟨0, false, false, Nat.zero_le _, rfl, rfl, rfl, fun j hj => absurd hj (by omega), fun j hj => absurd hj (by omega), hS⟩
  case round =>
    clear hS
    obtain ⟨k, lb, ub, hk, rfl, rfl, rfl, hl, hu, hS⟩ := hrel
    generalize w1.heap.size = P5 at *
    generalize w2.heap.size = P7 at *
    by_cases hlt : k < n
    · obtain ⟨hM, hB, hC, hb⟩ := id hS.out
      have HB := Lib.hid hb
      have hP := (hF.out k hlt).later hb
      have hpk := hok.out k hlt
      have OKP := Lib.hid hpk
      have HIN := Lib.hid (ofN_in F n hok.out k hlt)
      have HBX := Lib.hid (ofN_box F n h0 hok.out)
      have hkc : k < c := by omega
      have hkI : (k : Int) < (n : Int) := by omega
      have hk0 : (0 : Int) ≤ (k : Int) := by omega
      clear hb hS hpk
      go_wp2_with fail
      refine (of_any (fun _ => F k) 1 (c - k) R (o + k * 4) _ (dotB (F k)) 0 (by omega) (by omega) (Lib.hid fun i hi => by obtain rfl : i = 0 := (by omega); exact hP) (Lib.hid (of_dot OKP.out))).mono ?_
      rintro e v1 ⟨rfl, b1⟩
      have HB := Lib.hid (HB.out.trans (b1.mono HB.out.size))
      have hM := hM.later b1
      have hB := hB.later b1
      have hC := hC.later b1
      have hP := hP.later b1
      clear b1
      have hO := BIn.made v1 25 (dotB (F k))
      have hM := hM.old (.cells #[.int .i64 (dotB (F k)).x0.m, .int .i64 (dotB (F k)).x0.s, .int .i64 (dotB (F k)).y0.m, .int .i64 (dotB (F k)).y0.s, .int .i64 (dotB (F k)).x1.m, .int .i64 (dotB (F k)).x1.s, .int .i64 (dotB (F k)).y1.m, .int .i64 (dotB (F k)).y1.s] 25)
      have hB := hB.old (.cells #[.int .i64 (dotB (F k)).x0.m, .int .i64 (dotB (F k)).x0.s, .int .i64 (dotB (F k)).y0.m, .int .i64 (dotB (F k)).y0.s, .int .i64 (dotB (F k)).x1.m, .int .i64 (dotB (F k)).x1.s, .int .i64 (dotB (F k)).y1.m, .int .i64 (dotB (F k)).y1.s] 25)
      have hC := hC.old (.cells #[.int .i64 (dotB (F k)).x0.m, .int .i64 (dotB (F k)).x0.s, .int .i64 (dotB (F k)).y0.m, .int .i64 (dotB (F k)).y0.s, .int .i64 (dotB (F k)).x1.m, .int .i64 (dotB (F k)).x1.s, .int .i64 (dotB (F k)).y1.m, .int .i64 (dotB (F k)).y1.s] 25)
      have hP := hP.later ((Below.refl _ _).alloc (Nat.le_refl _) (.cells #[.int .i64 (dotB (F k)).x0.m, .int .i64 (dotB (F k)).x0.s, .int .i64 (dotB (F k)).y0.m, .int .i64 (dotB (F k)).y0.s, .int .i64 (dotB (F k)).x1.m, .int .i64 (dotB (F k)).x1.s, .int .i64 (dotB (F k)).y1.m, .int .i64 (dotB (F k)).y1.s] 25))
      have HB := Lib.hid (HB.out.alloc HB.out.size (.cells #[.int .i64 (dotB (F k)).x0.m, .int .i64 (dotB (F k)).x0.s, .int .i64 (dotB (F k)).y0.m, .int .i64 (dotB (F k)).y0.s, .int .i64 (dotB (F k)).x1.m, .int .i64 (dotB (F k)).x1.s, .int .i64 (dotB (F k)).y1.m, .int .i64 (dotB (F k)).y1.s] 25))
      have lB := hB.lt
      have lO := hO.lt
      obtain ⟨fb0, fb1, fb2, fb3, fb4, fb5, fb6, fb7⟩ := id hB
      obtain ⟨fo0, fo1, fo2, fo3, fo4, fo5, fo6, fo7⟩ := id hO
      go_wp2_with fail
      refine (both_any (ofN F n) (dotB (F k)) (ofN F n) 0 _ (.inl ⟨HBX.out, dotB_ok OKP.out, (join_dot HBX.out OKP.out HIN.out).symm, rfl⟩)).mono ?_
      rintro e v2 ⟨rfl, b1⟩
      have HB := Lib.hid (HB.out.trans (b1.mono HB.out.size))
      have hM := hM.later b1
      have hB := hB.later b1
      have hC := hC.later b1
      have hP := hP.later b1
      clear b1 hO fb0 fb1 fb2 fb3 fb4 fb5 fb6 fb7 fo0 fo1 fo2 fo3 fo4 fo5 fo6 fo7 lB lO
      have hM := hM.old (.cells #[.int .i64 (ofN F n).x0.m, .int .i64 (ofN F n).x0.s, .int .i64 (ofN F n).y0.m, .int .i64 (ofN F n).y0.s, .int .i64 (ofN F n).x1.m, .int .i64 (ofN F n).x1.s, .int .i64 (ofN F n).y1.m, .int .i64 (ofN F n).y1.s] 25)
      have hB := hB.old (.cells #[.int .i64 (ofN F n).x0.m, .int .i64 (ofN F n).x0.s, .int .i64 (ofN F n).y0.m, .int .i64 (ofN F n).y0.s, .int .i64 (ofN F n).x1.m, .int .i64 (ofN F n).x1.s, .int .i64 (ofN F n).y1.m, .int .i64 (ofN F n).y1.s] 25)
      have hC := hC.old (.cells #[.int .i64 (ofN F n).x0.m, .int .i64 (ofN F n).x0.s, .int .i64 (ofN F n).y0.m, .int .i64 (ofN F n).y0.s, .int .i64 (ofN F n).x1.m, .int .i64 (ofN F n).x1.s, .int .i64 (ofN F n).y1.m, .int .i64 (ofN F n).y1.s] 25)
      have hP := hP.later ((Below.refl _ _).alloc (Nat.le_refl _) (.cells #[.int .i64 (ofN F n).x0.m, .int .i64 (ofN F n).x0.s, .int .i64 (ofN F n).y0.m, .int .i64 (ofN F n).y0.s, .int .i64 (ofN F n).x1.m, .int .i64 (ofN F n).x1.s, .int .i64 (ofN F n).y1.m, .int .i64 (ofN F n).y1.s] 25))
      have HB := Lib.hid (HB.out.alloc HB.out.size (.cells #[.int .i64 (ofN F n).x0.m, .int .i64 (ofN F n).x0.s, .int .i64 (ofN F n).y0.m, .int .i64 (ofN F n).y0.s, .int .i64 (ofN F n).x1.m, .int .i64 (ofN F n).x1.s, .int .i64 (ofN F n).y1.m, .int .i64 (ofN F n).y1.s] 25))
      have lB := hB.lt
      obtain ⟨fb0, fb1, fb2, fb3, fb4, fb5, fb6, fb7⟩ := id hB
      obtain ⟨fp0, fp1, fp2, fp3⟩ := id hP
      go_wp2_with fail
      go_cut [9] from 41 to 132 (fun s wx => ∃ r : Bool, s = .bool r ∧ Hid ((lb = true → r = true) ∧ ((F k).x = (ofN F n).x0 → r = true)) ∧ Hid (HoldSt w wx w.heap.size P5 P7 m (ofN F n) cB ∧ PAt wx R (o + k * 4) (F k)))
      case first =>
        cases lb
        · by_cases hxm : (F k).x.m = (ofN F n).x0.m
          · by_cases hxs : (F k).x.s = (ofN F n).x0.s
            · rw [hxm] at fp0
              rw [hxs] at fp1
              go_quiet (fail)
              go_wp2_with fail
              go_meet
              exact ⟨_, rfl, Lib.hid ⟨fun h => (by cases h), fun _ => rfl⟩, Lib.hid ⟨⟨hM, hB, hC, bdrewN HB.out _⟩, hP⟩⟩
            · rw [hxm] at fp0
              have q2 : ((F k).x.s == (ofN F n).x0.s) = false := by rw [beq_eq_false_iff_ne]; exact hxs
              go_quiet (fail)
              go_wp2_with fail
              go_meet
              exact ⟨_, rfl, Lib.hid ⟨fun h => (by cases h), fun h => absurd (congrArg DV.s h) hxs⟩, Lib.hid ⟨⟨hM, hB, hC, bdrewN HB.out _⟩, hP⟩⟩
          · have q1 : ((F k).x.m == (ofN F n).x0.m) = false := by rw [beq_eq_false_iff_ne]; exact hxm
            go_quiet (fail)
            go_wp2_with fail
            go_meet
            exact ⟨_, rfl, Lib.hid ⟨fun h => (by cases h), fun h => absurd (congrArg DV.m h) hxm⟩, Lib.hid ⟨⟨hM, hB, hC, bdrewN HB.out _⟩, hP⟩⟩
        · go_quiet (fail)
          go_wp2_with fail
          go_meet
          exact ⟨_, rfl, Lib.hid ⟨fun _ => rfl, fun _ => rfl⟩, Lib.hid ⟨⟨hM, hB, hC, bdrewN HB.out _⟩, hP⟩⟩
      case rest =>
      clear hM hB hC hP HB lB fb0 fb1 fb2 fb3 fb4 fb5 fb6 fb7 fp0 fp1 fp2 fp3
      obtain ⟨lb2, rfl, hlb2, hcut⟩ := hcut
      obtain ⟨⟨hM, hB, hC, hb⟩, hP⟩ := id hcut.out
      have HB := Lib.hid hb
      clear hcut hb
      have lB := hB.lt
      obtain ⟨fb0, fb1, fb2, fb3, fb4, fb5, fb6, fb7⟩ := id hB
      obtain ⟨fp0, fp1, fp2, fp3⟩ := id hP
      go_wp2_with fail
      go_cut [10] from 41 to 132 (fun s wx => ∃ r : Bool, s = .bool r ∧ Hid ((ub = true → r = true) ∧ ((F k).y = (ofN F n).y1 → r = true)) ∧ Hid (HoldSt w wx w.heap.size P5 P7 m (ofN F n) cB ∧ PAt wx R (o + k * 4) (F k)))
      case first =>
        cases ub
        · by_cases hxm : (F k).y.m = (ofN F n).y1.m
          · by_cases hxs : (F k).y.s = (ofN F n).y1.s
            · rw [hxm] at fp2
              rw [hxs] at fp3
              go_quiet (fail)
              go_wp2_with fail
              go_meet
              exact ⟨_, rfl, Lib.hid ⟨fun h => (by cases h), fun _ => rfl⟩, Lib.hid ⟨⟨hM, hB, hC, bdrewN HB.out _⟩, hP⟩⟩
            · rw [hxm] at fp2
              have q2 : ((F k).y.s == (ofN F n).y1.s) = false := by rw [beq_eq_false_iff_ne]; exact hxs
              go_quiet (fail)
              go_wp2_with fail
              go_meet
              exact ⟨_, rfl, Lib.hid ⟨fun h => (by cases h), fun h => absurd (congrArg DV.s h) hxs⟩, Lib.hid ⟨⟨hM, hB, hC, bdrewN HB.out _⟩, hP⟩⟩
          · have q1 : ((F k).y.m == (ofN F n).y1.m) = false := by rw [beq_eq_false_iff_ne]; exact hxm
            go_quiet (fail)
            go_wp2_with fail
            go_meet
            exact ⟨_, rfl, Lib.hid ⟨fun h => (by cases h), fun h => absurd (congrArg DV.m h) hxm⟩, Lib.hid ⟨⟨hM, hB, hC, bdrewN HB.out _⟩, hP⟩⟩
        · go_quiet (fail)
          go_wp2_with fail
          go_meet
          exact ⟨_, rfl, Lib.hid ⟨fun _ => rfl, fun _ => rfl⟩, Lib.hid ⟨⟨hM, hB, hC, bdrewN HB.out _⟩, hP⟩⟩
      case rest =>
      clear hM hB hC hP HB lB fb0 fb1 fb2 fb3 fb4 fb5 fb6 fb7 fp0 fp1 fp2 fp3
      obtain ⟨ub2, rfl, hub2, hcut⟩ := hcut
      obtain ⟨⟨hM, hB, hC, hb⟩, hP⟩ := id hcut.out
      have HB := Lib.hid hb
      clear hcut hb
      have lB := hB.lt
      obtain ⟨fb0, fb1, fb2, fb3, fb4, fb5, fb6, fb7⟩ := id hB
      obtain ⟨fp0, fp1, fp2, fp3⟩ := id hP
      obtain ⟨q, kE, hq⟩ := MapIs.total m (F k)
      have HQ := Lib.hid hq
      clear hq
      clear lB fb0 fb1 fb2 fb3 fb4 fb5 fb6 fb7 fp0 fp1 fp2 fp3
      go_wp2_with fail
      have lM := hM.lt
      have lR := hP.lt
      have lB := hB.lt
      have lC := hC.lt
      have lw := HB.out.size
      obtain ⟨wz, hwz⟩ : ∃ wz : World, wz = wc := ⟨_, rfl⟩
      have hS : MIn wc w.heap.size m ∧ PAtR wc R (o + k * 4) (F k) := And.intro hM hP
      have HV := Below.refl wc.heap.size wc
      go_cut [16, 17] from 41 to 132 (fun s s' wx => ∃ g : Nat, s = .pointer (some ⟨g, 0, none⟩) ∧ s' = .int .i64 kE ∧ PIn wx g q ∧ Hid (HoldSt w wx w.heap.size P5 P7 m (ofN F n) cB ∧ PAt wx R (o + k * 4) (F k)))
      case first =>
        go_region_held3 (fun v => (v.cell? ⟨w.heap.size, 0, none⟩ = some (.int .i64 m.a.m) ∧ v.cell? ⟨w.heap.size, 1, none⟩ = some (.int .i64 m.a.s) ∧ v.cell? ⟨w.heap.size, 2, none⟩ = some (.int .i64 m.b.m) ∧ v.cell? ⟨w.heap.size, 3, none⟩ = some (.int .i64 m.b.s) ∧ v.cell? ⟨w.heap.size, 4, none⟩ = some (.int .i64 m.c.m) ∧ v.cell? ⟨w.heap.size, 5, none⟩ = some (.int .i64 m.c.s) ∧ v.cell? ⟨w.heap.size, 6, none⟩ = some (.int .i64 m.d.m) ∧ v.cell? ⟨w.heap.size, 7, none⟩ = some (.int .i64 m.d.s) ∧ v.cell? ⟨w.heap.size, 8, none⟩ = some (.int .i64 m.e.m) ∧ v.cell? ⟨w.heap.size, 9, none⟩ = some (.int .i64 m.e.s) ∧ v.cell? ⟨w.heap.size, 10, none⟩ = some (.int .i64 m.f.m) ∧ v.cell? ⟨w.heap.size, 11, none⟩ = some (.int .i64 m.f.s)) ∧ (v.cell? ⟨R, o + k * 4, none⟩ = some (.int .i64 (F k).x.m) ∧ v.cell? ⟨R, o + k * 4 + 1, none⟩ = some (.int .i64 (F k).x.s) ∧ v.cell? ⟨R, o + k * 4 + 2, none⟩ = some (.int .i64 (F k).y.m) ∧ v.cell? ⟨R, o + k * 4 + 3, none⟩ = some (.int .i64 (F k).y.s))) (first | with_reducible assumption | with_reducible exact And.intro (MIn.later hS.1 HV) (PAtR.later hS.2 HV) | with_reducible exact And.intro (MIn.later hS.1 (Below.drew HV)) (PAtR.later hS.2 (Below.drew HV)) | with_reducible exact And.intro (MIn.later hS.1 (HV.alloc HV.size _)) (PAtR.later hS.2 (HV.alloc HV.size _)) | with_reducible exact And.intro (MIn.later hS.1 (Below.drew (HV.alloc HV.size _))) (PAtR.later hS.2 (Below.drew (HV.alloc HV.size _))) | with_reducible exact And.intro (MIn.later hS.1 (BS4 gB HV)) (PAtR.later hS.2 (BS4 gB HV)) | go_keep)
          (first | (go_at_call 12; (with_reducible refine (map_any m (F k) q kE _ HQ.out).mono ?_); rintro e v ⟨rfl, k1⟩; (first | (with_reducible have k1 := undrew k1) | skip); (first | (with_reducible have HN := Below.trans HV (k1.mono HV.size); have HV := HN; clear HN) | (with_reducible have HN := Below.trans (HV.alloc HV.size _) (k1.mono (HV.alloc HV.size _).size); have gB := HV.size; have HV := HN; clear HN; have hG := (Whole.made _ 40 #[.int .i64 0, .int .i64 0, .int .i64 0, .int .i64 0]).here k1; have lG := Whole.lt hG; have rg := Whole.reads hG; have fg := Whole.thawed hG))))
        all_goals
          go_wp2_with fail
          go_meet
          refine ⟨_, rfl, rfl, ?_, ?_⟩
          · first
              | with_reducible exact PIn.sets' hG
              | with_reducible exact PIn.made _ _ q
          · first
              | with_reducible exact Lib.hid ⟨HoldSt.mk (MIn.later hM (BS4 gB HV)) (BIn.later hB (BS4 gB HV)) (BIn.later hC (BS4 gB HV)) (HB.out.trans ((BS4 gB HV).mono lw)), PAt.later hP (BS4 gB HV)⟩
              | with_reducible exact Lib.hid ⟨HoldSt.mk (MIn.later hM (HV.alloc HV.size _)) (BIn.later hB (HV.alloc HV.size _)) (BIn.later hC (HV.alloc HV.size _)) (HB.out.trans ((HV.alloc HV.size _).mono lw)), PAt.later hP (HV.alloc HV.size _)⟩
      case rest =>
      clear hM hB hC hP HB lB lC lM lR lw hS HV hwz
      obtain ⟨g, rfl, rfl, hQ, hcut⟩ := hcut
      obtain ⟨⟨hM, hB, hC, hb⟩, hP⟩ := id hcut.out
      have HB := Lib.hid hb
      clear hcut hb hP
      have HL : Hid (∀ j < k + 1, (F j).x = (ofN F n).x0 → lb2 = true) := fun j hj he => by
        rcases Nat.lt_or_ge j k with h | h
        · exact hlb2.out.1 (hl.out j h he)
        · obtain rfl : j = k := by omega
          exact hlb2.out.2 he
      have HU : Hid (∀ j < k + 1, (F j).y = (ofN F n).y1 → ub2 = true) := fun j hj he => by
        rcases Nat.lt_or_ge j k with h | h
        · exact hub2.out.1 (hu.out j h he)
        · obtain rfl : j = k := by omega
          exact hub2.out.2 he
      clear hl hu hlb2 hub2
      by_cases hfE : fE = 0
      · by_cases hkE : kE = 0
        · subst hfE
          subst hkE
          have HH := Lib.hid (BMapIs.holds hmap.out HIN.out HQ.out)
          have HQK := Lib.hid HQ.out.ok.1
          have lQ := hQ.lt
          obtain ⟨fq0, fq1, fq2, fq3⟩ := id hQ
          go_wp2_with fail
          refine (of_any (fun _ => q) 1 1 _ 0 _ (dotB q) 0 (by omega) (by omega) (Lib.hid fun i hi => by obtain rfl : i = 0 := (by omega); exact PIn.made _ _ q) (Lib.hid (of_dot HQK.out))).mono ?_
          rintro e v5 ⟨rfl, b1⟩
          have kk : Below wc.heap.size wc v5 := ((Below.refl _ _).alloc (Nat.le_refl _) _).trans (b1.mono (by simp))
          have HB := Lib.hid (HB.out.trans (kk.mono HB.out.size))
          have hM := hM.later kk
          have hB := hB.later kk
          have hC := hC.later kk
          clear b1 kk hQ lQ fq0 fq1 fq2 fq3
          have hT := BIn.made v5 25 (dotB q)
          have hM := hM.old (.cells #[.int .i64 (dotB q).x0.m, .int .i64 (dotB q).x0.s, .int .i64 (dotB q).y0.m, .int .i64 (dotB q).y0.s, .int .i64 (dotB q).x1.m, .int .i64 (dotB q).x1.s, .int .i64 (dotB q).y1.m, .int .i64 (dotB q).y1.s] 25)
          have hB := hB.old (.cells #[.int .i64 (dotB q).x0.m, .int .i64 (dotB q).x0.s, .int .i64 (dotB q).y0.m, .int .i64 (dotB q).y0.s, .int .i64 (dotB q).x1.m, .int .i64 (dotB q).x1.s, .int .i64 (dotB q).y1.m, .int .i64 (dotB q).y1.s] 25)
          have hC := hC.old (.cells #[.int .i64 (dotB q).x0.m, .int .i64 (dotB q).x0.s, .int .i64 (dotB q).y0.m, .int .i64 (dotB q).y0.s, .int .i64 (dotB q).x1.m, .int .i64 (dotB q).x1.s, .int .i64 (dotB q).y1.m, .int .i64 (dotB q).y1.s] 25)
          have HB := Lib.hid (HB.out.alloc HB.out.size (.cells #[.int .i64 (dotB q).x0.m, .int .i64 (dotB q).x0.s, .int .i64 (dotB q).y0.m, .int .i64 (dotB q).y0.s, .int .i64 (dotB q).x1.m, .int .i64 (dotB q).x1.s, .int .i64 (dotB q).y1.m, .int .i64 (dotB q).y1.s] 25))
          have lC := hC.lt
          obtain ⟨fc0, fc1, fc2, fc3, fc4, fc5, fc6, fc7⟩ := id hC
          obtain ⟨ft0, ft1, ft2, ft3, ft4, ft5, ft6, ft7⟩ := id hT
          go_wp2_with fail
          refine (both_any cB (dotB q) cB 0 _ (.inl ⟨HH.out.1, dotB_ok HQK.out, (join_dot HH.out.1 HQK.out HH.out.2).symm, rfl⟩)).mono ?_
          rintro e v6 ⟨rfl, b1⟩
          have HB := Lib.hid (HB.out.trans (b1.mono HB.out.size))
          have hM := hM.later b1
          have hB := hB.later b1
          have hC := hC.later b1
          clear b1 hT fc0 fc1 fc2 fc3 fc4 fc5 fc6 fc7 ft0 ft1 ft2 ft3 ft4 ft5 ft6 ft7 lC
          have hM := hM.old (.cells #[.int .i64 cB.x0.m, .int .i64 cB.x0.s, .int .i64 cB.y0.m, .int .i64 cB.y0.s, .int .i64 cB.x1.m, .int .i64 cB.x1.s, .int .i64 cB.y1.m, .int .i64 cB.y1.s] 25)
          have hB := hB.old (.cells #[.int .i64 cB.x0.m, .int .i64 cB.x0.s, .int .i64 cB.y0.m, .int .i64 cB.y0.s, .int .i64 cB.x1.m, .int .i64 cB.x1.s, .int .i64 cB.y1.m, .int .i64 cB.y1.s] 25)
          have hC := hC.old (.cells #[.int .i64 cB.x0.m, .int .i64 cB.x0.s, .int .i64 cB.y0.m, .int .i64 cB.y0.s, .int .i64 cB.x1.m, .int .i64 cB.x1.s, .int .i64 cB.y1.m, .int .i64 cB.y1.s] 25)
          have HB := Lib.hid (HB.out.alloc HB.out.size (.cells #[.int .i64 cB.x0.m, .int .i64 cB.x0.s, .int .i64 cB.y0.m, .int .i64 cB.y0.s, .int .i64 cB.x1.m, .int .i64 cB.x1.s, .int .i64 cB.y1.m, .int .i64 cB.y1.s] 25))
          have lC := hC.lt
          obtain ⟨fc0, fc1, fc2, fc3, fc4, fc5, fc6, fc7⟩ := id hC
          go_wp2
          go_roundw
          case rel => exact ⟨k + 1, lb2, ub2, by omega, by go_num, rfl, rfl, HL, HU, Lib.hid (HoldSt.mk hM hB hC (by (repeat (first | with_reducible refine Below.drew ?_ | with_reducible refine bdrewN ?_ _ | (with_reducible refine Below.setCell ?_ ?_ _; rotate_left; focus (first | exact Nat.le_refl _ | omega | (simp; omega) | (simp; done))) | (with_reducible refine Below.alloc ?_ ?_ _; rotate_left; focus (first | exact Nat.le_refl _ | omega | (simp; omega) | (simp; done))))); with_reducible exact HB.out))⟩
          case measure => simp [intOf]; omega
        · have q1 : (fE != 0) = false := by rw [hfE]; rfl
          have q2 : (kE != 0) = true := by rw [bne_iff_ne]; exact hkE
          have HE1 := Lib.hid hfE
          have HE2 := Lib.hid hkE
          clear hfE hkE
          go_wp2
          go_roundw
          case rel => exact ⟨k + 1, lb2, ub2, by omega, by go_num, rfl, rfl, HL, HU, Lib.hid (HoldSt.mk hM hB hC (by (repeat (first | with_reducible refine Below.drew ?_ | with_reducible refine bdrewN ?_ _ | (with_reducible refine Below.setCell ?_ ?_ _; rotate_left; focus (first | exact Nat.le_refl _ | omega | (simp; omega) | (simp; done))) | (with_reducible refine Below.alloc ?_ ?_ _; rotate_left; focus (first | exact Nat.le_refl _ | omega | (simp; omega) | (simp; done))))); with_reducible exact HB.out))⟩
          case measure => simp [intOf]; omega
      · have q1 : (fE != 0) = true := by rw [bne_iff_ne]; exact hfE
        have HE1 := Lib.hid hfE
        clear hfE
        go_wp2
        go_roundw
        case rel => exact ⟨k + 1, lb2, ub2, by omega, by go_num, rfl, rfl, HL, HU, Lib.hid (HoldSt.mk hM hB hC (by (repeat (first | with_reducible refine Below.drew ?_ | with_reducible refine bdrewN ?_ _ | (with_reducible refine Below.setCell ?_ ?_ _; rotate_left; focus (first | exact Nat.le_refl _ | omega | (simp; omega) | (simp; done))) | (with_reducible refine Below.alloc ?_ ?_ _; rotate_left; focus (first | exact Nat.le_refl _ | omega | (simp; omega) | (simp; done))))); with_reducible exact HB.out))⟩
        case measure => simp [intOf]; omega
    · obtain rfl : k = n := by omega
      have kk := ofN_ok F k h0 hok.out
      obtain rfl : lb = true := by
        obtain ⟨j, hj, e⟩ := kk.2.2.1
        exact hl.out j hj e.symm
      obtain rfl : ub = true := by
        obtain ⟨j, hj, e⟩ := kk.2.2.2.2.2
        exact hu.out j hj e.symm
      obtain ⟨hM, hB, hC, hb⟩ := id hS.out
      have HB := Lib.hid hb
      clear hM hB hC hb hS kk
      go_wp2_with fail
      refine (bawake_any _).mono ?_
      rintro e v9 ⟨rfl, b1⟩
      have HB := Lib.hid (HB.out.trans (b1.mono HB.out.size))
      clear b1
      go_wp2
      go_ret
      exact ⟨rfl, HB.out⟩
theorem holds_slice (m : MV) (F : Nat → PV) (n c R o : Nat) (w : World) (h0 : 0 < n) (hc : n ≤ c) (hm : n ≤ 9223372036854775807) (hF : ∀ i < n, PAt w R (o + i * 4) (F i)) :
    Calls Try.prog 4 #[m.val, .slice (some ⟨R, o, none⟩) n c] w fun e w' => e = .returned (.bool true) ∧ Below w.heap.size w w' := by
  obtain ⟨b, E, h⟩ := OfIs.total F n
  by_cases hn : 50 < n
  · exact holds_many m F n c R o w b E hn hm (Lib.hid hF) (Lib.hid h)
  · rcases h with ⟨h, -⟩ | ⟨h1, h2, -, -⟩ | ⟨h1, h2, -, -⟩
    · omega
    · exact holds_bad m F n c R o w h0 (by omega) (Lib.hid hF) (Lib.hid (.inr (.inl ⟨h1, h2, rfl, rfl⟩)))
    · obtain ⟨cB, fE, hb⟩ := BMapIs.total m (ofN F n)
      exact holds_good m F n c R o w cB fE h0 (by omega) hc (Lib.hid hF) (Lib.hid h2) (Lib.hid hb)
end Go.Proofs.Ytgdfdlicfjjfjaa
