/- The reference's sum, where the greater number stands second; its Add. -/
import Derived.Test.YtpdjooeogpidhaaRefSum
import Derived.Test.YtpdjooeogpidhaaDecAdd
import Derived.Deep.RegionWith
namespace Go.Proofs.Ytpdjooeogpidhaa
open Go.RowKit Dec

theorem liftD_none (s : Nat) (ds : List Int) : liftD s s ds = ds := by unfold liftD; rw [Nat.sub_self]; rfl
set_option maxRecDepth 100000 in
set_option maxHeartbeats 8000000 in
theorem sum_rev (bA bB : Bool) (vA vB : Value) (dA dB : List Int) (s s' : Nat) (w : World) (hA : Row w vA dA) (hB : Row w vB dB) (gA : Digs dA) (gB : Digs dB) (lA : dA.length ≤ 100) (lB : dB.length ≤ 100) (hs : s ≤ 50) (hs' : s' ≤ 50)
    (A B : List Int) (S : Nat) (eA : A = liftD (max s s') s dA) (eB : B = liftD (max s s') s' dB) (eS : S = max s s') (hne : bA ≠ bB) (hord : num A < num B) :
    Calls Try.prog 60 #[.agg #[.bool bA, vA, .int .i64 s], .agg #[.bool bB, vB, .int .i64 s']] w (IsSum bB (sumV bB bA (num B) (num A)) S w) := by
  obtain ⟨i0, hi, hz0, hz1, hz2⟩ := info_parts info3
  have hformA : ∃ a n c, vA = .slice a n c := by
    rcases hA with ⟨rfl, -⟩ | ⟨g, o, c, rfl, -, -⟩
    · exact ⟨_, _, _, rfl⟩
    · exact ⟨_, _, _, rfl⟩
  have hformB : ∃ a n c, vB = .slice a n c := by
    rcases hB with ⟨rfl, -⟩ | ⟨g, o, c, rfl, -, -⟩
    · exact ⟨_, _, _, rfl⟩
    · exact ⟨_, _, _, rfl⟩
  obtain ⟨aA, nA, cA, rfl⟩ := hformA
  obtain ⟨aB, nB, cB, rfl⟩ := hformB
  have HRA := Lib.hid (And.intro hA hB)
  have HO := Lib.hid (And.intro hne hord)
  have HE := Lib.hid (And.intro eA (And.intro eB eS))
  have lD : A.length ≤ 150 := by rw [eA, liftD_len]; omega
  have lD' : B.length ≤ 150 := by rw [eB, liftD_len]; omega
  have gD : Digs A := by rw [eA]; exact liftD_digs gA
  have gD' : Digs B := by rw [eB]; exact liftD_digs gB
  have HGD := Lib.hid (And.intro gD gD')
  clear hA hB gA gB hne hord eA eB eS gD gD'
  go_enter Try.func60, Try.ntmps60
  have HW1 := Lib.hid (show Below w.heap.size w (((w.alloc (.cells #[.bool bA, .slice aA nA cA, .int .i64 s] 90)).alloc (.cells #[.bool bB, .slice aB nB cB, .int .i64 s'] 90)).alloc (.cells #[.bool false, .slice none 0 0, .int .i64 0] 90)) ∧ Whole (((w.alloc (.cells #[.bool bA, .slice aA nA cA, .int .i64 s] 90)).alloc (.cells #[.bool bB, .slice aB nB cB, .int .i64 s'] 90)).alloc (.cells #[.bool false, .slice none 0 0, .int .i64 0] 90)) w.heap.size 90 #[.bool bA, .slice aA nA cA, .int .i64 s] ∧ Whole (((w.alloc (.cells #[.bool bA, .slice aA nA cA, .int .i64 s] 90)).alloc (.cells #[.bool bB, .slice aB nB cB, .int .i64 s'] 90)).alloc (.cells #[.bool false, .slice none 0 0, .int .i64 0] 90)) (w.heap.size + 1) 90 #[.bool bB, .slice aB nB cB, .int .i64 s'] ∧ Whole (((w.alloc (.cells #[.bool bA, .slice aA nA cA, .int .i64 s] 90)).alloc (.cells #[.bool bB, .slice aB nB cB, .int .i64 s'] 90)).alloc (.cells #[.bool false, .slice none 0 0, .int .i64 0] 90)) (w.heap.size + 1 + 1) 90 #[.bool false, .slice none 0 0, .int .i64 0] from by
    refine ⟨((((Below.refl w.heap.size w).alloc (Nat.le_refl _) _).alloc (by simp) _).alloc (by simp; omega) _), ((Whole.made _ _ _).old _).old _, ?_, ?_⟩
    · have := (Whole.made (w.alloc (.cells #[.bool bA, .slice aA nA cA, .int .i64 s] 90)) 90 #[.bool bB, .slice aB nB cB, .int .i64 s']).old (.cells #[.bool false, .slice none 0 0, .int .i64 0] 90)
      simpa using this
    · have := Whole.made ((w.alloc (.cells #[.bool bA, .slice aA nA cA, .int .i64 s] 90)).alloc (.cells #[.bool bB, .slice aB nB cB, .int .i64 s'] 90)) 90 #[.bool false, .slice none 0 0, .int .i64 0]
      simpa using this)
  go_upto_region 1 with fail
  generalize hW1 : ((w.alloc (.cells #[.bool bA, .slice aA nA cA, .int .i64 s] 90)).alloc (.cells #[.bool bB, .slice aB nB cB, .int .i64 s'] 90)).alloc (.cells #[.bool false, .slice none 0 0, .int .i64 0] 90) = W1 at *
  clear hW1
  have hS : (max (s : Int) (s' : Int)) = ((max s s' : Nat) : Int) := by omega
  have hS9 : max s s' ≤ 50 := by omega
  have a0 : W1.cell? ⟨w.heap.size, 0, none⟩ = some (.bool bA) := HW1.out.2.1.reads 0
  have a1 : W1.cell? ⟨w.heap.size, 1, none⟩ = some (.slice aA nA cA) := HW1.out.2.1.reads 1
  have a2 : W1.cell? ⟨w.heap.size, 2, none⟩ = some (.int .i64 s) := HW1.out.2.1.reads 2
  have b2 : W1.cell? ⟨w.heap.size + 1, 2, none⟩ = some (.int .i64 s') := HW1.out.2.2.1.reads 2
  have la := HW1.out.2.1.lt
  have lb := HW1.out.2.2.1.lt
  go_wp2_with fail
  refine (liftD_is bA _ dA s (max s s') W1 (row_below HRA.out.1 HW1.out.1) (by omega) (by omega) (by omega)).mono ?_
  rintro e w2 ⟨v2, rfl, hown, hb⟩
  obtain ⟨av2, cv2, rfl⟩ := own_slice' hown
  have hA2 := HW1.out.2.1.here hb
  have hB2 := HW1.out.2.2.1.here hb
  have hR2 := HW1.out.2.2.2.here hb
  have x0 : w2.cell? ⟨w.heap.size, 0, none⟩ = some (.bool bA) := hA2.reads 0
  have x1 : w2.cell? ⟨w.heap.size, 1, none⟩ = some (.slice aA nA cA) := hA2.reads 1
  have x2 : w2.cell? ⟨w.heap.size, 2, none⟩ = some (.int .i64 s) := hA2.reads 2
  have f0 := hA2.thawed 0
  have f1 := hA2.thawed 1
  have f2 := hA2.thawed 2
  have la2 := hA2.lt
  rw [← HE.out.1] at hown
  have hbb := HW1.out.1.trans (hb.mono HW1.out.1.size)
  have HW2 := Lib.hid (And.intro (below_set3 hbb (Nat.le_refl _) (.bool bA) (.slice av2 A.length cv2) (.int .i64 ((max s (max s s') : Nat) : Int))) (And.intro (nv_store hA2 hown (b' := bA) (s' := ((max s (max s s') : Nat) : Int))) (And.intro (whole_away3 hB2 (show w.heap.size + 1 ≠ w.heap.size by omega) (.bool bA) (.slice av2 A.length cv2) (.int .i64 ((max s (max s s') : Nat) : Int))) (whole_away3 hR2 (show w.heap.size + 1 + 1 ≠ w.heap.size by omega) (.bool bA) (.slice av2 A.length cv2) (.int .i64 ((max s (max s s') : Nat) : Int))))))
  clear hA2 hB2 hR2 hbb hown hb a0 a1 a2 b2 la lb HW1
  go_upto_region 3 with fail
  rw [← HE.out.1]
  generalize hW3 : ((w2.setCell ⟨w.heap.size, 0, none⟩ (.bool bA)).setCell ⟨w.heap.size, 1, none⟩ (.slice av2 A.length cv2)).setCell ⟨w.heap.size, 2, none⟩ (.int .i64 ((max s (max s s') : Nat) : Int)) = W3 at *
  clear hW3 x0 x1 x2 f0 f1 f2 la2
  have b0 : W3.cell? ⟨w.heap.size + 1, 0, none⟩ = some (.bool bB) := HW2.out.2.2.1.reads 0
  have b1 : W3.cell? ⟨w.heap.size + 1, 1, none⟩ = some (.slice aB nB cB) := HW2.out.2.2.1.reads 1
  have b2 : W3.cell? ⟨w.heap.size + 1, 2, none⟩ = some (.int .i64 s') := HW2.out.2.2.1.reads 2
  have lb := HW2.out.2.2.1.lt
  go_wp2_with fail
  refine (liftD_is bB _ dB s' (max s s') W3 (row_below HRA.out.2 HW2.out.1) (by omega) (by omega) (by omega)).mono ?_
  rintro e w4 ⟨v4, rfl, hown, hb⟩
  obtain ⟨av4, cv4, rfl⟩ := own_slice' hown
  rw [← HE.out.2.1] at hown
  have hA4 := HW2.out.2.1.later hb
  have hB4 := HW2.out.2.2.1.here hb
  have hR4 := HW2.out.2.2.2.here hb
  have y0 : w4.cell? ⟨w.heap.size + 1, 0, none⟩ = some (.bool bB) := hB4.reads 0
  have y1 : w4.cell? ⟨w.heap.size + 1, 1, none⟩ = some (.slice aB nB cB) := hB4.reads 1
  have y2 : w4.cell? ⟨w.heap.size + 1, 2, none⟩ = some (.int .i64 s') := hB4.reads 2
  have f0 := hB4.thawed 0
  have f1 := hB4.thawed 1
  have f2 := hB4.thawed 2
  have lb4 := hB4.lt
  have hbb := HW2.out.1.trans (hb.mono HW2.out.1.size)
  have HW4 := Lib.hid (And.intro (below_set3 hbb (show w.heap.size ≤ w.heap.size + 1 by omega) (.bool bB) (.slice av4 B.length cv4) (.int .i64 ((max s' (max s s') : Nat) : Int))) (And.intro (hA4.aside hB4 (show w.heap.size ≠ w.heap.size + 1 by omega) (.bool bB) (.slice av4 B.length cv4) (.int .i64 ((max s' (max s s') : Nat) : Int))) (And.intro (nv_store hB4 hown (b' := bB) (s' := ((max s' (max s s') : Nat) : Int))) (whole_away3 hR4 (show w.heap.size + 1 + 1 ≠ w.heap.size + 1 by omega) (.bool bB) (.slice av4 B.length cv4) (.int .i64 ((max s' (max s s') : Nat) : Int))))))
  clear hA4 hB4 hR4 hbb hown hb b0 b1 b2 lb HW2
  go_upto_region 4 with fail
  rw [← HE.out.2.1]
  generalize hW5 : ((w4.setCell ⟨w.heap.size + 1, 0, none⟩ (.bool bB)).setCell ⟨w.heap.size + 1, 1, none⟩ (.slice av4 B.length cv4)).setCell ⟨w.heap.size + 1, 2, none⟩ (.int .i64 ((max s' (max s s') : Nat) : Int)) = W5 at *
  clear hW5 y0 y1 y2 f0 f1 f2 lb4
  obtain ⟨a0, a1, a2, -, la⟩ := HW4.out.2.1.cells
  obtain ⟨b0, b1, b2, -, lb⟩ := HW4.out.2.2.1.cells
  have q1 : (bA != bB) = true := by rw [bne_iff_ne]; exact HO.out.1
  have q2 : (bA == bB) = false := by rw [beq_eq_false_iff_ne]; exact HO.out.1
  have hless := less_any _ _ A B W5 HW4.out.2.1.reads HW4.out.2.2.1.reads HGD.out.1 HGD.out.2 (by omega) (by omega)
  rw [decide_eq_true HO.out.2] at hless
  have m1 : max s (max s s') = max s s' := by omega
  have m2 : max s' (max s s') = max s s' := by omega
  rw [m1] at HW4 a2
  rw [m2] at HW4 b2
  have hrec := sum_ord bB bA _ _ B A (max s s') (max s s') W5 HW4.out.2.2.1.row HW4.out.2.1.row HGD.out.2 HGD.out.1 (by omega) (by omega) (by omega) (by omega) B A (max s s') (by rw [Nat.max_self, liftD_none]) (by rw [Nat.max_self, liftD_none]) (by rw [Nat.max_self]) (fun _ => Nat.le_of_lt HO.out.2)
  have HLS := Lib.hid (And.intro hless hrec)
  clear hless hrec m1 m2
  go_wp2_with fail
  refine HLS.out.1.mono ?_
  rintro e w6 ⟨rfl, rfl⟩
  go_wp2_with fail
  refine HLS.out.2.mono ?_
  rintro e w7 ⟨v7, ds7, rfl, hown, hdg, hnum, hlen, hb⟩
  obtain ⟨av7, cv7, rfl⟩ := own_slice' hown
  have hR := HW4.out.2.2.2.here hb
  have r0 : w7.cell? ⟨w.heap.size + 1 + 1, 0, none⟩ = some (.bool false) := hR.reads 0
  have r1 : w7.cell? ⟨w.heap.size + 1 + 1, 1, none⟩ = some (.slice none 0 0) := hR.reads 1
  have r2 : w7.cell? ⟨w.heap.size + 1 + 1, 2, none⟩ = some (.int .i64 0) := hR.reads 2
  have z0 := hR.thawed 0
  have z1 := hR.thawed 1
  have z2 := hR.thawed 2
  have lr := hR.lt
  have hown9 := own_mono (own_off hown hR (.bool bB) (.slice av7 ds7.length cv7) (.int .i64 ((max s s' : Nat) : Int))) (show w.heap.size ≤ W5.heap.size from HW4.out.1.size)
  have hb9 := below_set3 (HW4.out.1.trans (hb.mono HW4.out.1.size)) (show w.heap.size ≤ w.heap.size + 1 + 1 by omega) (.bool bB) (.slice av7 ds7.length cv7) (.int .i64 ((max s s' : Nat) : Int))
  have HF := Lib.hid (And.intro hown9 (And.intro hdg (And.intro hnum (And.intro hlen hb9))))
  clear hR hown9 hb9 hdg hnum hlen hown hb
  go_wp2_with fail
  refine bodyPost_ret (v := .agg #[.bool bB, .slice av7 ds7.length cv7, .int .i64 ((max s s' : Nat) : Int)]) (by simp [results, Try.results60, go_sem, r0, r1, r2]) rfl ⟨_, ds7, by rw [HE.out.2.2], HF.out.1, HF.out.2.1, HF.out.2.2.1, HF.out.2.2.2.1, HF.out.2.2.2.2⟩

/-- Two decimals and a result's variable, at their places behind the start. -/
structure Three (w0 w : World) (m s m' s' : Int) : Prop where
  a : Whole w w0.heap.size 23 #[.int .i64 m, .int .i64 s]
  b : Whole w (w0.heap.size + 1) 23 #[.int .i64 m', .int .i64 s']
  r : Whole w (w0.heap.size + 1 + 1) 23 #[.int .i64 0, .int .i64 0]
  below : Below w0.heap.size w0 w
theorem Three.here {w0 w w' : World} {m s m' s' : Int} (h : Three w0 w m s m' s') (hb : Below w.heap.size w w') : Three w0 w' m s m' s' :=
  ⟨h.a.here hb, h.b.here hb, h.r.here hb, h.below.trans (hb.mono h.below.size)⟩
theorem Three.drew {w0 w : World} {m s m' s' : Int} (h : Three w0 w m s m' s') : Three w0 w.drew m s m' s' := ⟨h.a.drawn1, h.b.drawn1, h.r.drawn1, ⟨h.below.os, h.below.tape, h.below.output, h.below.size, h.below.block⟩⟩
theorem three_dec (w : World) (m s m' s' : Int) : Three w (((w.alloc (.cells #[.int .i64 m, .int .i64 s] 23)).alloc (.cells #[.int .i64 m', .int .i64 s'] 23)).alloc (.cells #[.int .i64 0, .int .i64 0] 23)) m s m' s' := by
  refine ⟨((Whole.made _ _ _).old _).old _, ?_, ?_, ((((Below.refl w.heap.size w).alloc (Nat.le_refl _) _).alloc (by simp) _).alloc (by simp; omega) _)⟩
  · have := (Whole.made (w.alloc (.cells #[.int .i64 m, .int .i64 s] 23)) 23 #[.int .i64 m', .int .i64 s']).old (.cells #[.int .i64 0, .int .i64 0] 23)
    simpa using this
  · have := Whole.made ((w.alloc (.cells #[.int .i64 m, .int .i64 s] 23)).alloc (.cells #[.int .i64 m', .int .i64 s'] 23)) 23 #[.int .i64 0, .int .i64 0]
    simpa using this
/-- What sum answers, by the signed number. -/
def IsSumV (V : Int) (s : Int) (w : World) (e : Ending) (w' : World) : Prop :=
  ∃ b v ds, e = .returned (.agg #[.bool b, v, .int .i64 s]) ∧ w'.ownsRow w.heap.size 3 1 v ds.length (ds.map (Value.int .i64)) ∧ Digs ds ∧ (V = if b = true then -(num ds : Int) else (num ds : Int)) ∧ ds.length ≤ 400 ∧ Below w.heap.size w w'
def sgn (b : Bool) (x : Nat) : Int := if b = true then -(x : Int) else (x : Int)
theorem rsum_any (bA bB : Bool) (vA vB : Value) (dA dB : List Int) (s s' : Nat) (w : World) (hA : Row w vA dA) (hB : Row w vB dB) (gA : Digs dA) (gB : Digs dB) (lA : dA.length ≤ 100) (lB : dB.length ≤ 100) (hs : s ≤ 50) (hs' : s' ≤ 50) :
    Calls Try.prog 60 #[.agg #[.bool bA, vA, .int .i64 s], .agg #[.bool bB, vB, .int .i64 s']] w (IsSumV (sgn bA (num (liftD (max s s') s dA)) + sgn bB (num (liftD (max s s') s' dB))) (max s s' : Nat) w) := by
  by_cases hbe : bA = bB
  · refine (sum_ord bA bB vA vB dA dB s s' w hA hB gA gB (by omega) (by omega) hs hs' _ _ _ rfl rfl rfl (fun h => absurd hbe h)).mono ?_
    rintro e w' ⟨v, ds, he, ho, hd, hn, hl, hb⟩
    refine ⟨bA, v, ds, he, ho, hd, ?_, hl, hb⟩
    rw [hn]
    subst hbe
    unfold sgn sumV
    cases bA <;> simp <;> omega
  · by_cases hle : num (liftD (max s s') s' dB) ≤ num (liftD (max s s') s dA)
    · refine (sum_ord bA bB vA vB dA dB s s' w hA hB gA gB (by omega) (by omega) hs hs' _ _ _ rfl rfl rfl (fun _ => hle)).mono ?_
      rintro e w' ⟨v, ds, he, ho, hd, hn, hl, hb⟩
      refine ⟨bA, v, ds, he, ho, hd, ?_, hl, hb⟩
      rw [hn]
      unfold sgn sumV
      generalize num (liftD (max s s') s' dB) = y at *
      generalize num (liftD (max s s') s dA) = x at *
      cases bA <;> cases bB <;> simp at hbe ⊢ <;> omega
    · refine (sum_rev bA bB vA vB dA dB s s' w hA hB gA gB lA lB hs hs' _ _ _ rfl rfl rfl hbe (by omega)).mono ?_
      rintro e w' ⟨v, ds, he, ho, hd, hn, hl, hb⟩
      refine ⟨bB, v, ds, he, ho, hd, ?_, hl, hb⟩
      rw [hn]
      unfold sgn sumV
      generalize num (liftD (max s s') s' dB) = y at *
      generalize num (liftD (max s s') s dA) = x at *
      cases bA <;> cases bB <;> simp at hbe ⊢ <;> omega
end Go.Proofs.Ytpdjooeogpidhaa
