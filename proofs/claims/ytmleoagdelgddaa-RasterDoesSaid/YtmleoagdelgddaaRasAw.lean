/- raster: whole numbers: products, sums, points. -/
import Derived.Test.YtmleoagdelgddaaRasW
namespace Go.Proofs.Ytmleoagdelgddaa
open Go.RowKit Dec

theorem tm_eq {d : DV} {n : Int} {r : DV} (hr : r.Ok) (h : r.v * 1000000000 = d.v * (DV.mk n 0).v) : tm d n = (r, 0) := by
  obtain ⟨h1, h2, h3⟩ := Denotes.unique (tm_is d n) (Tells.prod hr h)
  exact Prod.ext (DV.ext' h1 h2) h3
theorem ad_eq {a b r : DV} (hr : r.Ok) (h : r.v = a.v + b.v) : ad a b = (r, 0) := by
  obtain ⟨h1, h2, h3⟩ := Denotes.unique (ad_is a b) (Tells.sum hr h)
  exact Prod.ext (DV.ext' h1 h2) h3
/-- A whole number. -/
abbrev wh (k : Int) : DV := ⟨k, 0⟩
theorem wh_v (k : Int) : (wh k).v = k * 1000000000 := by
  show val9 k 0 = _
  simp only [val9]
  rfl
theorem wh_ok {k : Int} (h1 : -999999999999999999 ≤ k) (h2 : k ≤ 999999999999999999) : (wh k).Ok := ⟨h1, h2, Int.le_refl _, by show (0 : Int) ≤ 9; decide, .inl rfl⟩
theorem tm_wh {a n : Int} (h1 : -999999999999999999 ≤ a * n) (h2 : a * n ≤ 999999999999999999) : tm (wh a) n = (wh (a * n), 0) :=
  tm_eq (wh_ok h1 h2) (by rw [wh_v, wh_v, show (DV.mk n 0).v = n * 1000000000 from wh_v n]; grind)
theorem ad_wh {a b : Int} (h1 : -999999999999999999 ≤ a + b) (h2 : a + b ≤ 999999999999999999) : ad (wh a) (wh b) = (wh (a + b), 0) :=
  ad_eq (wh_ok h1 h2) (by rw [wh_v, wh_v, wh_v]; grind)
theorem su_wh {a b c : Int} (h1 : -999999999999999999 ≤ a + b) (h2 : a + b ≤ 999999999999999999) (h3 : -999999999999999999 ≤ a + b + c) (h4 : a + b + c ≤ 999999999999999999) : su (wh a) (wh b) (wh c) = (wh (a + b + c), 0) := by
  unfold su
  rw [ad_wh h1 h2, ad_wh h3 h4]
  rfl
theorem mul_small {a : Int} {u : Nat} (ha : a.natAbs ≤ 1000) (hu : u ≤ 10000) : (a * (u : Int)).natAbs ≤ 10000000 := by
  rw [Int.natAbs_mul, Int.natAbs_natCast]
  exact Nat.mul_le_mul ha hu
theorem sizes_small {X Z x z : Nat} (hX : X ≤ 100) (hZ : Z ≤ 99) (hx : x ≤ X) (hz : z ≤ Z) : x * Z ≤ 10000 ∧ z * X ≤ 10000 ∧ X * Z ≤ 10000 := by
  have h1 : x * Z ≤ 100 * 100 := Nat.mul_le_mul (by omega) (by omega)
  have h2 : z * X ≤ 100 * 100 := Nat.mul_le_mul (by omega) (by omega)
  have h3 : X * Z ≤ 100 * 100 := Nat.mul_le_mul (by omega) (by omega)
  omega
/-- A matrix of small whole numbers. -/
structure Small (m : MV) (a b c d e f : Int) : Prop where
  eq : m = ⟨wh a, wh b, wh c, wh d, wh e, wh f⟩
  a : a.natAbs ≤ 1000
  b : b.natAbs ≤ 1000
  c : c.natAbs ≤ 1000
  d : d.natAbs ≤ 1000
  e : e.natAbs ≤ 1000
  f : f.natAbs ≤ 1000
section
variable {m : MV} {a b c d e f : Int} {X Z : Nat} (h : Small m a b c d e f) (hX : X ≤ 100) (hZ : Z ≤ 99)
include h hX hZ
theorem pt_wh {x z : Nat} (hx : x ≤ X) (hz : z ≤ Z) :
    ptX m X Z z x = (wh (a * ((x * Z : Nat) : Int) + c * ((z * X : Nat) : Int) + e * ((X * Z : Nat) : Int)), 0) ∧ ptY m X Z z x = (wh (b * ((x * Z : Nat) : Int) + d * ((z * X : Nat) : Int) + f * ((X * Z : Nat) : Int)), 0) ∧ pE m X Z z x = 0 := by
  obtain ⟨s1, s2, s3⟩ := sizes_small hX hZ hx hz
  have a1 := mul_small h.a s1
  have b1 := mul_small h.b s1
  have c1 := mul_small h.c s2
  have d1 := mul_small h.d s2
  have e1 := mul_small h.e s3
  have f1 := mul_small h.f s3
  have ta : tm m.a ((x * Z : Nat) : Int) = (wh (a * ((x * Z : Nat) : Int)), 0) := by rw [h.eq]; exact tm_wh (by omega) (by omega)
  have tb : tm m.b ((x * Z : Nat) : Int) = (wh (b * ((x * Z : Nat) : Int)), 0) := by rw [h.eq]; exact tm_wh (by omega) (by omega)
  have tc : tm m.c ((z * X : Nat) : Int) = (wh (c * ((z * X : Nat) : Int)), 0) := by rw [h.eq]; exact tm_wh (by omega) (by omega)
  have td : tm m.d ((z * X : Nat) : Int) = (wh (d * ((z * X : Nat) : Int)), 0) := by rw [h.eq]; exact tm_wh (by omega) (by omega)
  have te : tm m.e ((X * Z : Nat) : Int) = (wh (e * ((X * Z : Nat) : Int)), 0) := by rw [h.eq]; exact tm_wh (by omega) (by omega)
  have tf : tm m.f ((X * Z : Nat) : Int) = (wh (f * ((X * Z : Nat) : Int)), 0) := by rw [h.eq]; exact tm_wh (by omega) (by omega)
  have px : ptX m X Z z x = (wh (a * ((x * Z : Nat) : Int) + c * ((z * X : Nat) : Int) + e * ((X * Z : Nat) : Int)), 0) := by
    unfold ptX
    rw [ta, tc, te]
    exact su_wh (by omega) (by omega) (by omega) (by omega)
  have py : ptY m X Z z x = (wh (b * ((x * Z : Nat) : Int) + d * ((z * X : Nat) : Int) + f * ((X * Z : Nat) : Int)), 0) := by
    unfold ptY
    rw [tb, td, tf]
    exact su_wh (by omega) (by omega) (by omega) (by omega)
  refine ⟨px, py, ?_⟩
  unfold pE
  rw [px, py, ta, tb]
  rfl
theorem rE_wh {z : Nat} (hz : z ≤ Z) : ∀ x, x ≤ X + 1 → rE m X Z z x = 0
  | 0, _ => rfl
  | x + 1, hx => by
    rw [rE, rE_wh hz x (by omega), (pt_wh h hX hZ (by omega) hz).2.2]
    rfl
theorem gE_wh : ∀ z, z ≤ Z + 1 → gE m X Z z = 0
  | 0, _ => rfl
  | z + 1, hz => by
    obtain ⟨s1, s2, s3⟩ := sizes_small hX hZ (Nat.zero_le X) (show z ≤ Z by omega)
    have c1 := mul_small h.c s2
    have d1 := mul_small h.d s2
    have tc : tm m.c ((z * X : Nat) : Int) = (wh (c * ((z * X : Nat) : Int)), 0) := by rw [h.eq]; exact tm_wh (by omega) (by omega)
    have td : tm m.d ((z * X : Nat) : Int) = (wh (d * ((z * X : Nat) : Int)), 0) := by rw [h.eq]; exact tm_wh (by omega) (by omega)
    rw [gE, gE_wh z (by omega), tc, td, rE_wh h hX hZ (by omega) (X + 1) (Nat.le_refl _)]
    rfl
theorem gridE_wh : gridE m X Z = 0 := by
  obtain ⟨s1, s2, s3⟩ := sizes_small hX hZ (Nat.zero_le X) (Nat.zero_le Z)
  have e1 := mul_small h.e s3
  have f1 := mul_small h.f s3
  have te : tm m.e ((X * Z : Nat) : Int) = (wh (e * ((X * Z : Nat) : Int)), 0) := by rw [h.eq]; exact tm_wh (by omega) (by omega)
  have tf : tm m.f ((X * Z : Nat) : Int) = (wh (f * ((X * Z : Nat) : Int)), 0) := by rw [h.eq]; exact tm_wh (by omega) (by omega)
  unfold gridE
  rw [te, tf, gE_wh h hX hZ (Z + 1) (Nat.le_refl _)]
  rfl
theorem pF_wh {x z : Nat} (hx : x ≤ X) (hz : z ≤ Z) :
    pF m X Z (z * (X + 1) + x) = ⟨wh (a * ((x * Z : Nat) : Int) + c * ((z * X : Nat) : Int) + e * ((X * Z : Nat) : Int)), wh (b * ((x * Z : Nat) : Int) + d * ((z * X : Nat) : Int) + f * ((X * Z : Nat) : Int))⟩ := by
  obtain ⟨h1, h2, _⟩ := pt_wh h hX hZ hx hz
  rw [pF_at m X Z z x hx, h1, h2]
end
end Go.Proofs.Ytmleoagdelgddaa
/- raster: what is covered, by other words for the points; the awake's matrix. -/
namespace Go.Proofs.Ytmleoagdelgddaa
open Go.RowKit Dec

theorem ofN_congr {F G : Nat → PV} (h0 : F 0 = G 0) : ∀ n, (∀ i < n, F i = G i) → ofN F n = ofN G n
  | 0, _ => by simp only [ofN, h0]
  | n + 1, h => by rw [ofN, ofN, ofN_congr h0 n (fun i hi => h i (by omega)), h n (by omega)]
theorem cov_congr {F G : Nat → PV} {X Z : Nat} (hF : ∀ i < (Z + 1) * (X + 1), F i = G i) (l : List BV) {j : Nat} (hj : j < X * Z) : cov F ((Z + 1) * (X + 1)) X Z l j = cov G ((Z + 1) * (X + 1)) X Z l j := by
  have hX : 0 < X := Nat.pos_of_ne_zero (fun e => by subst e; omega)
  have hx : j % X < X := Nat.mod_lt _ hX
  have hz : j / X < Z := (Nat.div_lt_iff_lt_mul hX).2 (by rw [Nat.mul_comm]; exact hj)
  obtain ⟨x, hx2⟩ : ∃ x, j % X = x := ⟨_, rfl⟩
  obtain ⟨z, hz2⟩ : ∃ z, Z - 1 - j / X = z := ⟨_, rfl⟩
  obtain ⟨q, hq⟩ : ∃ q, j / X = q := ⟨_, rfl⟩
  rw [hq] at hz hz2
  have hp : 0 < (Z + 1) * (X + 1) := Nat.mul_pos (by omega) (by omega)
  unfold cov nearL
  rw [ofN_congr (hF 0 hp) _ hF, hx2, hq, hz2]
  rw [hx2] at hx
  have hzZ : z + 1 ≤ Z := by omega
  have h1 : (z + 1) * (X + 1) ≤ Z * (X + 1) := Nat.mul_le_mul_right _ hzZ
  have h2 : (Z + 1) * (X + 1) = Z * (X + 1) + (X + 1) := Nat.succ_mul ..
  have h3 : (z + 1) * (X + 1) = z * (X + 1) + (X + 1) := Nat.succ_mul ..
  rw [ofN_congr (F := crn F X x z) (G := crn G X x z) (hF _ (by omega)) 4 (fun i hi => by
    rcases (by omega : i = 0 ∨ i = 1 ∨ i = 2 ∨ i = 3) with rfl | rfl | rfl | rfl
    · exact hF _ (by omega)
    · exact hF _ (by omega)
    · exact hF _ (by omega)
    · exact hF _ (by omega))]
/-- The awake's matrix and region. -/
def mAw : MV := ⟨wh 2, wh 0, wh 0, wh 2, wh 0, wh 0⟩
def bAw : BV := ⟨wh 0, wh 0, ⟨5, 1⟩, ⟨5, 1⟩⟩
def gAw (i : Nat) : PV := ⟨wh (4 * ((i % 3 : Nat) : Int)), wh (4 * ((i / 3 : Nat) : Int))⟩
theorem small_aw : Small mAw 2 0 0 2 0 0 := ⟨rfl, by decide, by decide, by decide, by decide, by decide, by decide⟩
theorem half_four : tm ⟨5, 1⟩ 4 = (wh 2, 0) := tm_eq (wh_ok (by decide) (by decide)) (by decide)
theorem bm_aw : bm bAw 4 = ⟨wh 0, wh 0, wh 2, wh 2⟩ ∧ be bAw 4 = 0 := by
  have h0 : tm (wh 0) 4 = (wh 0, 0) := tm_wh (by decide) (by decide)
  show (⟨(tm (wh 0) 4).1, (tm (wh 0) 4).1, (tm ⟨5, 1⟩ 4).1, (tm ⟨5, 1⟩ 4).1⟩ : BV) = _ ∧ kp (kp (kp (tm (wh 0) 4).2 (tm (wh 0) 4).2) (tm ⟨5, 1⟩ 4).2) (tm ⟨5, 1⟩ 4).2 = 0
  rw [h0, half_four]
  exact ⟨rfl, rfl⟩
theorem pF_aw (i : Nat) (hi : i < 9) : pF mAw 2 2 i = gAw i := by
  have hx : i % 3 ≤ 2 := by omega
  have hz : i / 3 ≤ 2 := by omega
  have := pF_wh (X := 2) (Z := 2) small_aw (by omega) (by omega) hx hz
  rw [show i / 3 * (2 + 1) + i % 3 = i by omega] at this
  rw [this]
  unfold gAw
  congr 2 <;> omega
theorem cov_aw (j : Nat) (hj : j < 4) : cov (pF mAw 2 2) 9 2 2 [bm bAw 4] j = decide (j = 2) := by
  rw [show (9 : Nat) = (2 + 1) * (2 + 1) from rfl, cov_congr (G := gAw) (fun i hi => pF_aw i hi) _ (by omega), bm_aw.1]
  rcases (by omega : j = 0 ∨ j = 1 ∨ j = 2 ∨ j = 3) with rfl | rfl | rfl | rfl <;> decide
theorem covE_aw : covE mAw 2 2 [bAw] = 0 := by
  unfold covE
  rw [if_pos ⟨by decide, by decide, by decide⟩]
  rw [show ((2 : Int).toNat) = 2 from rfl, gridE_wh small_aw (by omega) (by omega)]
  show kp 0 (bE [bAw] 4) = 0
  unfold bE
  simp only [List.foldl_cons, List.foldl_nil, bm_aw.2]
  rfl
end Go.Proofs.Ytmleoagdelgddaa
/- raster: the document's examples. -/
namespace Go.Proofs.Ytmleoagdelgddaa
open Go.RowKit Dec

theorem ex_samples (w : World) (A : Option Addr) (c : Nat) (h : Bytes w A 2 c [18, 48]) :
    Calls Try.prog 10 #[.agg #[.int .i64 3, .int .i64 1, .int .i64 4, .int .i64 1, .slice A 2 c]] w fun e w' => ∃ R, e = .returned (.tuple #[.slice (some ⟨R, 0, none⟩) 3 3, .int .i64 0]) ∧ IntsAt w' (some ⟨R, 0, none⟩) 3 3 [1, 2, 3] ∧ Below w.heap.size w w' := by
  refine (samples_good 3 1 4 1 3 2 3 A 2 c [18, 48] w h (by decide) rfl (by omega) rfl (by omega) rfl (by omega) (by omega) rfl).mono ?_
  rintro e w' ⟨R, he, _, hw, hb⟩
  refine ⟨R, he, IntsAt.whole hw rfl (by omega) (fun i x hx => ?_), hb⟩
  rw [show (List.range 3).map (smp [18, 48] 4 2 3) = [1, 2, 3] by decide]
  rcases (by have := (List.getElem?_eq_some_iff.1 hx).1; simp at this; omega : i = 0 ∨ i = 1 ∨ i = 2) with rfl | rfl | rfl
  all_goals
    simp at hx
    subst hx
    rfl
theorem ex_covered (w : World) (A : Option Addr) (n c : Nat) (h : BxsAt w A n c [bAw]) (hn : n ≤ 1000) :
    Calls Try.prog 22 #[.agg #[.int .i64 2, .int .i64 0, .int .i64 0, .int .i64 0, .int .i64 0, .int .i64 0, .int .i64 2, .int .i64 0, .int .i64 0, .int .i64 0, .int .i64 0, .int .i64 0], .int .i64 2, .int .i64 2, .slice A n c] w
      fun e w' => ∃ R, e = .returned (.tuple #[.slice (some ⟨R, 0, none⟩) 4 4, .int .i64 0]) ∧ BoolsAt w' (some ⟨R, 0, none⟩) 4 4 [false, false, true, false] ∧ Below w.heap.size w w' := by
  refine (covered_any mAw 2 2 A n c [bAw] w h hn).mono ?_
  rintro e w' ⟨hb, ⟨hne, _⟩ | ⟨_, X, Z, B, hX, hZ, _, _, _, he, hw⟩⟩
  · exact absurd covE_aw hne
  · obtain rfl : X = 2 := by omega
    obtain rfl : Z = 2 := by omega
    refine ⟨B, he, BoolsAt.whole hw rfl (by omega) (fun i x hx => ?_), hb⟩
    have hi : i < 4 := (List.getElem?_eq_some_iff.1 hx).1
    rw [rowBl_at _ _ _ _ (by omega), show decide (i < 2 * 2) = true from decide_eq_true (by omega), Bool.true_and]
    show some (Value.bool (cov (pF mAw 2 2) 9 2 2 [bm bAw 4] i)) = _
    rw [cov_aw i hi]
    rcases (by omega : i = 0 ∨ i = 1 ∨ i = 2 ∨ i = 3) with rfl | rfl | rfl | rfl
    all_goals
      simp at hx
      subst hx
      rfl
end Go.Proofs.Ytmleoagdelgddaa
/- raster: awake. -/
namespace Go.Proofs.Ytmleoagdelgddaa
open Go.RowKit Dec

theorem lit_bytes (w : World) : Bytes (w.alloc (.cells #[.int .u8 18, .int .u8 48] 5)) (some ⟨w.heap.size, 0, none⟩) 2 2 [18, 48] :=
  ⟨rfl, Nat.le_refl _, by decide, by decide, fun _ => ⟨_, 0, rfl, by simp, fun i b hb => by
    rw [Nat.zero_add]
    refine ((Whole.made w _ _).reads i).trans ?_
    rcases (by have := (List.getElem?_eq_some_iff.1 hb).1; simp at this; omega : i = 0 ∨ i = 1) with rfl | rfl
    all_goals
      simp at hb
      subst hb
      rfl⟩⟩
theorem lit_ints (w : World) : IntsAt (w.alloc (.cells #[.int .i64 1, .int .i64 2, .int .i64 3] 3)) (some ⟨w.heap.size, 0, none⟩) 3 3 [1, 2, 3] :=
  IntsAt.whole (Whole.made w _ _) rfl (by omega) (fun i x hx => by
    rcases (by have := (List.getElem?_eq_some_iff.1 hx).1; simp at this; omega : i = 0 ∨ i = 1 ∨ i = 2) with rfl | rfl | rfl
    all_goals
      simp at hx
      subst hx
      rfl)
theorem lit_bools (w : World) : BoolsAt (w.alloc (.cells #[.bool false, .bool false, .bool true, .bool false] 4)) (some ⟨w.heap.size, 0, none⟩) 4 4 [false, false, true, false] :=
  BoolsAt.whole (Whole.made w _ _) rfl (by omega) (fun i x hx => by
    rcases (by have := (List.getElem?_eq_some_iff.1 hx).1; simp at this; omega : i = 0 ∨ i = 1 ∨ i = 2 ∨ i = 3) with rfl | rfl | rfl | rfl
    all_goals
      simp at hx
      subst hx
      rfl)
theorem lit_box (w : World) (k : Nat) (hk : w.heap.size = k) : BxsAt (w.alloc (.cells #[.int .i64 0, .int .i64 0, .int .i64 0, .int .i64 0, .int .i64 5, .int .i64 1, .int .i64 5, .int .i64 1] 52)) (some ⟨k, 0, none⟩) 1 1 [bAw] :=
  hk ▸ ⟨rfl, Nat.le_refl _, by decide, fun _ => ⟨_, 0, rfl, by simp, fun i b hb => by
    obtain rfl : i = 0 := by
      have := (List.getElem?_eq_some_iff.1 hb).1
      simp at this
      omega
    simp at hb
    subst hb
    intro j u hu
    refine (Whole.reads (Whole.made w _ _) (0 + 0 * 8 + j)).trans ?_
    rw [show 0 + 0 * 8 + j = j by omega]
    have e : (bxV bAw).toArray[j]? = some u := by simpa using hu
    exact e⟩⟩
set_option maxRecDepth 100000 in
set_option maxHeartbeats 1500000 in
theorem awake_any (w : World) : Calls Try.prog 16 #[] w fun e w' => e = .returned (.bool true) ∧ Below w.heap.size w w' := by
  go_enter Try.func16, Try.ntmps16
  go_wp2_with fail
  refine (ex_samples _ _ _ (lit_bytes w)).mono ?_
  rintro e w1 ⟨R1, rfl, hi1, hb1⟩
  have H1 := Lib.hid (And.intro hi1 (((Below.refl w.heap.size w).alloc (Nat.le_refl _) (.cells #[.int .u8 18, .int .u8 48] 5)).trans (hb1.mono (by simp))))
  clear hi1 hb1
  go_wp2_with fail
  refine (ex_covered _ _ _ _ (lit_box _ _ (by simp)) (by omega)).mono ?_
  rintro e w2 ⟨R2, rfl, hi2, hb2⟩
  have hk : Below w1.heap.size w1 w2 := ((((Below.refl w1.heap.size w1).alloc (Nat.le_refl _) _).alloc (by simp) _).alloc (by simp; omega) _).trans (hb2.mono (by simp; omega))
  have H2 := Lib.hid (And.intro (H1.out.1.below hk) (And.intro hi2 (H1.out.2.trans (hk.mono H1.out.2.size))))
  clear hi2 hb2 hk
  go_wp2_with fail
  refine (ints_same _ _ _ _ _ _ _ _ (H2.out.1.below ((Below.refl w2.heap.size w2).alloc (Nat.le_refl _) _)) (lit_ints w2)).mono ?_
  rintro e w3 ⟨rfl, j, rfl⟩
  have hk : Below w2.heap.size w2 ((w2.alloc (.cells #[.int .i64 1, .int .i64 2, .int .i64 3] 3)).drewN j) := bdrewNr ((Below.refl w2.heap.size w2).alloc (Nat.le_refl _) _) _
  generalize hW3 : (w2.alloc (.cells #[.int .i64 1, .int .i64 2, .int .i64 3] 3)).drewN j = W3 at hk ⊢
  have H3 := Lib.hid (And.intro (H2.out.2.1.below hk) (H2.out.2.2.trans (hk.mono H2.out.2.2.size)))
  clear hk hW3
  go_wp2_with fail
  refine (bools_same _ _ _ _ _ _ _ _ (H3.out.1.below ((Below.refl W3.heap.size W3).alloc (Nat.le_refl _) _)) (lit_bools W3)).mono ?_
  rintro e w4 ⟨rfl, j4, rfl⟩
  go_wp2_with fail
  go_ret
  exact ⟨rfl, bdrewNr (H3.out.2.alloc H3.out.2.size _) _⟩
end Go.Proofs.Ytmleoagdelgddaa
