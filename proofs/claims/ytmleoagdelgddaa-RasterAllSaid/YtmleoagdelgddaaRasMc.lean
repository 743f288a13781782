/- raster: all, and none: what a matrix without turn covers. -/
import Derived.Test.YtmleoagdelgddaaRasMa
namespace Go.Proofs.Ytmleoagdelgddaa
open Go.RowKit Dec

/-- A box of points is a box. -/
theorem ofN_bx (f : Nat → PV) (n : Nat) (hn : 0 < n) (h : ∀ i < n, (f i).Ok) : (ofN f n).Ok := by
  obtain ⟨⟨o0, o1, o2, o3⟩, hle, -⟩ := ofN_ok f n hn h
  have := hle 0 hn
  exact ⟨leB_iff.2 ⟨o0, o2, by omega⟩, leB_iff.2 ⟨o1, o3, by omega⟩⟩
theorem meets_pt {f : Nat → PV} {n : Nat} {b : BV} (h : ∀ i < n, (f i).Ok) (hb : b.Ok) {i : Nat} (hi : i < n) (h0 : b.x0.v ≤ (f i).x.v) (h1 : (f i).x.v ≤ b.x1.v) (h2 : b.y0.v ≤ (f i).y.v) (h3 : (f i).y.v ≤ b.y1.v) : meetsB (ofN f n) b = true := by
  have hok := ofN_bx f n (by omega) h
  obtain ⟨-, hle, -⟩ := ofN_ok f n (by omega) h
  have := hle i hi
  unfold meetsB
  rw [decide_eq_true ⟨hok, hb⟩, Bool.true_and]
  have hx := leB_iff.1 hb.1
  have hy := leB_iff.1 hb.2
  have kx := leB_iff.1 hok.1
  have ky := leB_iff.1 hok.2
  unfold meetB
  rw [leB_iff.2 ⟨kx.1, hx.2.1, by omega⟩, leB_iff.2 ⟨hx.1, kx.2.1, by omega⟩, leB_iff.2 ⟨ky.1, hy.2.1, by omega⟩, leB_iff.2 ⟨hy.1, ky.2.1, by omega⟩]
  rfl
theorem meets_not {f : Nat → PV} {n : Nat} {b : BV} (hn : 0 < n) (h : ∀ i < n, (f i).Ok ∧ (f i).x.v < b.x0.v) : meetsB (ofN f n) b = false := by
  obtain ⟨-, -, -, -, ⟨i, hi, e⟩, -⟩ := ofN_ok f n hn (fun i hi => (h i hi).1)
  unfold meetsB meetB
  have : leB b.x0 (ofN f n).x1 = false := leB_not.2 (fun k => by
    have := (h i hi).2
    rw [e] at k
    omega)
  rw [this, Bool.and_false, Bool.false_and, Bool.and_false]
theorem crn_in {m : MV} {X Z j i : Nat} (hX1 : 1 ≤ X) (hj : j < X * Z) (hi : i < 4) : ∃ k < (Z + 1) * (X + 1), crn (pF m X Z) X (j % X) (Z - 1 - j / X) i = pF m X Z k := by
  have hx : j % X < X := Nat.mod_lt _ hX1
  have hz : j / X < Z := (Nat.div_lt_iff_lt_mul hX1).2 (by rw [Nat.mul_comm]; exact hj)
  obtain ⟨u, hu⟩ : ∃ u, j % X = u := ⟨_, rfl⟩
  obtain ⟨q, hq⟩ : ∃ q, j / X = q := ⟨_, rfl⟩
  obtain ⟨z, hz2⟩ : ∃ z, Z - 1 - q = z := ⟨_, rfl⟩
  rw [hu] at hx ⊢
  rw [hq] at hz ⊢
  rw [hz2]
  have hzZ : z + 1 ≤ Z := by omega
  have h1 : (z + 1) * (X + 1) ≤ Z * (X + 1) := Nat.mul_le_mul_right _ hzZ
  have h2 : (Z + 1) * (X + 1) = Z * (X + 1) + (X + 1) := Nat.succ_mul ..
  have h3 : (z + 1) * (X + 1) = z * (X + 1) + (X + 1) := Nat.succ_mul ..
  rcases (by omega : i = 0 ∨ i = 1 ∨ i = 2 ∨ i = 3) with rfl | rfl | rfl | rfl
  · exact ⟨_, by omega, rfl⟩
  · exact ⟨_, by omega, rfl⟩
  · exact ⟨_, by omega, rfl⟩
  · exact ⟨_, by omega, rfl⟩
theorem bm_wh {X Z : Nat} (hX : X ≤ 20) (hZ : Z ≤ 20) {p q r s : Int} (hp : p.natAbs ≤ 2010) (hq : q.natAbs ≤ 2010) (hr : r.natAbs ≤ 2010) (hs : s.natAbs ≤ 2010) :
    bm ⟨wh p, wh q, wh r, wh s⟩ ((X * Z : Nat) : Int) = ⟨wh (p * ((X * Z : Nat) : Int)), wh (q * ((X * Z : Nat) : Int)), wh (r * ((X * Z : Nat) : Int)), wh (s * ((X * Z : Nat) : Int))⟩ ∧ be ⟨wh p, wh q, wh r, wh s⟩ ((X * Z : Nat) : Int) = 0 := by
  have hN : X * Z ≤ 20 * 20 := Nat.mul_le_mul hX hZ
  obtain ⟨N, hN2⟩ : ∃ N, X * Z = N := ⟨_, rfl⟩
  rw [hN2] at hN ⊢
  have key : ∀ k : Int, k.natAbs ≤ 2010 → tm (wh k) (N : Int) = (wh (k * (N : Int)), 0) := fun k hk => by
    have : (k * (N : Int)).natAbs ≤ 2010 * 400 := by rw [Int.natAbs_mul, Int.natAbs_natCast]; exact Nat.mul_le_mul hk hN
    exact tm_wh (by omega) (by omega)
  refine ⟨by simp only [bm, key p hp, key q hq, key r hr, key s hs], ?_⟩
  simp only [be, key p hp, key q hq, key r hr, key s hs]
  rfl
section
variable {m : MV} {a d x : Int} {X Z : Nat} (h : Small m a 0 0 d x x) (hX : X ≤ 20) (hZ : Z ≤ 20) (hX1 : 1 ≤ X) (hZ1 : 1 ≤ Z) (ha : 1 ≤ a) (hd : 1 ≤ d)
include h hX hZ hX1 hZ1
include ha hd
theorem pF_bounds {i : Nat} (hi : i < (Z + 1) * (X + 1)) : x * ((X * Z : Nat) : Int) * 1000000000 ≤ (pF m X Z i).x.v ∧ (pF m X Z i).x.v ≤ (x + a) * ((X * Z : Nat) : Int) * 1000000000 ∧ x * ((X * Z : Nat) : Int) * 1000000000 ≤ (pF m X Z i).y.v ∧ (pF m X Z i).y.v ≤ (x + d) * ((X * Z : Nat) : Int) * 1000000000 := by
  have hx : i % (X + 1) ≤ X := by have := Nat.mod_lt i (show 0 < X + 1 by omega); omega
  have hz : i / (X + 1) ≤ Z := by have := (Nat.div_lt_iff_lt_mul (show 0 < X + 1 by omega)).2 hi; omega
  have e := pF_wh h (by omega) (by omega) hx hz
  rw [show i / (X + 1) * (X + 1) + i % (X + 1) = i from Nat.div_add_mod' i (X + 1)] at e
  rw [e]
  obtain ⟨u, hu⟩ : ∃ u, i % (X + 1) = u := ⟨_, rfl⟩
  obtain ⟨v, hv⟩ : ∃ v, i / (X + 1) = v := ⟨_, rfl⟩
  rw [hu] at hx ⊢
  rw [hv] at hz ⊢
  simp only [wh_v]
  have h1 : u * Z ≤ X * Z := Nat.mul_le_mul_right _ hx
  have h2 : v * X ≤ X * Z := by rw [Nat.mul_comm X Z]; exact Nat.mul_le_mul_right _ hz
  obtain ⟨N, hN⟩ : ∃ N, X * Z = N := ⟨_, rfl⟩
  obtain ⟨p, hp⟩ : ∃ p, u * Z = p := ⟨_, rfl⟩
  obtain ⟨q, hq⟩ : ∃ q, v * X = q := ⟨_, rfl⟩
  rw [hN, hp] at h1
  rw [hN, hq] at h2
  rw [hN, hp, hq]
  have k0 : 0 ≤ a * (p : Int) := Int.mul_nonneg (by omega) (by omega)
  have k1 : a * (p : Int) ≤ a * (N : Int) := Int.mul_le_mul_of_nonneg_left (by omega) (by omega)
  have k2 : 0 ≤ d * (q : Int) := Int.mul_nonneg (by omega) (by omega)
  have k3 : d * (q : Int) ≤ d * (N : Int) := Int.mul_le_mul_of_nonneg_left (by omega) (by omega)
  have e1 : (x + a) * (N : Int) = x * (N : Int) + a * (N : Int) := Int.add_mul ..
  have e2 : (x + d) * (N : Int) = x * (N : Int) + d * (N : Int) := Int.add_mul ..
  rw [e1, e2, Int.zero_mul, Int.zero_mul]
  omega
omit ha hd in
theorem nm_small : x.natAbs ≤ 1000 ∧ a.natAbs ≤ 1000 ∧ d.natAbs ≤ 1000 ∧ 0 < ((X * Z : Nat) : Int) ∧ ((X * Z : Nat) : Int) ≤ 400 := by
  have hN : X * Z ≤ 20 * 20 := Nat.mul_le_mul hX hZ
  have h0 : 0 < X * Z := Nat.mul_pos (by omega) (by omega)
  exact ⟨h.e, h.a, h.d, by omega, by omega⟩
theorem all_cov {j : Nat} (hj : j < X * Z) : cov (pF m X Z) ((Z + 1) * (X + 1)) X Z [bm ⟨wh x, wh x, wh (x + a), wh (x + d)⟩ ((X * Z : Nat) : Int)] j = true := by
  obtain ⟨s1, s2, s3, s4, s5⟩ := nm_small h hX hZ hX1 hZ1
  rw [(bm_wh hX hZ (by omega) (by omega) (by omega) (by omega)).1]
  have hb : ∀ i, i < (Z + 1) * (X + 1) → _ := fun i hi => pF_bounds h hX hZ hX1 hZ1 ha hd hi
  obtain ⟨k, hk, e⟩ := crn_in (m := m) (Z := Z) hX1 hj (show 0 < 4 by omega)
  have hN : ∀ c : Int, c.natAbs ≤ 2010 → (c * ((X * Z : Nat) : Int)).natAbs ≤ 2010 * 400 := fun c hc => by rw [Int.natAbs_mul]; exact Nat.mul_le_mul hc (by omega)
  have w1 := hN x (by omega)
  have w2 := hN (x + a) (by omega)
  have w3 := hN (x + d) (by omega)
  have l1 : x * ((X * Z : Nat) : Int) ≤ (x + a) * ((X * Z : Nat) : Int) := Int.mul_le_mul_of_nonneg_right (by omega) (by omega)
  have l2 : x * ((X * Z : Nat) : Int) ≤ (x + d) * ((X * Z : Nat) : Int) := Int.mul_le_mul_of_nonneg_right (by omega) (by omega)
  generalize ((X * Z : Nat) : Int) = N at *
  have hok : (⟨wh (x * N), wh (x * N), wh ((x + a) * N), wh ((x + d) * N)⟩ : BV).Ok :=
    ⟨leB_iff.2 ⟨wh_ok (by omega) (by omega), wh_ok (by omega) (by omega), by simp only [wh_v]; omega⟩, leB_iff.2 ⟨wh_ok (by omega) (by omega), wh_ok (by omega) (by omega), by simp only [wh_v]; omega⟩⟩
  unfold cov nearL
  rw [List.filter_cons_of_pos (by
    have := hb 0 (show 0 < (Z + 1) * (X + 1) from Nat.mul_pos (by omega) (by omega))
    exact meets_pt (fun i _ => pF_ok m X Z i) hok (Nat.mul_pos (by omega) (by omega)) (by simp only [wh_v]; exact this.1) (by simp only [wh_v]; exact this.2.1) (by simp only [wh_v]; exact this.2.2.1) (by simp only [wh_v]; exact this.2.2.2))]
  rw [List.any_cons]
  have := hb k hk
  rw [← e] at this
  rw [meets_pt (f := crn (pF m X Z) X (j % X) (Z - 1 - j / X)) (n := 4) (i := 0) (fun i hi => by
    obtain ⟨k, _, e⟩ := crn_in (m := m) (Z := Z) hX1 hj hi
    rw [e]
    exact pF_ok m X Z k) hok (by omega) (by simp only [wh_v]; exact this.1) (by simp only [wh_v]; exact this.2.1) (by simp only [wh_v]; exact this.2.2.1) (by simp only [wh_v]; exact this.2.2.2)]
  rfl
theorem none_cov {j : Nat} : cov (pF m X Z) ((Z + 1) * (X + 1)) X Z [bm ⟨wh (x + a + 1), wh x, wh (x + a + 2), wh (x + d)⟩ ((X * Z : Nat) : Int)] j = false := by
  obtain ⟨s1, s2, s3, s4, s5⟩ := nm_small h hX hZ hX1 hZ1
  rw [(bm_wh hX hZ (by omega) (by omega) (by omega) (by omega)).1]
  have hb : ∀ i, i < (Z + 1) * (X + 1) → _ := fun i hi => pF_bounds h hX hZ hX1 hZ1 ha hd hi
  have l1 : (x + a) * ((X * Z : Nat) : Int) < (x + a + 1) * ((X * Z : Nat) : Int) := Int.mul_lt_mul_of_pos_right (by omega) (by omega)
  generalize ((X * Z : Nat) : Int) = N at *
  unfold cov nearL
  rw [List.filter_cons_of_neg (by
    rw [meets_not (Nat.mul_pos (by omega) (by omega)) (fun i hi => ⟨pF_ok m X Z i, by
      have := (hb i hi).2.1
      simp only [wh_v]
      omega⟩)]
    decide)]
  rfl
theorem all_covE : covE m (X : Int) (Z : Int) [⟨wh x, wh x, wh (x + a), wh (x + d)⟩] = 0 ∧ covE m (X : Int) (Z : Int) [⟨wh (x + a + 1), wh x, wh (x + a + 2), wh (x + d)⟩] = 0 := by
  obtain ⟨s1, s2, s3, s4, s5⟩ := nm_small h hX hZ hX1 hZ1
  have hsz : sizeB (X : Int) (Z : Int) = true := by
    unfold sizeB
    rw [decide_eq_true (by omega), decide_eq_true (by omega), decide_eq_true]
    · rfl
    · rw [Int.le_ediv_iff_mul_le (by omega), ← Int.natCast_mul]; omega
  have hm : m.Ok := by
    rw [h.eq]
    exact ⟨wh_ok (by omega) (by omega), wh_ok (by omega) (by omega), wh_ok (by omega) (by omega), wh_ok (by omega) (by omega), wh_ok (by omega) (by omega), wh_ok (by omega) (by omega)⟩
  have b1 : (⟨wh x, wh x, wh (x + a), wh (x + d)⟩ : BV).Ok := ⟨leB_iff.2 ⟨wh_ok (by omega) (by omega), wh_ok (by omega) (by omega), by simp only [wh_v]; omega⟩, leB_iff.2 ⟨wh_ok (by omega) (by omega), wh_ok (by omega) (by omega), by simp only [wh_v]; omega⟩⟩
  have b2 : (⟨wh (x + a + 1), wh x, wh (x + a + 2), wh (x + d)⟩ : BV).Ok := ⟨leB_iff.2 ⟨wh_ok (by omega) (by omega), wh_ok (by omega) (by omega), by simp only [wh_v]; omega⟩, leB_iff.2 ⟨wh_ok (by omega) (by omega), wh_ok (by omega) (by omega), by simp only [wh_v]; omega⟩⟩
  have g := gridE_wh h (show X ≤ 100 by omega) (show Z ≤ 99 by omega)
  have key : ∀ b : BV, b.Ok → be b ((X * Z : Nat) : Int) = 0 → covE m (X : Int) (Z : Int) [b] = 0 := fun b hb e => by
    unfold covE
    rw [if_pos ⟨hsz, hm, fun q hq => by simp at hq; subst hq; exact hb⟩]
    show kp (gridE m X Z) (kp 0 (be b ((X * Z : Nat) : Int))) = 0
    rw [g, e]
    rfl
  exact ⟨key _ b1 (bm_wh hX hZ (by omega) (by omega) (by omega) (by omega)).2, key _ b2 (bm_wh hX hZ (by omega) (by omega) (by omega) (by omega)).2⟩
end
end Go.Proofs.Ytmleoagdelgddaa
