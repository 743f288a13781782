/- The plain mathematics of BoxHolds: a point of a box is mapped into the box that it is mapped to; a point's box within a box. No program stands in it. -/
import Derived.Test.YtgdfdlicfjjfjaaBoxMath
namespace Go.Proofs.Ytgdfdlicfjjfjaa
open Go.RowKit Dec

/-- What is linear in x and y lies, for x and y between their ends, between what it is at two of the corners. -/
theorem lin_low (a c x y x0 x1 y0 y1 : Int) (h0 : x0 ≤ x) (h1 : x ≤ x1) (h2 : y0 ≤ y) (h3 : y ≤ y1) :
    ∃ u v, (u = x0 ∨ u = x1) ∧ (v = y0 ∨ v = y1) ∧ a * u + c * v ≤ a * x + c * y := by
  have pa : ∃ u, (u = x0 ∨ u = x1) ∧ a * u ≤ a * x := by
    by_cases ha : 0 ≤ a
    · exact ⟨x0, .inl rfl, Int.mul_le_mul_of_nonneg_left h0 ha⟩
    · exact ⟨x1, .inr rfl, Int.mul_le_mul_of_nonpos_left (by omega) h1⟩
  have pc : ∃ v, (v = y0 ∨ v = y1) ∧ c * v ≤ c * y := by
    by_cases hc : 0 ≤ c
    · exact ⟨y0, .inl rfl, Int.mul_le_mul_of_nonneg_left h2 hc⟩
    · exact ⟨y1, .inr rfl, Int.mul_le_mul_of_nonpos_left (by omega) h3⟩
  obtain ⟨u, hu, h⟩ := pa
  obtain ⟨v, hv, h'⟩ := pc
  exact ⟨u, v, hu, hv, by omega⟩
theorem lin_high (a c x y x0 x1 y0 y1 : Int) (h0 : x0 ≤ x) (h1 : x ≤ x1) (h2 : y0 ≤ y) (h3 : y ≤ y1) :
    ∃ u v, (u = x0 ∨ u = x1) ∧ (v = y0 ∨ v = y1) ∧ a * x + c * y ≤ a * u + c * v := by
  obtain ⟨u, v, hu, hv, h⟩ := lin_low (-a) (-c) x y x0 x1 y0 y1 h0 h1 h2 h3
  refine ⟨u, v, hu, hv, ?_⟩
  simp only [Int.neg_mul] at h
  omega
/-- Which corner it is. -/
theorem corner_of (b : BV) (u v : Int) (hu : u = b.x0.v ∨ u = b.x1.v) (hv : v = b.y0.v ∨ v = b.y1.v) : ∃ i < 4, (cornF b i).x.v = u ∧ (cornF b i).y.v = v := by
  rcases hu with rfl | rfl <;> rcases hv with rfl | rfl
  · exact ⟨0, by omega, rfl, rfl⟩
  · exact ⟨2, by omega, rfl, rfl⟩
  · exact ⟨1, by omega, rfl, rfl⟩
  · exact ⟨3, by omega, rfl, rfl⟩
/-- A point lies in a box. -/
def InB (b : BV) (p : PV) : Prop := b.x0.v ≤ p.x.v ∧ p.x.v ≤ b.x1.v ∧ b.y0.v ≤ p.y.v ∧ p.y.v ≤ b.y1.v
theorem maps_in {m : MV} {b : BV} {p r : PV} {q : Nat → PV} (hp : InB b p) (hq : ∀ i < 4, MapIs m (cornF b i) (q i) 0) (hr : MapIs m p r 0) : InB (ofN q 4) r := by
  obtain ⟨h0, h1, h2, h3⟩ := hp
  obtain ⟨-, -, rx, ry⟩ := hr.val
  have hok : ∀ i < 4, (q i).Ok := fun i hi => (hq i hi).ok.1
  obtain ⟨-, hle, -, -, -, -⟩ := ofN_ok q 4 (by omega) hok
  have key : ∀ u v, (u = b.x0.v ∨ u = b.x1.v) → (v = b.y0.v ∨ v = b.y1.v) →
      ∃ i < 4, (q i).x.v * 1000000000 = m.a.v * u + m.c.v * v + m.e.v * 1000000000 ∧ (q i).y.v * 1000000000 = m.b.v * u + m.d.v * v + m.f.v * 1000000000 := by
    intro u v hu hv
    obtain ⟨i, hi, e1, e2⟩ := corner_of b u v hu hv
    obtain ⟨-, -, qx, qy⟩ := (hq i hi).val
    rw [e1, e2] at qx qy
    exact ⟨i, hi, qx, qy⟩
  refine ⟨?_, ?_, ?_, ?_⟩
  · obtain ⟨u, v, hu, hv, h⟩ := lin_low m.a.v m.c.v p.x.v p.y.v _ _ _ _ h0 h1 h2 h3
    obtain ⟨i, hi, qx, -⟩ := key u v hu hv
    have := (hle i hi).1
    omega
  · obtain ⟨u, v, hu, hv, h⟩ := lin_high m.a.v m.c.v p.x.v p.y.v _ _ _ _ h0 h1 h2 h3
    obtain ⟨i, hi, qx, -⟩ := key u v hu hv
    have := (hle i hi).2.2.1
    omega
  · obtain ⟨u, v, hu, hv, h⟩ := lin_low m.b.v m.d.v p.x.v p.y.v _ _ _ _ h0 h1 h2 h3
    obtain ⟨i, hi, -, qy⟩ := key u v hu hv
    have := (hle i hi).2.1
    omega
  · obtain ⟨u, v, hu, hv, h⟩ := lin_high m.b.v m.d.v p.x.v p.y.v _ _ _ _ h0 h1 h2 h3
    obtain ⟨i, hi, -, qy⟩ := key u v hu hv
    have := (hle i hi).2.2.2
    omega
/-- A point's own box. -/
def dotB (p : PV) : BV := ⟨p.x, p.y, p.x, p.y⟩
theorem dotB_ok {p : PV} (h : p.Ok) : (dotB p).Ok := ⟨leB_self h.1, leB_self h.2⟩
theorem ofN_dot {p : PV} (h : p.Ok) : ofN (fun _ => p) 1 = dotB p :=
  BV.ext' (lesD_yes (leB_self h.1)) (lesD_yes (leB_self h.2)) (greD_yes (leB_self h.1)) (greD_yes (leB_self h.2))
theorem of_dot {p : PV} (h : p.Ok) : OfIs (fun _ => p) 1 (dotB p) 0 := .inr (.inr ⟨by omega, fun _ _ => h, (ofN_dot h).symm, rfl⟩)
/-- A box of points is a box. -/
theorem ofN_box (f : Nat → PV) (n : Nat) (hn : 0 < n) (h : ∀ i < n, (f i).Ok) : (ofN f n).Ok := by
  obtain ⟨⟨o0, o1, o2, o3⟩, hle, -⟩ := ofN_ok f n hn h
  have := hle 0 hn
  exact ⟨leB_iff.2 ⟨o0, o2, by omega⟩, leB_iff.2 ⟨o1, o3, by omega⟩⟩
/-- The least box around a box and a point within it is that box. -/
theorem join_dot {b : BV} {p : PV} (hb : b.Ok) (hp : p.Ok) (h : InB b p) : joinB b (dotB p) = b := by
  have hx := leB_iff.1 hb.1
  have hy := leB_iff.1 hb.2
  obtain ⟨h0, h1, h2, h3⟩ := h
  refine BV.ext' (lesD_yes (leB_iff.2 ⟨hx.1, hp.1, h0⟩)) (lesD_yes (leB_iff.2 ⟨hy.1, hp.2, h2⟩)) ?_ ?_
  · exact (greD_is hx.2.1 hp.1 hx.2.1 (Int.le_refl _) h1 (.inl (Int.le_refl _))).symm
  · exact (greD_is hy.2.1 hp.2 hy.2.1 (Int.le_refl _) h3 (.inl (Int.le_refl _))).symm
theorem ofN_in (f : Nat → PV) (n : Nat) (h : ∀ i < n, (f i).Ok) (i : Nat) (hi : i < n) : InB (ofN f n) (f i) := by
  obtain ⟨-, hle, -⟩ := ofN_ok f n (by omega) h
  have := hle i hi
  exact ⟨this.1, this.2.2.1, this.2.1, this.2.2.2⟩
end Go.Proofs.Ytgdfdlicfjjfjaa
