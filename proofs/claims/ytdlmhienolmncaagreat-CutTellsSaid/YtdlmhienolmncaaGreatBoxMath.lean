/- The plain mathematics of boxes: who is at most whom, the least box. No program stands in it. -/
import Derived.Test.YtdlmhienolmncaaGreatMatMath
namespace Go.Proofs.YtdlmhienolmncaaGreat
open Go.RowKit Dec

/-- Both are decimals, and the first one is at most the second. -/
def leB (a b : DV) : Bool := decide (a.Ok ∧ b.Ok ∧ a.v ≤ b.v)
theorem leB_iff {a b : DV} : leB a b = true ↔ a.Ok ∧ b.Ok ∧ a.v ≤ b.v := by unfold leB; exact decide_eq_true_iff
theorem leB_not {a b : DV} : leB a b = false ↔ ¬ (a.Ok ∧ b.Ok ∧ a.v ≤ b.v) := by unfold leB; exact decide_eq_false_iff_not
theorem leB_self {a : DV} (h : a.Ok) : leB a a = true := leB_iff.2 ⟨h, h, Int.le_refl _⟩
/-- The lesser, the greater of two. -/
def lesD (a b : DV) : DV := if leB a b then a else b
def greD (a b : DV) : DV := if leB a b then b else a
theorem lesD_yes {a b : DV} (h : leB a b = true) : lesD a b = a := by unfold lesD; rw [h]; rfl
theorem lesD_no {a b : DV} (h : leB a b = false) : lesD a b = b := by unfold lesD; rw [h]; rfl
theorem greD_yes {a b : DV} (h : leB a b = true) : greD a b = b := by unfold greD; rw [h]; rfl
theorem greD_no {a b : DV} (h : leB a b = false) : greD a b = a := by unfold greD; rw [h]; rfl
theorem lesD_ok {a b : DV} (ha : a.Ok) (hb : b.Ok) : (lesD a b).Ok ∧ (lesD a b).v ≤ a.v ∧ (lesD a b).v ≤ b.v ∧ (lesD a b = a ∨ lesD a b = b) := by
  cases h : leB a b
  · have h' := leB_not.1 h
    have : b.v ≤ a.v := by
      rcases Int.lt_or_le b.v a.v with k | k
      · omega
      · exact absurd ⟨ha, hb, k⟩ h'
    rw [lesD_no h]; exact ⟨hb, this, Int.le_refl _, .inr rfl⟩
  · rw [lesD_yes h]; exact ⟨ha, Int.le_refl _, (leB_iff.1 h).2.2, .inl rfl⟩
theorem greD_ok {a b : DV} (ha : a.Ok) (hb : b.Ok) : (greD a b).Ok ∧ a.v ≤ (greD a b).v ∧ b.v ≤ (greD a b).v ∧ (greD a b = a ∨ greD a b = b) := by
  cases h : leB a b
  · have h' := leB_not.1 h
    have : b.v ≤ a.v := by
      rcases Int.lt_or_le b.v a.v with k | k
      · omega
      · exact absurd ⟨ha, hb, k⟩ h'
    rw [greD_no h]; exact ⟨ha, Int.le_refl _, this, .inl rfl⟩
  · rw [greD_yes h]; exact ⟨hb, (leB_iff.1 h).2.2, Int.le_refl _, .inr rfl⟩

/-- A box. -/
structure BV where
  x0 : DV
  y0 : DV
  x1 : DV
  y1 : DV
def BV.Ok (b : BV) : Prop := leB b.x0 b.x1 = true ∧ leB b.y0 b.y1 = true
instance (b : BV) : Decidable b.Ok := by unfold BV.Ok; exact inferInstance
def BV.zero : BV := ⟨.zero, .zero, .zero, .zero⟩
theorem BV.ext' {a b : BV} (h0 : a.x0 = b.x0) (h1 : a.y0 = b.y0) (h2 : a.x1 = b.x1) (h3 : a.y1 = b.y1) : a = b := by cases a; cases b; simp_all
/-- Two boxes meet. -/
def meetB (a b : BV) : Bool := (leB a.x0 b.x1 && leB b.x0 a.x1) && (leB a.y0 b.y1 && leB b.y0 a.y1)
/-- The least box around a box and a point; around the first k points. -/
def growB (b : BV) (p : PV) : BV := ⟨lesD b.x0 p.x, lesD b.y0 p.y, greD b.x1 p.x, greD b.y1 p.y⟩
def ofN (f : Nat → PV) : Nat → BV
  | 0 => ⟨(f 0).x, (f 0).y, (f 0).x, (f 0).y⟩
  | k + 1 => growB (ofN f k) (f k)

/-- What Of answers of the first n points. -/
def OfIs (f : Nat → PV) (n : Nat) (b : BV) (E : Int) : Prop :=
  (n = 0 ∧ b = .zero ∧ E = 8) ∨ (0 < n ∧ (∃ i < n, ¬ (f i).Ok) ∧ b = .zero ∧ E = 1) ∨ (0 < n ∧ (∀ i < n, (f i).Ok) ∧ b = ofN f n ∧ E = 0)
theorem OfIs.total (f : Nat → PV) (n : Nat) : ∃ b E, OfIs f n b E := by
  by_cases hn : n = 0
  · exact ⟨_, _, .inl ⟨hn, rfl, rfl⟩⟩
  · by_cases h : ∀ i < n, (f i).Ok
    · exact ⟨_, _, .inr (.inr ⟨by omega, h, rfl, rfl⟩)⟩
    · refine ⟨_, _, .inr (.inl ⟨by omega, ?_, rfl, rfl⟩)⟩
      exact Classical.byContradiction fun hx => h fun i hi => Classical.byContradiction fun hy => hx ⟨i, hi, hy⟩

theorem ofN_ok (f : Nat → PV) (n : Nat) (hn : 0 < n) (h : ∀ i < n, (f i).Ok) :
    ((ofN f n).x0.Ok ∧ (ofN f n).y0.Ok ∧ (ofN f n).x1.Ok ∧ (ofN f n).y1.Ok) ∧
    (∀ i < n, (ofN f n).x0.v ≤ (f i).x.v ∧ (ofN f n).y0.v ≤ (f i).y.v ∧ (f i).x.v ≤ (ofN f n).x1.v ∧ (f i).y.v ≤ (ofN f n).y1.v) ∧
    (∃ i < n, (ofN f n).x0 = (f i).x) ∧ (∃ i < n, (ofN f n).y0 = (f i).y) ∧ (∃ i < n, (ofN f n).x1 = (f i).x) ∧ (∃ i < n, (ofN f n).y1 = (f i).y) := by
  have key : ∀ k, k ≤ n → ((ofN f k).x0.Ok ∧ (ofN f k).y0.Ok ∧ (ofN f k).x1.Ok ∧ (ofN f k).y1.Ok) ∧
    (∀ i < k, (ofN f k).x0.v ≤ (f i).x.v ∧ (ofN f k).y0.v ≤ (f i).y.v ∧ (f i).x.v ≤ (ofN f k).x1.v ∧ (f i).y.v ≤ (ofN f k).y1.v) ∧
    (∃ i < n, (ofN f k).x0 = (f i).x) ∧ (∃ i < n, (ofN f k).y0 = (f i).y) ∧ (∃ i < n, (ofN f k).x1 = (f i).x) ∧ (∃ i < n, (ofN f k).y1 = (f i).y) := by
    intro k
    induction k with
    | zero =>
      intro _
      have h0 := h 0 hn
      exact ⟨⟨h0.1, h0.2, h0.1, h0.2⟩, fun i hi => absurd hi (by omega), ⟨0, hn, rfl⟩, ⟨0, hn, rfl⟩, ⟨0, hn, rfl⟩, ⟨0, hn, rfl⟩⟩
    | succ k ih =>
      intro hk
      obtain ⟨⟨o0, o1, o2, o3⟩, hle, e0, e1, e2, e3⟩ := ih (by omega)
      obtain ⟨hx, hy⟩ := h k (by omega)
      have a0 := lesD_ok o0 hx
      have a1 := lesD_ok o1 hy
      have a2 := greD_ok o2 hx
      have a3 := greD_ok o3 hy
      have s0 : (ofN f (k + 1)).x0 = lesD (ofN f k).x0 (f k).x := rfl
      have s1 : (ofN f (k + 1)).y0 = lesD (ofN f k).y0 (f k).y := rfl
      have s2 : (ofN f (k + 1)).x1 = greD (ofN f k).x1 (f k).x := rfl
      have s3 : (ofN f (k + 1)).y1 = greD (ofN f k).y1 (f k).y := rfl
      rw [s0, s1, s2, s3]
      refine ⟨⟨a0.1, a1.1, a2.1, a3.1⟩, fun i hi => ?_, ?_, ?_, ?_, ?_⟩
      · by_cases hik : i = k
        · subst hik; exact ⟨a0.2.2.1, a1.2.2.1, a2.2.2.1, a3.2.2.1⟩
        · have := hle i (by omega)
          exact ⟨Int.le_trans a0.2.1 this.1, Int.le_trans a1.2.1 this.2.1, Int.le_trans this.2.2.1 a2.2.1, Int.le_trans this.2.2.2 a3.2.1⟩
      · rcases a0.2.2.2 with h' | h' <;> rw [h']
        · exact e0
        · exact ⟨k, by omega, rfl⟩
      · rcases a1.2.2.2 with h' | h' <;> rw [h']
        · exact e1
        · exact ⟨k, by omega, rfl⟩
      · rcases a2.2.2.2 with h' | h' <;> rw [h']
        · exact e2
        · exact ⟨k, by omega, rfl⟩
      · rcases a3.2.2.2 with h' | h' <;> rw [h']
        · exact e3
        · exact ⟨k, by omega, rfl⟩
  exact key n (Nat.le_refl _)

/-- The four corners of a box; those of two. -/
def cornF (b : BV) (i : Nat) : PV := match i with | 0 => ⟨b.x0, b.y0⟩ | 1 => ⟨b.x1, b.y0⟩ | 2 => ⟨b.x0, b.y1⟩ | _ => ⟨b.x1, b.y1⟩
def bothF (a b : BV) (i : Nat) : PV := if i < 4 then cornF a i else cornF b (i - 4)
theorem cornF_ok {b : BV} (h : b.Ok) (i : Nat) : (cornF b i).Ok := by
  obtain ⟨hx, hy⟩ := h
  have hx := leB_iff.1 hx
  have hy := leB_iff.1 hy
  unfold cornF
  split
  · exact ⟨hx.1, hy.1⟩
  · exact ⟨hx.2.1, hy.1⟩
  · exact ⟨hx.1, hy.2.1⟩
  · exact ⟨hx.2.1, hy.2.1⟩
theorem bothF_ok {a b : BV} (ha : a.Ok) (hb : b.Ok) (i : Nat) : (bothF a b i).Ok := by
  unfold bothF
  split
  · exact cornF_ok ha _
  · exact cornF_ok hb _
/-- The least box around two. -/
def joinB (a b : BV) : BV := ⟨lesD a.x0 b.x0, lesD a.y0 b.y0, greD a.x1 b.x1, greD a.y1 b.y1⟩
theorem cornF_x {b : BV} (i : Nat) : (cornF b i).x = b.x0 ∨ (cornF b i).x = b.x1 := by
  unfold cornF; split
  · exact .inl rfl
  · exact .inr rfl
  · exact .inl rfl
  · exact .inr rfl
theorem cornF_y {b : BV} (i : Nat) : (cornF b i).y = b.y0 ∨ (cornF b i).y = b.y1 := by
  unfold cornF; split
  · exact .inl rfl
  · exact .inl rfl
  · exact .inr rfl
  · exact .inr rfl
theorem bothF_x {a b : BV} (i : Nat) : (bothF a b i).x = a.x0 ∨ (bothF a b i).x = a.x1 ∨ (bothF a b i).x = b.x0 ∨ (bothF a b i).x = b.x1 := by
  unfold bothF; split
  · rcases cornF_x (b := a) i with h | h <;> rw [h] <;> simp
  · rcases cornF_x (b := b) (i - 4) with h | h <;> rw [h] <;> simp
theorem bothF_y {a b : BV} (i : Nat) : (bothF a b i).y = a.y0 ∨ (bothF a b i).y = a.y1 ∨ (bothF a b i).y = b.y0 ∨ (bothF a b i).y = b.y1 := by
  unfold bothF; split
  · rcases cornF_y (b := a) i with h | h <;> rw [h] <;> simp
  · rcases cornF_y (b := b) (i - 4) with h | h <;> rw [h] <;> simp
theorem lesD_is {a b x : DV} (ha : a.Ok) (hb : b.Ok) (hx : x.Ok) (h1 : x.v ≤ a.v) (h2 : x.v ≤ b.v) (h : a.v ≤ x.v ∨ b.v ≤ x.v) : x = lesD a b := by
  have k := lesD_ok ha hb
  refine DV.inj hx k.1 ?_
  rcases k.2.2.2 with e | e <;> rw [e] at k ⊢ <;> omega
theorem greD_is {a b x : DV} (ha : a.Ok) (hb : b.Ok) (hx : x.Ok) (h1 : a.v ≤ x.v) (h2 : b.v ≤ x.v) (h : x.v ≤ a.v ∨ x.v ≤ b.v) : x = greD a b := by
  have k := greD_ok ha hb
  refine DV.inj hx k.1 ?_
  rcases k.2.2.2 with e | e <;> rw [e] at k ⊢ <;> omega
theorem both_join {a b : BV} (ha : a.Ok) (hb : b.Ok) : ofN (bothF a b) 8 = joinB a b := by
  have k := ofN_ok (bothF a b) 8 (by omega) (fun i _ => bothF_ok ha hb i)
  generalize ofN (bothF a b) 8 = o at k ⊢
  obtain ⟨⟨k0, k1, k2, k3⟩, hle, ⟨i0, _, e0⟩, ⟨i1, _, e1⟩, ⟨i2, _, e2⟩, ⟨i3, _, e3⟩⟩ := k
  have c0 := hle 0 (by omega)
  have c3 := hle 3 (by omega)
  have c4 := hle 4 (by omega)
  have c7 := hle 7 (by omega)
  have f0 : bothF a b 0 = ⟨a.x0, a.y0⟩ := rfl
  have f3 : bothF a b 3 = ⟨a.x1, a.y1⟩ := rfl
  have f4 : bothF a b 4 = ⟨b.x0, b.y0⟩ := rfl
  have f7 : bothF a b 7 = ⟨b.x1, b.y1⟩ := rfl
  rw [f0] at c0; rw [f3] at c3; rw [f4] at c4; rw [f7] at c7
  simp only at c0 c3 c4 c7
  obtain ⟨ax, ay⟩ := ha
  obtain ⟨bx, by'⟩ := hb
  have ax := leB_iff.1 ax
  have ay := leB_iff.1 ay
  have bx := leB_iff.1 bx
  have by' := leB_iff.1 by'
  have g0 := bothF_x (a := a) (b := b) i0
  have g1 := bothF_y (a := a) (b := b) i1
  have g2 := bothF_x (a := a) (b := b) i2
  have g3 := bothF_y (a := a) (b := b) i3
  rw [← e0] at g0; rw [← e1] at g1; rw [← e2] at g2; rw [← e3] at g3
  refine BV.ext' (lesD_is ax.1 bx.1 k0 c0.1 c4.1 ?_) (lesD_is ay.1 by'.1 k1 c0.2.1 c4.2.1 ?_) (greD_is ax.2.1 bx.2.1 k2 c3.2.2.1 c7.2.2.1 ?_) (greD_is ay.2.1 by'.2.1 k3 c3.2.2.2 c7.2.2.2 ?_)
  · rcases g0 with g | g | g | g <;> rw [g] <;> omega
  · rcases g1 with g | g | g | g <;> rw [g] <;> omega
  · rcases g2 with g | g | g | g <;> rw [g] <;> omega
  · rcases g3 with g | g | g | g <;> rw [g] <;> omega
theorem joinB_ok {a b : BV} (ha : a.Ok) (hb : b.Ok) : (joinB a b).Ok := by
  obtain ⟨ax, ay⟩ := ha
  obtain ⟨bx, by'⟩ := hb
  have ax := leB_iff.1 ax
  have ay := leB_iff.1 ay
  have bx := leB_iff.1 bx
  have by' := leB_iff.1 by'
  have a0 := lesD_ok ax.1 bx.1
  have a1 := lesD_ok ay.1 by'.1
  have a2 := greD_ok ax.2.1 bx.2.1
  have a3 := greD_ok ay.2.1 by'.2.1
  exact ⟨leB_iff.2 ⟨a0.1, a2.1, by show (lesD a.x0 b.x0).v ≤ (greD a.x1 b.x1).v; omega⟩, leB_iff.2 ⟨a1.1, a3.1, by show (lesD a.y0 b.y0).v ≤ (greD a.y1 b.y1).v; omega⟩⟩
theorem joinB_comm {a b : BV} (ha : a.Ok) (hb : b.Ok) : joinB a b = joinB b a := by
  obtain ⟨ax, ay⟩ := ha
  obtain ⟨bx, by'⟩ := hb
  have ax := leB_iff.1 ax
  have ay := leB_iff.1 ay
  have bx := leB_iff.1 bx
  have by' := leB_iff.1 by'
  have l {x y : DV} (hx : x.Ok) (hy : y.Ok) : lesD x y = lesD y x := by
    have k := lesD_ok hx hy
    exact lesD_is hy hx k.1 k.2.2.1 k.2.1 (by rcases k.2.2.2 with e | e <;> rw [e] <;> omega)
  have g {x y : DV} (hx : x.Ok) (hy : y.Ok) : greD x y = greD y x := by
    have k := greD_ok hx hy
    exact greD_is hy hx k.1 k.2.2.1 k.2.1 (by rcases k.2.2.2 with e | e <;> rw [e] <;> omega)
  exact BV.ext' (l ax.1 bx.1) (l ay.1 by'.1) (g ax.2.1 bx.2.1) (g ay.2.1 by'.2.1)
theorem joinB_self {b : BV} (hb : b.Ok) : joinB b b = b := by
  have hx := leB_iff.1 hb.1
  have hy := leB_iff.1 hb.2
  exact BV.ext' (lesD_yes (leB_self hx.1)) (lesD_yes (leB_self hy.1)) (greD_yes (leB_self hx.2.1)) (greD_yes (leB_self hy.2.1))
theorem meetB_iff {a b : BV} (ha : a.Ok) (hb : b.Ok) : meetB a b = true ↔ (a.x0.v ≤ b.x1.v ∧ b.x0.v ≤ a.x1.v ∧ a.y0.v ≤ b.y1.v ∧ b.y0.v ≤ a.y1.v) := by
  have ax := leB_iff.1 ha.1
  have ay := leB_iff.1 ha.2
  have bx := leB_iff.1 hb.1
  have by' := leB_iff.1 hb.2
  unfold meetB
  rw [Bool.and_eq_true, Bool.and_eq_true, Bool.and_eq_true, leB_iff, leB_iff, leB_iff, leB_iff]
  exact ⟨fun ⟨⟨h1, h2⟩, h3, h4⟩ => ⟨h1.2.2, h2.2.2, h3.2.2, h4.2.2⟩, fun ⟨h1, h2, h3, h4⟩ => ⟨⟨⟨ax.1, bx.2.1, h1⟩, bx.1, ax.2.1, h2⟩, ⟨ay.1, by'.2.1, h3⟩, by'.1, ay.2.1, h4⟩⟩
theorem meetB_comm {a b : BV} (ha : a.Ok) (hb : b.Ok) : meetB a b = meetB b a := by
  have h1 := meetB_iff ha hb
  have h2 := meetB_iff hb ha
  rw [Bool.eq_iff_iff, h1, h2]
  constructor
  · rintro ⟨a1, a2, a3, a4⟩; exact ⟨a2, a1, a4, a3⟩
  · rintro ⟨a1, a2, a3, a4⟩; exact ⟨a2, a1, a4, a3⟩
theorem meetB_self {a : BV} (ha : a.Ok) : meetB a a = true := by
  have ax := leB_iff.1 ha.1
  have ay := leB_iff.1 ha.2
  exact (meetB_iff ha ha).2 ⟨ax.2.2, ax.2.2, ay.2.2, ay.2.2⟩
theorem meetB_join {a b c : BV} (ha : a.Ok) (hb : b.Ok) (hc : c.Ok) (h : meetB a b = true) : meetB a (joinB b c) = true := by
  have k := (meetB_iff ha hb).1 h
  have bx := leB_iff.1 hb.1
  have by' := leB_iff.1 hb.2
  have cx := leB_iff.1 hc.1
  have cy := leB_iff.1 hc.2
  have a0 := lesD_ok bx.1 cx.1
  have a1 := lesD_ok by'.1 cy.1
  have a2 := greD_ok bx.2.1 cx.2.1
  have a3 := greD_ok by'.2.1 cy.2.1
  refine (meetB_iff ha (joinB_ok hb hc)).2 ⟨?_, ?_, ?_, ?_⟩
  · show a.x0.v ≤ (greD b.x1 c.x1).v; omega
  · show (lesD b.x0 c.x0).v ≤ a.x1.v; omega
  · show a.y0.v ≤ (greD b.y1 c.y1).v; omega
  · show (lesD b.y0 c.y0).v ≤ a.y1.v; omega

end Go.Proofs.YtdlmhienolmncaaGreat
