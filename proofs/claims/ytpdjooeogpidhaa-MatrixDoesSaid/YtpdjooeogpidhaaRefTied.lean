/- The reference's Tied: the walk. -/
import Derived.Test.YtpdjooeogpidhaaRefMul
import Derived.Test.YtpdjooeogpidhaaMatMath
namespace Go.Proofs.Ytpdjooeogpidhaa
open Go.RowKit Dec

/-- Numbers in blocks of their own. -/
def Held (w W : World) (L : List (Nat × Int × Int)) : Prop := Below w.heap.size w W ∧ ∀ x ∈ L, Whole W x.1 23 #[.int .i64 x.2.1, .int .i64 x.2.2]
theorem Held.start (w : World) : Held w w [] := ⟨Below.refl _ _, fun x hx => by cases hx⟩
theorem Held.here {w W W' : World} {L : List (Nat × Int × Int)} (h : Held w W L) (hb : Below W.heap.size W W') : Held w W' L :=
  ⟨h.1.trans (hb.mono h.1.size), fun x hx => (h.2 x hx).here hb⟩
theorem Held.add {w W : World} {L : List (Nat × Int × Int)} (h : Held w W L) (M S : Int) : Held w (W.alloc (.cells #[.int .i64 M, .int .i64 S] 23)) ((W.heap.size, M, S) :: L) :=
  ⟨h.1.alloc h.1.size _, fun x hx => by
    rcases List.mem_cons.1 hx with rfl | hx
    · exact Whole.made _ _ _
    · exact (h.2 x hx).old _⟩
theorem Held.drew {w W : World} {L : List (Nat × Int × Int)} (h : Held w W L) : Held w W.drew L := ⟨h.1.drew, fun x hx => (h.2 x hx).here (Below.refl _ _).drew⟩
theorem Held.at0 {w W : World} {L : List (Nat × Int × Int)} (h : Held w W L) {B : Nat} {M S : Int} (hx : (B, M, S) ∈ L) : W.cell? ⟨B, 0, none⟩ = some (.int .i64 M) := (h.2 _ hx).reads 0
theorem Held.at1 {w W : World} {L : List (Nat × Int × Int)} (h : Held w W L) {B : Nat} {M S : Int} (hx : (B, M, S) ∈ L) : W.cell? ⟨B, 1, none⟩ = some (.int .i64 S) := (h.2 _ hx).reads 1
theorem Held.lt {w W : World} {L : List (Nat × Int × Int)} (h : Held w W L) {B : Nat} {M S : Int} (hx : (B, M, S) ∈ L) : B < W.heap.size := (h.2 _ hx).lt
theorem Held.five (w : World) (a b c d l : DV) : Held w (((((w.alloc (.cells #[.int .i64 a.m, .int .i64 a.s] 23)).alloc (.cells #[.int .i64 b.m, .int .i64 b.s] 23)).alloc (.cells #[.int .i64 c.m, .int .i64 c.s] 23)).alloc (.cells #[.int .i64 d.m, .int .i64 d.s] 23)).alloc (.cells #[.int .i64 l.m, .int .i64 l.s] 23))
    [(w.heap.size + 1 + 1 + 1 + 1, l.m, l.s), (w.heap.size + 1 + 1 + 1, d.m, d.s), (w.heap.size + 1 + 1, c.m, c.s), (w.heap.size + 1, b.m, b.s), (w.heap.size, a.m, a.s)] := by
  have h := (((((Held.start w).add a.m a.s).add b.m b.s).add c.m c.s).add d.m d.s).add l.m l.s
  simpa using h
def IsR (r : DV) (E : Int) (w : World) (e : Ending) (w' : World) : Prop := e = .returned (.tuple #[.agg #[.int .i64 r.m, .int .i64 r.s], .int .i64 E]) ∧ Below w.heap.size w w'
theorem refmul_tells (a b r : DV) (E : Int) (w : World) (ha : a.Ok) (hb : b.Ok) (h : Tells (a.v * b.v) 18 r E) :
    Calls Try.prog 48 #[.agg #[.int .i64 a.m, .int .i64 a.s], .agg #[.int .i64 b.m, .int .i64 b.s]] w (IsR r E w) := by
  obtain ⟨am, s⟩ := a
  obtain ⟨bm, s'⟩ := b
  obtain ⟨k, rfl⟩ : ∃ n : Nat, s = n := ⟨s.toNat, by have := ha.2.2.1; simp only at this; omega⟩
  obtain ⟨k', rfl⟩ : ∃ n : Nat, s' = n := ⟨s'.toNat, by have := hb.2.2.1; simp only at this; omega⟩
  refine (refmul_ok am bm k k' w ha hb).mono ?_
  rintro e w' ⟨M, S, E', he, hd, hb⟩
  obtain ⟨rfl, rfl, rfl⟩ := Denotes.unique hd h
  exact ⟨he, hb⟩
theorem refadd_tells (a b r : DV) (E : Int) (w : World) (ha : a.Ok) (hb : b.Ok) (h : Tells (a.v + b.v) 9 r E) :
    Calls Try.prog 49 #[.agg #[.int .i64 a.m, .int .i64 a.s], .agg #[.int .i64 b.m, .int .i64 b.s]] w (IsR r E w) := by
  obtain ⟨am, s⟩ := a
  obtain ⟨bm, s'⟩ := b
  obtain ⟨k, rfl⟩ : ∃ n : Nat, s = n := ⟨s.toNat, by have := ha.2.2.1; simp only at this; omega⟩
  obtain ⟨k', rfl⟩ : ∃ n : Nat, s' = n := ⟨s'.toNat, by have := hb.2.2.1; simp only at this; omega⟩
  refine (refadd_ok am bm k k' w ha hb).mono ?_
  rintro e w' ⟨M, S, E', he, hd, hb⟩
  obtain ⟨rfl, rfl, rfl⟩ := Denotes.unique hd h
  exact ⟨he, hb⟩
/-- What Tied answers. -/
def IsTied (r : DV) (E : Int) (w : World) (e : Ending) (w' : World) : Prop :=
  ∃ (x : DV) (ok : Bool), e = .returned (.tuple #[.agg #[.int .i64 x.m, .int .i64 x.s], .bool ok]) ∧ ((E = 0 ∧ ok = true ∧ x = r) ∨ (E = 5 ∧ ok = false)) ∧ Below w.heap.size w w'
theorem tied_said {z t l r : DV} {e1 e2 e3 e4 E : Int}
    (h : (e1 = 5 ∧ r = .zero ∧ E = 5) ∨ (e1 = 0 ∧ e2 = 5 ∧ r = .zero ∧ E = 5) ∨ (e1 = 0 ∧ e2 = 0 ∧ e3 = 5 ∧ r = .zero ∧ E = 5) ∨ (e1 = 0 ∧ e2 = 0 ∧ e3 = 0 ∧ Tells (t.v + l.v) 9 r E))
    (h4 : Tells (t.v + l.v) 9 z e4) (K : (e1 = 0 ∨ e1 = 5) ∧ (e2 = 0 ∨ e2 = 5) ∧ (e3 = 0 ∨ e3 = 5) ∧ (e4 = 0 ∨ e4 = 5)) :
    (e1 = 0 ∧ e2 = 0 ∧ e3 = 0 ∧ e4 = 0 ∧ E = 0 ∧ z = r) ∨ ((e1 = 5 ∨ e2 = 5 ∨ e3 = 5 ∨ e4 = 5) ∧ E = 5) := by
  rcases h with ⟨h, -, k⟩ | ⟨-, h, -, k⟩ | ⟨-, -, h, -, k⟩ | ⟨a, b, c, h⟩
  · exact .inr ⟨.inl h, k⟩
  · exact .inr ⟨.inr (.inl h), k⟩
  · exact .inr ⟨.inr (.inr (.inl h)), k⟩
  · obtain ⟨x, y, u⟩ := Denotes.unique h h4
    rcases K.2.2.2 with k | k
    · exact .inl ⟨a, b, c, k, u.trans k, DV.ext' x.symm y.symm⟩
    · exact .inr ⟨.inr (.inr (.inr k)), u.trans k⟩
set_option maxRecDepth 100000 in
set_option maxHeartbeats 4000000 in
theorem tied_any (a b c d l r : DV) (E : Int) (w : World) (ha : a.Ok) (hb : b.Ok) (hc : c.Ok) (hd : d.Ok) (hl : l.Ok) (h : SumIs a b c d l r E) :
    Calls Try.prog 31 #[.agg #[.int .i64 a.m, .int .i64 a.s], .agg #[.int .i64 b.m, .int .i64 b.s], .agg #[.int .i64 c.m, .int .i64 c.s], .agg #[.int .i64 d.m, .int .i64 d.s], .agg #[.int .i64 l.m, .int .i64 l.s]] w (IsTied r E w) := by
  obtain ⟨p, q, t, e1, e2, e3, h1, h2, h3, h⟩ := h
  obtain ⟨z, e4, h4⟩ := Tells.total (t.v + l.v) 9
  have HE := Lib.hid (And.intro h (And.intro h1 (And.intro h2 (And.intro h3 h4))))
  have HO := Lib.hid (And.intro (And.intro ha hb) (And.intro (And.intro hc hd) (And.intro hl (And.intro h1.ok.1 (And.intro h2.ok.1 h3.ok.1)))))
  have H0 := Lib.hid ((Held.five w a b c d l).add 0 0)
  have hsz : (((((w.alloc (.cells #[.int .i64 a.m, .int .i64 a.s] 23)).alloc (.cells #[.int .i64 b.m, .int .i64 b.s] 23)).alloc (.cells #[.int .i64 c.m, .int .i64 c.s] 23)).alloc (.cells #[.int .i64 d.m, .int .i64 d.s] 23)).alloc (.cells #[.int .i64 l.m, .int .i64 l.s] 23)).heap.size = w.heap.size + 1 + 1 + 1 + 1 + 1 := by simp
  rw [hsz] at H0
  clear hsz
  have k1 := h1.ok.2
  have k2 := h2.ok.2
  have k3 := h3.ok.2
  have k4 := h4.ok.2
  have K := Lib.hid (And.intro k1 (And.intro k2 (And.intro k3 k4)))
  clear h h1 h2 h3 h4 ha hb hc hd hl k1 k2 k3 k4
  go_enter Try.func31, Try.ntmps31
  go_wp2_with fail
  refine (refmul_tells a b p e1 _ HO.out.1.1 HO.out.1.2 HE.out.2.1).mono ?_
  rintro e w1 ⟨rfl, kk⟩
  have H1 := Lib.hid (H0.out.here kk)
  have c0 : w1.cell? ⟨w.heap.size + 1 + 1, 0, none⟩ = some (.int .i64 c.m) := H1.out.at0 (S := c.s) (by simp)
  have c1 : w1.cell? ⟨w.heap.size + 1 + 1, 1, none⟩ = some (.int .i64 c.s) := H1.out.at1 (M := c.m) (by simp)
  have lc : w.heap.size + 1 + 1 < w1.heap.size := H1.out.lt (M := c.m) (S := c.s) (by simp)
  have d0 : w1.cell? ⟨w.heap.size + 1 + 1 + 1, 0, none⟩ = some (.int .i64 d.m) := H1.out.at0 (S := d.s) (by simp)
  have d1 : w1.cell? ⟨w.heap.size + 1 + 1 + 1, 1, none⟩ = some (.int .i64 d.s) := H1.out.at1 (M := d.m) (by simp)
  have ld : w.heap.size + 1 + 1 + 1 < w1.heap.size := H1.out.lt (M := d.m) (S := d.s) (by simp)
  clear kk H0
  go_wp2_with fail
  refine (refmul_tells c d q e2 _ HO.out.2.1.1 HO.out.2.1.2 HE.out.2.2.1).mono ?_
  rintro e w2 ⟨rfl, kk⟩
  have H2 := Lib.hid ((H1.out.add p.m p.s).here kk)
  clear kk H1 c0 c1 lc d0 d1 ld
  have x0 : w2.cell? ⟨w1.heap.size, 0, none⟩ = some (.int .i64 p.m) := H2.out.at0 (S := p.s) (by simp)
  have x1 : w2.cell? ⟨w1.heap.size, 1, none⟩ = some (.int .i64 p.s) := H2.out.at1 (M := p.m) (by simp)
  have lx : w1.heap.size < w2.heap.size := H2.out.lt (M := p.m) (S := p.s) (by simp)
  go_wp2_with fail
  refine (refadd_tells p q t e3 _ HO.out.2.2.2.1 HO.out.2.2.2.2.1 HE.out.2.2.2.1).mono ?_
  rintro e w3 ⟨rfl, kk⟩
  have H3 := Lib.hid ((H2.out.add q.m q.s).here kk)
  clear kk H2 x0 x1 lx
  have f0 : w3.cell? ⟨w.heap.size + 1 + 1 + 1 + 1, 0, none⟩ = some (.int .i64 l.m) := H3.out.at0 (S := l.s) (by simp)
  have f1 : w3.cell? ⟨w.heap.size + 1 + 1 + 1 + 1, 1, none⟩ = some (.int .i64 l.s) := H3.out.at1 (M := l.m) (by simp)
  have lf : w.heap.size + 1 + 1 + 1 + 1 < w3.heap.size := H3.out.lt (M := l.m) (S := l.s) (by simp)
  go_wp2_with fail
  refine (refadd_tells t l z e4 _ HO.out.2.2.2.2.2 HO.out.2.2.1 HE.out.2.2.2.2).mono ?_
  rintro e w4 ⟨rfl, kk⟩
  have H4 := Lib.hid ((H3.out.add t.m t.s).here kk)
  clear kk H3 f0 f1 lf
  have hR : Whole w4 (w.heap.size + 1 + 1 + 1 + 1 + 1) 23 #[.int .i64 0, .int .i64 0] := H4.out.2 (w.heap.size + 1 + 1 + 1 + 1 + 1, 0, 0) (by simp)
  have r0 : w4.cell? ⟨w.heap.size + 1 + 1 + 1 + 1 + 1, 0, none⟩ = some (.int .i64 0) := hR.reads 0
  have r1 : w4.cell? ⟨w.heap.size + 1 + 1 + 1 + 1 + 1, 1, none⟩ = some (.int .i64 0) := hR.reads 1
  have z0 := hR.thawed 0
  have z1 := hR.thawed 1
  have lr := hR.lt
  have hfin0 := (H4.out.1.setCell (p := ⟨w.heap.size + 1 + 1 + 1 + 1 + 1, 0, none⟩) (by simp; omega) (.int .i64 z.m)).setCell (p := ⟨w.heap.size + 1 + 1 + 1 + 1 + 1, 1, none⟩) (by simp; omega) (.int .i64 z.s)
  have hfin := hfin0.alloc hfin0.size (.cells #[.int .i64 z.m, .int .i64 z.s] 23)
  have q0 : ((w4.setCell ⟨w.heap.size + 1 + 1 + 1 + 1 + 1, 0, none⟩ (.int .i64 z.m)).setCell ⟨w.heap.size + 1 + 1 + 1 + 1 + 1, 1, none⟩ (.int .i64 z.s)).cell? ⟨w.heap.size + 1 + 1 + 1 + 1 + 1, 0, none⟩ = some (.int .i64 z.m) := by simp [go_sem, r0]
  have q1 : ((w4.setCell ⟨w.heap.size + 1 + 1 + 1 + 1 + 1, 0, none⟩ (.int .i64 z.m)).setCell ⟨w.heap.size + 1 + 1 + 1 + 1 + 1, 1, none⟩ (.int .i64 z.s)).cell? ⟨w.heap.size + 1 + 1 + 1 + 1 + 1, 1, none⟩ = some (.int .i64 z.s) := by simp [go_sem, r1]
  have Q := Lib.hid (And.intro ((World.cell?_alloc_lt _ (.cells #[.int .i64 z.m, .int .i64 z.s] 23) _ (World.block_lt_of_cell? _ _ q0)).trans q0) ((World.cell?_alloc_lt _ (.cells #[.int .i64 z.m, .int .i64 z.s] 23) _ (World.block_lt_of_cell? _ _ q1)).trans q1))
  clear q0 q1 hfin0
  have HF := Lib.hid hfin
  clear hfin hR H4
  have hEE : (e1 = 0 ∧ e2 = 0 ∧ e3 = 0 ∧ e4 = 0 ∧ E = 0 ∧ z = r) ∨ ((e1 = 5 ∨ e2 = 5 ∨ e3 = 5 ∨ e4 = 5) ∧ E = 5) := tied_said HE.out.1 HE.out.2.2.2.2 K.out
  have HEE := Lib.hid hEE
  clear hEE HE
  have K1 := K.out
  clear K
  rcases K1 with ⟨k1 | k1, k2 | k2, k3 | k3, k4 | k4⟩
  all_goals subst k1 k2 k3 k4
  all_goals go_wp2_with fail
  all_goals first
    | exact bodyPost_ret (v := .tuple #[.agg #[.int .i64 z.m, .int .i64 z.s], .bool true]) (by simp [results, Try.results31, go_sem, Q.out.1, Q.out.2]) rfl ⟨z, true, rfl, by simpa using HEE.out, HF.out⟩
    | exact bodyPost_ret (v := .tuple #[.agg #[.int .i64 z.m, .int .i64 z.s], .bool false]) (by simp [results, Try.results31, go_sem, Q.out.1, Q.out.2]) rfl ⟨z, false, rfl, by simpa using HEE.out, HF.out⟩
end Go.Proofs.Ytpdjooeogpidhaa
