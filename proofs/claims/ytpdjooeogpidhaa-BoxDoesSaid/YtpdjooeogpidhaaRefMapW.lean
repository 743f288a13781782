/- The reference's Tied: the walk. -/
import Derived.Test.YtpdjooeogpidhaaRefMul
import Derived.Test.YtpdjooeogpidhaaMatMath
import Derived.Test.YtpdjooeogpidhaaRefMat
import Derived.Test.YtpdjooeogpidhaaMatMapB
namespace Go.Proofs.Ytpdjooeogpidhaa
open Go.RowKit Dec

/-- Numbers in blocks of their own. -/
def Held (w W : World) (L : List (Nat × Int × Int)) : Prop := Below w.heap.size w W ∧ ∀ x ∈ L, Whole W x.1 23 #[.int .i64 x.2.1, .int .i64 x.2.2]
theorem Held.start (w : World) : Held w w [] := ⟨Below.refl _ _, fun x hx => by cases hx⟩
theorem Held.here {w W W' : World} {L : List (Nat × Int × Int)} (h : Held w W L) (hb : Below W.heap.size W W') : Held w W' L :=
  ⟨h.1.trans (hb.mono h.1.size), fun x hx => (h.2 x hx).here hb⟩
theorem Held.add {w W : World} {L : List (Nat × Int × Int)} (h : Held w W L) (M S : Int) : Held w (W.alloc (.cells #[.int .i64 M, .int .i64 S] 23)) ((W.heap.size, M, S) :: L) :=
  ⟨h.1.alloc h.1.size _, fun x hx => by
    rcases List.mem_cons.1 hx with rfl | hx
    · exact Whole.made _ _ _
    · exact (h.2 x hx).old _⟩
theorem Held.drew {w W : World} {L : List (Nat × Int × Int)} (h : Held w W L) : Held w W.drew L := ⟨h.1.drew, fun x hx => (h.2 x hx).here (Below.refl _ _).drew⟩
theorem Held.at0 {w W : World} {L : List (Nat × Int × Int)} (h : Held w W L) {B : Nat} {M S : Int} (hx : (B, M, S) ∈ L) : W.cell? ⟨B, 0, none⟩ = some (.int .i64 M) := (h.2 _ hx).reads 0
theorem Held.at1 {w W : World} {L : List (Nat × Int × Int)} (h : Held w W L) {B : Nat} {M S : Int} (hx : (B, M, S) ∈ L) : W.cell? ⟨B, 1, none⟩ = some (.int .i64 S) := (h.2 _ hx).reads 1
theorem Held.lt {w W : World} {L : List (Nat × Int × Int)} (h : Held w W L) {B : Nat} {M S : Int} (hx : (B, M, S) ∈ L) : B < W.heap.size := (h.2 _ hx).lt
theorem Held.five (w : World) (a b c d l : DV) : Held w (((((w.alloc (.cells #[.int .i64 a.m, .int .i64 a.s] 23)).alloc (.cells #[.int .i64 b.m, .int .i64 b.s] 23)).alloc (.cells #[.int .i64 c.m, .int .i64 c.s] 23)).alloc (.cells #[.int .i64 d.m, .int .i64 d.s] 23)).alloc (.cells #[.int .i64 l.m, .int .i64 l.s] 23))
    [(w.heap.size + 1 + 1 + 1 + 1, l.m, l.s), (w.heap.size + 1 + 1 + 1, d.m, d.s), (w.heap.size + 1 + 1, c.m, c.s), (w.heap.size + 1, b.m, b.s), (w.heap.size, a.m, a.s)] := by
  have h := (((((Held.start w).add a.m a.s).add b.m b.s).add c.m c.s).add d.m d.s).add l.m l.s
  simpa using h
def IsR (r : DV) (E : Int) (w : World) (e : Ending) (w' : World) : Prop := e = .returned (.tuple #[.agg #[.int .i64 r.m, .int .i64 r.s], .int .i64 E]) ∧ Below w.heap.size w w'
theorem refmul_tells (a b r : DV) (E : Int) (w : World) (ha : a.Ok) (hb : b.Ok) (h : Tells (a.v * b.v) 18 r E) :
    Calls Try.prog 48 #[.agg #[.int .i64 a.m, .int .i64 a.s], .agg #[.int .i64 b.m, .int .i64 b.s]] w (IsR r E w) := by
  obtain ⟨am, s⟩ := a
  obtain ⟨bm, s'⟩ := b
  obtain ⟨k, rfl⟩ : ∃ n : Nat, s = n := ⟨s.toNat, by have := ha.2.2.1; simp only at this; omega⟩
  obtain ⟨k', rfl⟩ : ∃ n : Nat, s' = n := ⟨s'.toNat, by have := hb.2.2.1; simp only at this; omega⟩
  refine (refmul_ok am bm k k' w ha hb).mono ?_
  rintro e w' ⟨M, S, E', he, hd, hb⟩
  obtain ⟨rfl, rfl, rfl⟩ := Denotes.unique hd h
  exact ⟨he, hb⟩
theorem refadd_tells (a b r : DV) (E : Int) (w : World) (ha : a.Ok) (hb : b.Ok) (h : Tells (a.v + b.v) 9 r E) :
    Calls Try.prog 49 #[.agg #[.int .i64 a.m, .int .i64 a.s], .agg #[.int .i64 b.m, .int .i64 b.s]] w (IsR r E w) := by
  obtain ⟨am, s⟩ := a
  obtain ⟨bm, s'⟩ := b
  obtain ⟨k, rfl⟩ : ∃ n : Nat, s = n := ⟨s.toNat, by have := ha.2.2.1; simp only at this; omega⟩
  obtain ⟨k', rfl⟩ : ∃ n : Nat, s' = n := ⟨s'.toNat, by have := hb.2.2.1; simp only at this; omega⟩
  refine (refadd_ok am bm k k' w ha hb).mono ?_
  rintro e w' ⟨M, S, E', he, hd, hb⟩
  obtain ⟨rfl, rfl, rfl⟩ := Denotes.unique hd h
  exact ⟨he, hb⟩
/-- What Tied answers. -/
def IsTied (r : DV) (E : Int) (w : World) (e : Ending) (w' : World) : Prop :=
  ∃ (x : DV) (ok : Bool), e = .returned (.tuple #[.agg #[.int .i64 x.m, .int .i64 x.s], .bool ok]) ∧ ((E = 0 ∧ ok = true ∧ x = r) ∨ (E = 5 ∧ ok = false)) ∧ Below w.heap.size w w'
theorem tied_said {z t l r : DV} {e1 e2 e3 e4 E : Int}
    (h : (e1 = 5 ∧ r = .zero ∧ E = 5) ∨ (e1 = 0 ∧ e2 = 5 ∧ r = .zero ∧ E = 5) ∨ (e1 = 0 ∧ e2 = 0 ∧ e3 = 5 ∧ r = .zero ∧ E = 5) ∨ (e1 = 0 ∧ e2 = 0 ∧ e3 = 0 ∧ Tells (t.v + l.v) 9 r E))
    (h4 : Tells (t.v + l.v) 9 z e4) (K : (e1 = 0 ∨ e1 = 5) ∧ (e2 = 0 ∨ e2 = 5) ∧ (e3 = 0 ∨ e3 = 5) ∧ (e4 = 0 ∨ e4 = 5)) :
    (e1 = 0 ∧ e2 = 0 ∧ e3 = 0 ∧ e4 = 0 ∧ E = 0 ∧ z = r) ∨ ((e1 = 5 ∨ e2 = 5 ∨ e3 = 5 ∨ e4 = 5) ∧ E = 5) := by
  rcases h with ⟨h, -, k⟩ | ⟨-, h, -, k⟩ | ⟨-, -, h, -, k⟩ | ⟨a, b, c, h⟩
  · exact .inr ⟨.inl h, k⟩
  · exact .inr ⟨.inr (.inl h), k⟩
  · exact .inr ⟨.inr (.inr (.inl h)), k⟩
  · obtain ⟨x, y, u⟩ := Denotes.unique h h4
    rcases K.2.2.2 with k | k
    · exact .inl ⟨a, b, c, k, u.trans k, DV.ext' x.symm y.symm⟩
    · exact .inr ⟨.inr (.inr (.inr k)), u.trans k⟩
set_option maxRecDepth 100000 in
set_option maxHeartbeats 4000000 in
theorem tied_any (a b c d l r : DV) (E : Int) (w : World) (ha : a.Ok) (hb : b.Ok) (hc : c.Ok) (hd : d.Ok) (hl : l.Ok) (h : SumIs a b c d l r E) :
    Calls Try.prog 31 #[.agg #[.int .i64 a.m, .int .i64 a.s], .agg #[.int .i64 b.m, .int .i64 b.s], .agg #[.int .i64 c.m, .int .i64 c.s], .agg #[.int .i64 d.m, .int .i64 d.s], .agg #[.int .i64 l.m, .int .i64 l.s]] w (IsTied r E w) := by
  obtain ⟨p, q, t, e1, e2, e3, h1, h2, h3, h⟩ := h
  obtain ⟨z, e4, h4⟩ := Tells.total (t.v + l.v) 9
  have HE := Lib.hid (And.intro h (And.intro h1 (And.intro h2 (And.intro h3 h4))))
  have HO := Lib.hid (And.intro (And.intro ha hb) (And.intro (And.intro hc hd) (And.intro hl (And.intro h1.ok.1 (And.intro h2.ok.1 h3.ok.1)))))
  have H0 := Lib.hid ((Held.five w a b c d l).add 0 0)
  have hsz : (((((w.alloc (.cells #[.int .i64 a.m, .int .i64 a.s] 23)).alloc (.cells #[.int .i64 b.m, .int .i64 b.s] 23)).alloc (.cells #[.int .i64 c.m, .int .i64 c.s] 23)).alloc (.cells #[.int .i64 d.m, .int .i64 d.s] 23)).alloc (.cells #[.int .i64 l.m, .int .i64 l.s] 23)).heap.size = w.heap.size + 1 + 1 + 1 + 1 + 1 := by simp
  rw [hsz] at H0
  clear hsz
  have k1 := h1.ok.2
  have k2 := h2.ok.2
  have k3 := h3.ok.2
  have k4 := h4.ok.2
  have K := Lib.hid (And.intro k1 (And.intro k2 (And.intro k3 k4)))
  clear h h1 h2 h3 h4 ha hb hc hd hl k1 k2 k3 k4
  go_enter Try.func31, Try.ntmps31
  go_wp2_with fail
  refine (refmul_tells a b p e1 _ HO.out.1.1 HO.out.1.2 HE.out.2.1).mono ?_
  rintro e w1 ⟨rfl, kk⟩
  have H1 := Lib.hid (H0.out.here kk)
  have c0 : w1.cell? ⟨w.heap.size + 1 + 1, 0, none⟩ = some (.int .i64 c.m) := H1.out.at0 (S := c.s) (by simp)
  have c1 : w1.cell? ⟨w.heap.size + 1 + 1, 1, none⟩ = some (.int .i64 c.s) := H1.out.at1 (M := c.m) (by simp)
  have lc : w.heap.size + 1 + 1 < w1.heap.size := H1.out.lt (M := c.m) (S := c.s) (by simp)
  have d0 : w1.cell? ⟨w.heap.size + 1 + 1 + 1, 0, none⟩ = some (.int .i64 d.m) := H1.out.at0 (S := d.s) (by simp)
  have d1 : w1.cell? ⟨w.heap.size + 1 + 1 + 1, 1, none⟩ = some (.int .i64 d.s) := H1.out.at1 (M := d.m) (by simp)
  have ld : w.heap.size + 1 + 1 + 1 < w1.heap.size := H1.out.lt (M := d.m) (S := d.s) (by simp)
  clear kk H0
  go_wp2_with fail
  refine (refmul_tells c d q e2 _ HO.out.2.1.1 HO.out.2.1.2 HE.out.2.2.1).mono ?_
  rintro e w2 ⟨rfl, kk⟩
  have H2 := Lib.hid ((H1.out.add p.m p.s).here kk)
  clear kk H1 c0 c1 lc d0 d1 ld
  have x0 : w2.cell? ⟨w1.heap.size, 0, none⟩ = some (.int .i64 p.m) := H2.out.at0 (S := p.s) (by simp)
  have x1 : w2.cell? ⟨w1.heap.size, 1, none⟩ = some (.int .i64 p.s) := H2.out.at1 (M := p.m) (by simp)
  have lx : w1.heap.size < w2.heap.size := H2.out.lt (M := p.m) (S := p.s) (by simp)
  go_wp2_with fail
  refine (refadd_tells p q t e3 _ HO.out.2.2.2.1 HO.out.2.2.2.2.1 HE.out.2.2.2.1).mono ?_
  rintro e w3 ⟨rfl, kk⟩
  have H3 := Lib.hid ((H2.out.add q.m q.s).here kk)
  clear kk H2 x0 x1 lx
  have f0 : w3.cell? ⟨w.heap.size + 1 + 1 + 1 + 1, 0, none⟩ = some (.int .i64 l.m) := H3.out.at0 (S := l.s) (by simp)
  have f1 : w3.cell? ⟨w.heap.size + 1 + 1 + 1 + 1, 1, none⟩ = some (.int .i64 l.s) := H3.out.at1 (M := l.m) (by simp)
  have lf : w.heap.size + 1 + 1 + 1 + 1 < w3.heap.size := H3.out.lt (M := l.m) (S := l.s) (by simp)
  go_wp2_with fail
  refine (refadd_tells t l z e4 _ HO.out.2.2.2.2.2 HO.out.2.2.1 HE.out.2.2.2.2).mono ?_
  rintro e w4 ⟨rfl, kk⟩
  have H4 := Lib.hid ((H3.out.add t.m t.s).here kk)
  clear kk H3 f0 f1 lf
  have hR : Whole w4 (w.heap.size + 1 + 1 + 1 + 1 + 1) 23 #[.int .i64 0, .int .i64 0] := H4.out.2 (w.heap.size + 1 + 1 + 1 + 1 + 1, 0, 0) (by simp)
  have r0 : w4.cell? ⟨w.heap.size + 1 + 1 + 1 + 1 + 1, 0, none⟩ = some (.int .i64 0) := hR.reads 0
  have r1 : w4.cell? ⟨w.heap.size + 1 + 1 + 1 + 1 + 1, 1, none⟩ = some (.int .i64 0) := hR.reads 1
  have z0 := hR.thawed 0
  have z1 := hR.thawed 1
  have lr := hR.lt
  have hfin0 := (H4.out.1.setCell (p := ⟨w.heap.size + 1 + 1 + 1 + 1 + 1, 0, none⟩) (by simp; omega) (.int .i64 z.m)).setCell (p := ⟨w.heap.size + 1 + 1 + 1 + 1 + 1, 1, none⟩) (by simp; omega) (.int .i64 z.s)
  have hfin := hfin0.alloc hfin0.size (.cells #[.int .i64 z.m, .int .i64 z.s] 23)
  have q0 : ((w4.setCell ⟨w.heap.size + 1 + 1 + 1 + 1 + 1, 0, none⟩ (.int .i64 z.m)).setCell ⟨w.heap.size + 1 + 1 + 1 + 1 + 1, 1, none⟩ (.int .i64 z.s)).cell? ⟨w.heap.size + 1 + 1 + 1 + 1 + 1, 0, none⟩ = some (.int .i64 z.m) := by simp [go_sem, r0]
  have q1 : ((w4.setCell ⟨w.heap.size + 1 + 1 + 1 + 1 + 1, 0, none⟩ (.int .i64 z.m)).setCell ⟨w.heap.size + 1 + 1 + 1 + 1 + 1, 1, none⟩ (.int .i64 z.s)).cell? ⟨w.heap.size + 1 + 1 + 1 + 1 + 1, 1, none⟩ = some (.int .i64 z.s) := by simp [go_sem, r1]
  have Q := Lib.hid (And.intro ((World.cell?_alloc_lt _ (.cells #[.int .i64 z.m, .int .i64 z.s] 23) _ (World.block_lt_of_cell? _ _ q0)).trans q0) ((World.cell?_alloc_lt _ (.cells #[.int .i64 z.m, .int .i64 z.s] 23) _ (World.block_lt_of_cell? _ _ q1)).trans q1))
  clear q0 q1 hfin0
  have HF := Lib.hid hfin
  clear hfin hR H4
  have hEE : (e1 = 0 ∧ e2 = 0 ∧ e3 = 0 ∧ e4 = 0 ∧ E = 0 ∧ z = r) ∨ ((e1 = 5 ∨ e2 = 5 ∨ e3 = 5 ∨ e4 = 5) ∧ E = 5) := tied_said HE.out.1 HE.out.2.2.2.2 K.out
  have HEE := Lib.hid hEE
  clear hEE HE
  have K1 := K.out
  clear K
  rcases K1 with ⟨k1 | k1, k2 | k2, k3 | k3, k4 | k4⟩
  all_goals subst k1 k2 k3 k4
  all_goals go_wp2_with fail
  all_goals first
    | exact bodyPost_ret (v := .tuple #[.agg #[.int .i64 z.m, .int .i64 z.s], .bool true]) (by simp [results, Try.results31, go_sem, Q.out.1, Q.out.2]) rfl ⟨z, true, rfl, by simpa using HEE.out, HF.out⟩
    | exact bodyPost_ret (v := .tuple #[.agg #[.int .i64 z.m, .int .i64 z.s], .bool false]) (by simp [results, Try.results31, go_sem, Q.out.1, Q.out.2]) rfl ⟨z, false, rfl, by simpa using HEE.out, HF.out⟩
end Go.Proofs.Ytpdjooeogpidhaa
/- The reference's Map of matrices: the walk. -/
namespace Go.Proofs.Ytpdjooeogpidhaa
open Go.RowKit Dec

/-- A matrix, a point and the answer's slot. -/
structure Mp (w W : World) (m : MV) (p : PV) : Prop where
  below : Below w.heap.size w W
  m : Whole W w.heap.size 25 #[.int .i64 m.a.m, .int .i64 m.a.s, .int .i64 m.b.m, .int .i64 m.b.s, .int .i64 m.c.m, .int .i64 m.c.s, .int .i64 m.d.m, .int .i64 m.d.s, .int .i64 m.e.m, .int .i64 m.e.s, .int .i64 m.f.m, .int .i64 m.f.s]
  p : Whole W (w.heap.size + 1) 27 #[.int .i64 p.x.m, .int .i64 p.x.s, .int .i64 p.y.m, .int .i64 p.y.s]
  r : Whole W (w.heap.size + 1 + 1) 27 #[.int .i64 0, .int .i64 0, .int .i64 0, .int .i64 0]
theorem Mp.start (w : World) (m : MV) (p : PV) : Mp w (((w.alloc (.cells #[.int .i64 m.a.m, .int .i64 m.a.s, .int .i64 m.b.m, .int .i64 m.b.s, .int .i64 m.c.m, .int .i64 m.c.s, .int .i64 m.d.m, .int .i64 m.d.s, .int .i64 m.e.m, .int .i64 m.e.s, .int .i64 m.f.m, .int .i64 m.f.s] 25)).alloc (.cells #[.int .i64 p.x.m, .int .i64 p.x.s, .int .i64 p.y.m, .int .i64 p.y.s] 27)).alloc (.cells #[.int .i64 0, .int .i64 0, .int .i64 0, .int .i64 0] 27)) m p := by
  have h1 := (Below.refl w.heap.size w).alloc (Nat.le_refl _) (.cells #[.int .i64 m.a.m, .int .i64 m.a.s, .int .i64 m.b.m, .int .i64 m.b.s, .int .i64 m.c.m, .int .i64 m.c.s, .int .i64 m.d.m, .int .i64 m.d.s, .int .i64 m.e.m, .int .i64 m.e.s, .int .i64 m.f.m, .int .i64 m.f.s] 25)
  have h2 := h1.alloc h1.size (.cells #[.int .i64 p.x.m, .int .i64 p.x.s, .int .i64 p.y.m, .int .i64 p.y.s] 27)
  have h3 := h2.alloc h2.size (.cells #[.int .i64 0, .int .i64 0, .int .i64 0, .int .i64 0] 27)
  have k1 := ((Whole.made w 25 #[.int .i64 m.a.m, .int .i64 m.a.s, .int .i64 m.b.m, .int .i64 m.b.s, .int .i64 m.c.m, .int .i64 m.c.s, .int .i64 m.d.m, .int .i64 m.d.s, .int .i64 m.e.m, .int .i64 m.e.s, .int .i64 m.f.m, .int .i64 m.f.s]).old (.cells #[.int .i64 p.x.m, .int .i64 p.x.s, .int .i64 p.y.m, .int .i64 p.y.s] 27)).old (.cells #[.int .i64 0, .int .i64 0, .int .i64 0, .int .i64 0] 27)
  have k2 := (Whole.made (w.alloc (.cells #[.int .i64 m.a.m, .int .i64 m.a.s, .int .i64 m.b.m, .int .i64 m.b.s, .int .i64 m.c.m, .int .i64 m.c.s, .int .i64 m.d.m, .int .i64 m.d.s, .int .i64 m.e.m, .int .i64 m.e.s, .int .i64 m.f.m, .int .i64 m.f.s] 25)) 27 #[.int .i64 p.x.m, .int .i64 p.x.s, .int .i64 p.y.m, .int .i64 p.y.s]).old (.cells #[.int .i64 0, .int .i64 0, .int .i64 0, .int .i64 0] 27)
  have k3 := Whole.made ((w.alloc (.cells #[.int .i64 m.a.m, .int .i64 m.a.s, .int .i64 m.b.m, .int .i64 m.b.s, .int .i64 m.c.m, .int .i64 m.c.s, .int .i64 m.d.m, .int .i64 m.d.s, .int .i64 m.e.m, .int .i64 m.e.s, .int .i64 m.f.m, .int .i64 m.f.s] 25)).alloc (.cells #[.int .i64 p.x.m, .int .i64 p.x.s, .int .i64 p.y.m, .int .i64 p.y.s] 27)) 27 #[.int .i64 0, .int .i64 0, .int .i64 0, .int .i64 0]
  exact ⟨h3, k1, by simpa using k2, by simpa using k3⟩
theorem Mp.here {w W W' : World} {m : MV} {p : PV} (h : Mp w W m p) (hb : Below W.heap.size W W') : Mp w W' m p :=
  ⟨h.below.trans (hb.mono h.below.size), h.m.here hb, h.p.here hb, h.r.here hb⟩
theorem Mp.old {w W : World} {m : MV} {p : PV} (h : Mp w W m p) (o : Obj) : Mp w (W.alloc o) m p := h.here ((Below.refl _ _).alloc (Nat.le_refl _) o)
theorem Mp.put {w W : World} {m : MV} {p : PV} (h : Mp w W m p) (a b c d : Value) : Below w.heap.size w ((((W.setCell ⟨w.heap.size + 1 + 1, 0, none⟩ a).setCell ⟨w.heap.size + 1 + 1, 1, none⟩ b).setCell ⟨w.heap.size + 1 + 1, 2, none⟩ c).setCell ⟨w.heap.size + 1 + 1, 3, none⟩ d) :=
  (((h.below.setCell (p := ⟨w.heap.size + 1 + 1, 0, none⟩) (by simp; omega) a).setCell (p := ⟨w.heap.size + 1 + 1, 1, none⟩) (by simp; omega) b).setCell (p := ⟨w.heap.size + 1 + 1, 2, none⟩) (by simp; omega) c).setCell (p := ⟨w.heap.size + 1 + 1, 3, none⟩) (by simp; omega) d
set_option maxRecDepth 100000 in
set_option maxHeartbeats 4000000 in
theorem refmap_bad1 (m : MV) (p : PV) (w : World) (h : ¬ m.Ok) :
    Calls Try.prog 6 #[.agg #[.int .i64 m.a.m, .int .i64 m.a.s, .int .i64 m.b.m, .int .i64 m.b.s, .int .i64 m.c.m, .int .i64 m.c.s, .int .i64 m.d.m, .int .i64 m.d.s, .int .i64 m.e.m, .int .i64 m.e.s, .int .i64 m.f.m, .int .i64 m.f.s], .agg #[.int .i64 p.x.m, .int .i64 p.x.s, .int .i64 p.y.m, .int .i64 p.y.s]] w fun e w' => e = .returned (.tuple #[.agg #[.int .i64 0, .int .i64 0, .int .i64 0, .int .i64 0], .int .i64 1]) ∧ Below w.heap.size w w' := by
  have G := Lib.hid h
  clear h
  have H := Lib.hid (Mp.start w m p)
  go_enter Try.func6, Try.ntmps6
  go_wp2_with fail
  refine (mright_any m _ false (decide_eq_false G.out)).mono ?_
  rintro e w1 ⟨rfl, kk⟩
  have H1 := H.out.here kk
  have r0 : w1.cell? ⟨w.heap.size + 1 + 1, 0, none⟩ = some (.int .i64 0) := H1.r.reads 0
  have r1 : w1.cell? ⟨w.heap.size + 1 + 1, 1, none⟩ = some (.int .i64 0) := H1.r.reads 1
  have r2 : w1.cell? ⟨w.heap.size + 1 + 1, 2, none⟩ = some (.int .i64 0) := H1.r.reads 2
  have r3 : w1.cell? ⟨w.heap.size + 1 + 1, 3, none⟩ = some (.int .i64 0) := H1.r.reads 3
  have z0 := H1.r.thawed 0
  have z1 := H1.r.thawed 1
  have z2 := H1.r.thawed 2
  have z3 := H1.r.thawed 3
  have lr := H1.r.lt
  have HF := Lib.hid (H1.put (.int .i64 0) (.int .i64 0) (.int .i64 0) (.int .i64 0))
  clear H1 kk H
  go_wp2_with fail
  exact bodyPost_ret (v := .tuple #[.agg #[.int .i64 0, .int .i64 0, .int .i64 0, .int .i64 0], .int .i64 1]) (by simp [results, Try.results6, go_sem, r0, r1, r2, r3]) rfl ⟨rfl, HF.out⟩
set_option maxRecDepth 100000 in
set_option maxHeartbeats 4000000 in
theorem refmap_bad2 (m : MV) (p : PV) (w : World) (h0 : m.Ok) (h : ¬ p.x.Ok) :
    Calls Try.prog 6 #[.agg #[.int .i64 m.a.m, .int .i64 m.a.s, .int .i64 m.b.m, .int .i64 m.b.s, .int .i64 m.c.m, .int .i64 m.c.s, .int .i64 m.d.m, .int .i64 m.d.s, .int .i64 m.e.m, .int .i64 m.e.s, .int .i64 m.f.m, .int .i64 m.f.s], .agg #[.int .i64 p.x.m, .int .i64 p.x.s, .int .i64 p.y.m, .int .i64 p.y.s]] w fun e w' => e = .returned (.tuple #[.agg #[.int .i64 0, .int .i64 0, .int .i64 0, .int .i64 0], .int .i64 1]) ∧ Below w.heap.size w w' := by
  have G0 := Lib.hid h0
  clear h0
  have G := Lib.hid h
  clear h
  have H := Lib.hid (Mp.start w m p)
  go_enter Try.func6, Try.ntmps6
  go_wp2_with fail
  refine (mright_any m _ true (decide_eq_true G0.out)).mono ?_
  rintro e w1 ⟨rfl, kk⟩
  have H := Lib.hid (H.out.here kk)
  clear kk
  have p0 : w1.cell? ⟨w.heap.size + 1, 0, none⟩ = some (.int .i64 p.x.m) := H.out.p.reads 0
  have p1 : w1.cell? ⟨w.heap.size + 1, 1, none⟩ = some (.int .i64 p.x.s) := H.out.p.reads 1
  have lp := H.out.p.lt
  go_wp2_with fail
  refine (right_is p.x false (decide_eq_false G.out) _).mono ?_
  rintro e w2 ⟨rfl, kk⟩
  clear p0 p1 lp
  have H2 := H.out.here kk
  have r0 : w2.cell? ⟨w.heap.size + 1 + 1, 0, none⟩ = some (.int .i64 0) := H2.r.reads 0
  have r1 : w2.cell? ⟨w.heap.size + 1 + 1, 1, none⟩ = some (.int .i64 0) := H2.r.reads 1
  have r2 : w2.cell? ⟨w.heap.size + 1 + 1, 2, none⟩ = some (.int .i64 0) := H2.r.reads 2
  have r3 : w2.cell? ⟨w.heap.size + 1 + 1, 3, none⟩ = some (.int .i64 0) := H2.r.reads 3
  have z0 := H2.r.thawed 0
  have z1 := H2.r.thawed 1
  have z2 := H2.r.thawed 2
  have z3 := H2.r.thawed 3
  have lr := H2.r.lt
  have HF := Lib.hid (H2.put (.int .i64 0) (.int .i64 0) (.int .i64 0) (.int .i64 0))
  clear H2 kk H
  go_wp2_with fail
  exact bodyPost_ret (v := .tuple #[.agg #[.int .i64 0, .int .i64 0, .int .i64 0, .int .i64 0], .int .i64 1]) (by simp [results, Try.results6, go_sem, r0, r1, r2, r3]) rfl ⟨rfl, HF.out⟩
set_option maxRecDepth 100000 in
set_option maxHeartbeats 4000000 in
theorem refmap_bad3 (m : MV) (p : PV) (w : World) (h0 : m.Ok) (h1 : p.x.Ok) (h : ¬ p.y.Ok) :
    Calls Try.prog 6 #[.agg #[.int .i64 m.a.m, .int .i64 m.a.s, .int .i64 m.b.m, .int .i64 m.b.s, .int .i64 m.c.m, .int .i64 m.c.s, .int .i64 m.d.m, .int .i64 m.d.s, .int .i64 m.e.m, .int .i64 m.e.s, .int .i64 m.f.m, .int .i64 m.f.s], .agg #[.int .i64 p.x.m, .int .i64 p.x.s, .int .i64 p.y.m, .int .i64 p.y.s]] w fun e w' => e = .returned (.tuple #[.agg #[.int .i64 0, .int .i64 0, .int .i64 0, .int .i64 0], .int .i64 1]) ∧ Below w.heap.size w w' := by
  have G0 := Lib.hid h0
  clear h0
  have G1 := Lib.hid h1
  clear h1
  have G := Lib.hid h
  clear h
  have H := Lib.hid (Mp.start w m p)
  go_enter Try.func6, Try.ntmps6
  go_wp2_with fail
  refine (mright_any m _ true (decide_eq_true G0.out)).mono ?_
  rintro e w1 ⟨rfl, kk⟩
  have H := Lib.hid (H.out.here kk)
  clear kk
  have p0 : w1.cell? ⟨w.heap.size + 1, 0, none⟩ = some (.int .i64 p.x.m) := H.out.p.reads 0
  have p1 : w1.cell? ⟨w.heap.size + 1, 1, none⟩ = some (.int .i64 p.x.s) := H.out.p.reads 1
  have lp := H.out.p.lt
  go_wp2_with fail
  refine (right_is p.x true (decide_eq_true G1.out) _).mono ?_
  rintro e w2 ⟨rfl, kk⟩
  have H := Lib.hid (H.out.here kk)
  clear kk p0 p1 lp
  have p2 : w2.cell? ⟨w.heap.size + 1, 2, none⟩ = some (.int .i64 p.y.m) := H.out.p.reads 2
  have p3 : w2.cell? ⟨w.heap.size + 1, 3, none⟩ = some (.int .i64 p.y.s) := H.out.p.reads 3
  have lp := H.out.p.lt
  go_wp2_with fail
  refine (right_is p.y false (decide_eq_false G.out) _).mono ?_
  rintro e w3 ⟨rfl, kk⟩
  clear p2 p3 lp
  have H3 := H.out.here kk
  have r0 : w3.cell? ⟨w.heap.size + 1 + 1, 0, none⟩ = some (.int .i64 0) := H3.r.reads 0
  have r1 : w3.cell? ⟨w.heap.size + 1 + 1, 1, none⟩ = some (.int .i64 0) := H3.r.reads 1
  have r2 : w3.cell? ⟨w.heap.size + 1 + 1, 2, none⟩ = some (.int .i64 0) := H3.r.reads 2
  have r3 : w3.cell? ⟨w.heap.size + 1 + 1, 3, none⟩ = some (.int .i64 0) := H3.r.reads 3
  have z0 := H3.r.thawed 0
  have z1 := H3.r.thawed 1
  have z2 := H3.r.thawed 2
  have z3 := H3.r.thawed 3
  have lr := H3.r.lt
  have HF := Lib.hid (H3.put (.int .i64 0) (.int .i64 0) (.int .i64 0) (.int .i64 0))
  clear H3 kk H
  go_wp2_with fail
  exact bodyPost_ret (v := .tuple #[.agg #[.int .i64 0, .int .i64 0, .int .i64 0, .int .i64 0], .int .i64 1]) (by simp [results, Try.results6, go_sem, r0, r1, r2, r3]) rfl ⟨rfl, HF.out⟩
theorem refmap_bad (m : MV) (p : PV) (w : World) (h : ¬ (m.Ok ∧ p.Ok)) :
    Calls Try.prog 6 #[.agg #[.int .i64 m.a.m, .int .i64 m.a.s, .int .i64 m.b.m, .int .i64 m.b.s, .int .i64 m.c.m, .int .i64 m.c.s, .int .i64 m.d.m, .int .i64 m.d.s, .int .i64 m.e.m, .int .i64 m.e.s, .int .i64 m.f.m, .int .i64 m.f.s], .agg #[.int .i64 p.x.m, .int .i64 p.x.s, .int .i64 p.y.m, .int .i64 p.y.s]] w fun e w' => e = .returned (.tuple #[.agg #[.int .i64 0, .int .i64 0, .int .i64 0, .int .i64 0], .int .i64 1]) ∧ Below w.heap.size w w' := by
  by_cases h0 : m.Ok
  · by_cases h1 : p.x.Ok
    · exact refmap_bad3 m p w h0 h1 (fun h2 => h ⟨h0, h1, h2⟩)
    · exact refmap_bad2 m p w h0 h1
  · exact refmap_bad1 m p w h0
end Go.Proofs.Ytpdjooeogpidhaa
/- The reference's Map where all is right: the walk. -/
namespace Go.Proofs.Ytpdjooeogpidhaa
open Go.RowKit Dec

set_option maxRecDepth 100000 in
set_option maxHeartbeats 4000000 in
theorem refmap_ok (m : MV) (p : PV) (x y : DV) (ex ey : Int) (w : World) (hm : m.Ok) (hp : p.Ok) (hx : SumIs m.a p.x m.c p.y m.e x ex) (hy : SumIs m.b p.x m.d p.y m.f y ey) :
    Calls Try.prog 6 #[.agg #[.int .i64 m.a.m, .int .i64 m.a.s, .int .i64 m.b.m, .int .i64 m.b.s, .int .i64 m.c.m, .int .i64 m.c.s, .int .i64 m.d.m, .int .i64 m.d.s, .int .i64 m.e.m, .int .i64 m.e.s, .int .i64 m.f.m, .int .i64 m.f.s], .agg #[.int .i64 p.x.m, .int .i64 p.x.s, .int .i64 p.y.m, .int .i64 p.y.s]] w fun e w' =>
      ((ex = 0 ∧ ey = 0 ∧ e = .returned (.tuple #[.agg #[.int .i64 x.m, .int .i64 x.s, .int .i64 y.m, .int .i64 y.s], .int .i64 0])) ∨ ((ex = 5 ∨ ey = 5) ∧ e = .returned (.tuple #[.agg #[.int .i64 0, .int .i64 0, .int .i64 0, .int .i64 0], .int .i64 5]))) ∧ Below w.heap.size w w' := by
  have G := Lib.hid (And.intro (And.intro hm hp) (And.intro hx hy))
  clear hm hp hx hy
  have H := Lib.hid (Mp.start w m p)
  go_enter Try.func6, Try.ntmps6
  go_wp2_with fail
  refine (mright_any m _ true (decide_eq_true G.out.1.1)).mono ?_
  rintro e w1 ⟨rfl, kk⟩
  have H := Lib.hid (H.out.here kk)
  clear kk
  have p0 : w1.cell? ⟨w.heap.size + 1, 0, none⟩ = some (.int .i64 p.x.m) := H.out.p.reads 0
  have p1 : w1.cell? ⟨w.heap.size + 1, 1, none⟩ = some (.int .i64 p.x.s) := H.out.p.reads 1
  have lp := H.out.p.lt
  go_wp2_with fail
  refine (right_is p.x true (decide_eq_true G.out.1.2.1) _).mono ?_
  rintro e w2 ⟨rfl, kk⟩
  have H := Lib.hid (H.out.here kk)
  clear kk p0 p1 lp
  have p2 : w2.cell? ⟨w.heap.size + 1, 2, none⟩ = some (.int .i64 p.y.m) := H.out.p.reads 2
  have p3 : w2.cell? ⟨w.heap.size + 1, 3, none⟩ = some (.int .i64 p.y.s) := H.out.p.reads 3
  have lp := H.out.p.lt
  go_wp2_with fail
  refine (right_is p.y true (decide_eq_true G.out.1.2.2) _).mono ?_
  rintro e w3 ⟨rfl, kk⟩
  have H := Lib.hid (H.out.here kk)
  clear kk p2 p3 lp
  have p0 : w3.cell? ⟨w.heap.size + 1, 0, none⟩ = some (.int .i64 p.x.m) := H.out.p.reads 0
  have p1 : w3.cell? ⟨w.heap.size + 1, 1, none⟩ = some (.int .i64 p.x.s) := H.out.p.reads 1
  have p2 : w3.cell? ⟨w.heap.size + 1, 2, none⟩ = some (.int .i64 p.y.m) := H.out.p.reads 2
  have p3 : w3.cell? ⟨w.heap.size + 1, 3, none⟩ = some (.int .i64 p.y.s) := H.out.p.reads 3
  have lp := H.out.p.lt
  have m0 : w3.cell? ⟨w.heap.size, 0, none⟩ = some (.int .i64 m.a.m) := H.out.m.reads 0
  have m1 : w3.cell? ⟨w.heap.size, 1, none⟩ = some (.int .i64 m.a.s) := H.out.m.reads 1
  have m4 : w3.cell? ⟨w.heap.size, 4, none⟩ = some (.int .i64 m.c.m) := H.out.m.reads 4
  have m5 : w3.cell? ⟨w.heap.size, 5, none⟩ = some (.int .i64 m.c.s) := H.out.m.reads 5
  have m8 : w3.cell? ⟨w.heap.size, 8, none⟩ = some (.int .i64 m.e.m) := H.out.m.reads 8
  have m9 : w3.cell? ⟨w.heap.size, 9, none⟩ = some (.int .i64 m.e.s) := H.out.m.reads 9
  have lm := H.out.m.lt
  go_wp2_with fail
  refine (tied_any m.a p.x m.c p.y m.e x ex _ G.out.1.1.1 G.out.1.2.1 G.out.1.1.2.2.1 G.out.1.2.2 G.out.1.1.2.2.2.2.1 G.out.2.1).mono ?_
  rintro e w4 ⟨x', oka, rfl, hx, kk⟩
  have H4 := Lib.hid (H.out.here kk)
  have HX := Lib.hid hx
  clear kk hx p0 p1 p2 p3 lp m0 m1 m4 m5 m8 m9 lm
  have p0 : w4.cell? ⟨w.heap.size + 1, 0, none⟩ = some (.int .i64 p.x.m) := H4.out.p.reads 0
  have p1 : w4.cell? ⟨w.heap.size + 1, 1, none⟩ = some (.int .i64 p.x.s) := H4.out.p.reads 1
  have p2 : w4.cell? ⟨w.heap.size + 1, 2, none⟩ = some (.int .i64 p.y.m) := H4.out.p.reads 2
  have p3 : w4.cell? ⟨w.heap.size + 1, 3, none⟩ = some (.int .i64 p.y.s) := H4.out.p.reads 3
  have lp := H4.out.p.lt
  have m2 : w4.cell? ⟨w.heap.size, 2, none⟩ = some (.int .i64 m.b.m) := H4.out.m.reads 2
  have m3 : w4.cell? ⟨w.heap.size, 3, none⟩ = some (.int .i64 m.b.s) := H4.out.m.reads 3
  have m6 : w4.cell? ⟨w.heap.size, 6, none⟩ = some (.int .i64 m.d.m) := H4.out.m.reads 6
  have m7 : w4.cell? ⟨w.heap.size, 7, none⟩ = some (.int .i64 m.d.s) := H4.out.m.reads 7
  have m10 : w4.cell? ⟨w.heap.size, 10, none⟩ = some (.int .i64 m.f.m) := H4.out.m.reads 10
  have m11 : w4.cell? ⟨w.heap.size, 11, none⟩ = some (.int .i64 m.f.s) := H4.out.m.reads 11
  have lm := H4.out.m.lt
  go_wp2_with fail
  refine (tied_any m.b p.x m.d p.y m.f y ey _ G.out.1.1.2.1 G.out.1.2.1 G.out.1.1.2.2.2.1 G.out.1.2.2 G.out.1.1.2.2.2.2.2 G.out.2.2).mono ?_
  rintro e w5 ⟨y', okb, rfl, hy, kk⟩
  have hX : Whole w5 w4.heap.size 23 #[.int .i64 x'.m, .int .i64 x'.s] := (Whole.made w4 23 #[.int .i64 x'.m, .int .i64 x'.s]).here kk
  have H5 := (H4.out.old (.cells #[.int .i64 x'.m, .int .i64 x'.s] 23)).here kk
  have HY := Lib.hid hy
  clear kk hy p0 p1 p2 p3 lp m2 m3 m6 m7 m10 m11 lm H H4
  have x0 : w5.cell? ⟨w4.heap.size, 0, none⟩ = some (.int .i64 x'.m) := hX.reads 0
  have x1 : w5.cell? ⟨w4.heap.size, 1, none⟩ = some (.int .i64 x'.s) := hX.reads 1
  have lx := hX.lt
  have r0 : w5.cell? ⟨w.heap.size + 1 + 1, 0, none⟩ = some (.int .i64 0) := H5.r.reads 0
  have r1 : w5.cell? ⟨w.heap.size + 1 + 1, 1, none⟩ = some (.int .i64 0) := H5.r.reads 1
  have r2 : w5.cell? ⟨w.heap.size + 1 + 1, 2, none⟩ = some (.int .i64 0) := H5.r.reads 2
  have r3 : w5.cell? ⟨w.heap.size + 1 + 1, 3, none⟩ = some (.int .i64 0) := H5.r.reads 3
  have z0 := H5.r.thawed 0
  have z1 := H5.r.thawed 1
  have z2 := H5.r.thawed 2
  have z3 := H5.r.thawed 3
  have lr := H5.r.lt
  have fA := H5.put (.int .i64 x'.m) (.int .i64 x'.s) (.int .i64 y'.m) (.int .i64 y'.s)
  have FA := Lib.hid (fA.alloc fA.size (.cells #[.int .i64 y'.m, .int .i64 y'.s] 23))
  have qA0 : (((((w5.setCell ⟨w.heap.size + 1 + 1, 0, none⟩ (.int .i64 x'.m)).setCell ⟨w.heap.size + 1 + 1, 1, none⟩ (.int .i64 x'.s)).setCell ⟨w.heap.size + 1 + 1, 2, none⟩ (.int .i64 y'.m)).setCell ⟨w.heap.size + 1 + 1, 3, none⟩ (.int .i64 y'.s))).cell? ⟨w.heap.size + 1 + 1, 0, none⟩ = some (.int .i64 x'.m) := by simp [go_sem, r0]
  have qA1 : (((((w5.setCell ⟨w.heap.size + 1 + 1, 0, none⟩ (.int .i64 x'.m)).setCell ⟨w.heap.size + 1 + 1, 1, none⟩ (.int .i64 x'.s)).setCell ⟨w.heap.size + 1 + 1, 2, none⟩ (.int .i64 y'.m)).setCell ⟨w.heap.size + 1 + 1, 3, none⟩ (.int .i64 y'.s))).cell? ⟨w.heap.size + 1 + 1, 1, none⟩ = some (.int .i64 x'.s) := by simp [go_sem, r1]
  have qA2 : (((((w5.setCell ⟨w.heap.size + 1 + 1, 0, none⟩ (.int .i64 x'.m)).setCell ⟨w.heap.size + 1 + 1, 1, none⟩ (.int .i64 x'.s)).setCell ⟨w.heap.size + 1 + 1, 2, none⟩ (.int .i64 y'.m)).setCell ⟨w.heap.size + 1 + 1, 3, none⟩ (.int .i64 y'.s))).cell? ⟨w.heap.size + 1 + 1, 2, none⟩ = some (.int .i64 y'.m) := by simp [go_sem, r2]
  have qA3 : (((((w5.setCell ⟨w.heap.size + 1 + 1, 0, none⟩ (.int .i64 x'.m)).setCell ⟨w.heap.size + 1 + 1, 1, none⟩ (.int .i64 x'.s)).setCell ⟨w.heap.size + 1 + 1, 2, none⟩ (.int .i64 y'.m)).setCell ⟨w.heap.size + 1 + 1, 3, none⟩ (.int .i64 y'.s))).cell? ⟨w.heap.size + 1 + 1, 3, none⟩ = some (.int .i64 y'.s) := by simp [go_sem, r3]
  have QA := Lib.hid (And.intro ((World.cell?_alloc_lt _ (.cells #[.int .i64 y'.m, .int .i64 y'.s] 23) _ (World.block_lt_of_cell? _ _ qA0)).trans qA0) (And.intro ((World.cell?_alloc_lt _ (.cells #[.int .i64 y'.m, .int .i64 y'.s] 23) _ (World.block_lt_of_cell? _ _ qA1)).trans qA1) (And.intro ((World.cell?_alloc_lt _ (.cells #[.int .i64 y'.m, .int .i64 y'.s] 23) _ (World.block_lt_of_cell? _ _ qA2)).trans qA2) ((World.cell?_alloc_lt _ (.cells #[.int .i64 y'.m, .int .i64 y'.s] 23) _ (World.block_lt_of_cell? _ _ qA3)).trans qA3))))
  clear fA qA0 qA1 qA2 qA3
  have fB := H5.put (.int .i64 0) (.int .i64 0) (.int .i64 0) (.int .i64 0)
  have FB := Lib.hid (fB.alloc fB.size (.cells #[.int .i64 y'.m, .int .i64 y'.s] 23))
  have qB0 : (((((w5.setCell ⟨w.heap.size + 1 + 1, 0, none⟩ (.int .i64 0)).setCell ⟨w.heap.size + 1 + 1, 1, none⟩ (.int .i64 0)).setCell ⟨w.heap.size + 1 + 1, 2, none⟩ (.int .i64 0)).setCell ⟨w.heap.size + 1 + 1, 3, none⟩ (.int .i64 0))).cell? ⟨w.heap.size + 1 + 1, 0, none⟩ = some (.int .i64 0) := by simp [go_sem, r0]
  have qB1 : (((((w5.setCell ⟨w.heap.size + 1 + 1, 0, none⟩ (.int .i64 0)).setCell ⟨w.heap.size + 1 + 1, 1, none⟩ (.int .i64 0)).setCell ⟨w.heap.size + 1 + 1, 2, none⟩ (.int .i64 0)).setCell ⟨w.heap.size + 1 + 1, 3, none⟩ (.int .i64 0))).cell? ⟨w.heap.size + 1 + 1, 1, none⟩ = some (.int .i64 0) := by simp [go_sem, r1]
  have qB2 : (((((w5.setCell ⟨w.heap.size + 1 + 1, 0, none⟩ (.int .i64 0)).setCell ⟨w.heap.size + 1 + 1, 1, none⟩ (.int .i64 0)).setCell ⟨w.heap.size + 1 + 1, 2, none⟩ (.int .i64 0)).setCell ⟨w.heap.size + 1 + 1, 3, none⟩ (.int .i64 0))).cell? ⟨w.heap.size + 1 + 1, 2, none⟩ = some (.int .i64 0) := by simp [go_sem, r2]
  have qB3 : (((((w5.setCell ⟨w.heap.size + 1 + 1, 0, none⟩ (.int .i64 0)).setCell ⟨w.heap.size + 1 + 1, 1, none⟩ (.int .i64 0)).setCell ⟨w.heap.size + 1 + 1, 2, none⟩ (.int .i64 0)).setCell ⟨w.heap.size + 1 + 1, 3, none⟩ (.int .i64 0))).cell? ⟨w.heap.size + 1 + 1, 3, none⟩ = some (.int .i64 0) := by simp [go_sem, r3]
  have QB := Lib.hid (And.intro ((World.cell?_alloc_lt _ (.cells #[.int .i64 y'.m, .int .i64 y'.s] 23) _ (World.block_lt_of_cell? _ _ qB0)).trans qB0) (And.intro ((World.cell?_alloc_lt _ (.cells #[.int .i64 y'.m, .int .i64 y'.s] 23) _ (World.block_lt_of_cell? _ _ qB1)).trans qB1) (And.intro ((World.cell?_alloc_lt _ (.cells #[.int .i64 y'.m, .int .i64 y'.s] 23) _ (World.block_lt_of_cell? _ _ qB2)).trans qB2) ((World.cell?_alloc_lt _ (.cells #[.int .i64 y'.m, .int .i64 y'.s] 23) _ (World.block_lt_of_cell? _ _ qB3)).trans qB3))))
  clear fB qB0 qB1 qB2 qB3
  clear H5 hX
  have hxx := HX.out
  have hyy := HY.out
  clear HX HY G
  rcases hxx with ⟨rfl, rfl, rfl⟩ | ⟨rfl, rfl⟩ <;> rcases hyy with ⟨rfl, rfl, rfl⟩ | ⟨rfl, rfl⟩
  all_goals go_wp2_with fail
  all_goals first
    | exact bodyPost_ret (v := .tuple #[.agg #[.int .i64 x'.m, .int .i64 x'.s, .int .i64 y'.m, .int .i64 y'.s], .int .i64 0]) (by simp [results, Try.results6, go_sem, QA.out.1, QA.out.2.1, QA.out.2.2.1, QA.out.2.2.2]) rfl ⟨rfl, FA.out⟩
    | exact bodyPost_ret (v := .tuple #[.agg #[.int .i64 0, .int .i64 0, .int .i64 0, .int .i64 0], .int .i64 5]) (by simp [results, Try.results6, go_sem, QB.out.1, QB.out.2.1, QB.out.2.2.1, QB.out.2.2.2]) rfl ⟨rfl, FB.out⟩
end Go.Proofs.Ytpdjooeogpidhaa
/- The reference's Map at any arguments; blocks that are known cell for cell. -/
namespace Go.Proofs.Ytpdjooeogpidhaa
open Go.RowKit Dec

theorem refmap_any (m : MV) (p r : PV) (E : Int) (w : World) (h : MapIs m p r E) :
    Calls Try.prog 6 #[m.val, p.val] w (IsP r E w) := by
  rcases h with ⟨hm, hp, x, y, ex, ey, hx, hy, h⟩ | ⟨h, rfl, rfl⟩
  · refine (refmap_ok m p x y ex ey w hm hp hx hy).mono fun e w' ⟨he, hb⟩ => ⟨?_, hb⟩
    rcases h with ⟨h1, rfl, rfl⟩ | ⟨h1, h2, rfl, rfl⟩ | ⟨h1, h2, rfl, rfl⟩
    · rcases he with ⟨k, _, _⟩ | ⟨_, rfl⟩
      · omega
      · rfl
    · rcases he with ⟨_, k, _⟩ | ⟨_, rfl⟩
      · omega
      · rfl
    · rcases he with ⟨_, _, rfl⟩ | ⟨k, _⟩
      · rfl
      · omega
  · exact (refmap_bad m p w h).mono fun e w' ⟨he, hb⟩ => ⟨he, hb⟩
/-- Blocks that are known cell for cell. -/
def Ws (w W : World) (L : List (Nat × TypeId × Array Value)) : Prop := Below w.heap.size w W ∧ ∀ x ∈ L, Whole W x.1 x.2.1 x.2.2
theorem Ws.start (w : World) : Ws w w [] := ⟨Below.refl _ _, fun x hx => by cases hx⟩
theorem Ws.here {w W W' : World} {L : List (Nat × TypeId × Array Value)} (h : Ws w W L) (hb : Below W.heap.size W W') : Ws w W' L :=
  ⟨h.1.trans (hb.mono h.1.size), fun x hx => (h.2 x hx).here hb⟩
theorem Ws.add {w W : World} {L : List (Nat × TypeId × Array Value)} (h : Ws w W L) (T : TypeId) (cs : Array Value) : Ws w (W.alloc (.cells cs T)) ((W.heap.size, T, cs) :: L) :=
  ⟨h.1.alloc h.1.size _, fun x hx => by
    rcases List.mem_cons.1 hx with rfl | hx
    · exact Whole.made _ _ _
    · exact (h.2 x hx).old _⟩
theorem Ws.drew {w W : World} {L : List (Nat × TypeId × Array Value)} (h : Ws w W L) : Ws w W.drew L := ⟨h.1.drew, fun x hx => (h.2 x hx).here (Below.refl _ _).drew⟩
theorem Ws.get {w W : World} {L : List (Nat × TypeId × Array Value)} (h : Ws w W L) {x : Nat × TypeId × Array Value} (hx : x ∈ L) : Whole W x.1 x.2.1 x.2.2 := h.2 x hx
end Go.Proofs.Ytpdjooeogpidhaa
