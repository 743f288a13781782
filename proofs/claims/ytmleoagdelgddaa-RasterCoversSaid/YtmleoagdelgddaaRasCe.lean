/- raster's reference: times, sum, corner. Written by gen_ca.py. -/
import Derived.Test.YtmleoagdelgddaaRefMul
import Derived.Test.YtmleoagdelgddaaRasMb
import Derived.Test.YtmleoagdelgddaaRasMa
namespace Go.Proofs.Ytmleoagdelgddaa
open Go.RowKit Dec

def IsR (r : DV) (E : Int) (w : World) (e : Ending) (w' : World) : Prop := e = .returned (.tuple #[.agg #[.int .i64 r.m, .int .i64 r.s], .int .i64 E]) ∧ Below w.heap.size w w'
theorem refmul_tells (a b r : DV) (E : Int) (w : World) (ha : a.Ok) (hb : b.Ok) (h : Tells (a.v * b.v) 18 r E) :
    Calls Try.prog 63 #[.agg #[.int .i64 a.m, .int .i64 a.s], .agg #[.int .i64 b.m, .int .i64 b.s]] w (IsR r E w) := by
  obtain ⟨am, s⟩ := a
  obtain ⟨bm, s'⟩ := b
  obtain ⟨k, rfl⟩ : ∃ n : Nat, s = n := ⟨s.toNat, by have := ha.2.2.1; simp only at this; omega⟩
  obtain ⟨k', rfl⟩ : ∃ n : Nat, s' = n := ⟨s'.toNat, by have := hb.2.2.1; simp only at this; omega⟩
  refine (refmul_ok am bm k k' w ha hb).mono ?_
  rintro e w' ⟨M, S, E', he, hd, hb⟩
  obtain ⟨rfl, rfl, rfl⟩ := Denotes.unique hd h
  exact ⟨he, hb⟩
theorem refadd_tells (a b r : DV) (E : Int) (w : World) (ha : a.Ok) (hb : b.Ok) (h : Tells (a.v + b.v) 9 r E) :
    Calls Try.prog 80 #[.agg #[.int .i64 a.m, .int .i64 a.s], .agg #[.int .i64 b.m, .int .i64 b.s]] w (IsR r E w) := by
  obtain ⟨am, s⟩ := a
  obtain ⟨bm, s'⟩ := b
  obtain ⟨k, rfl⟩ : ∃ n : Nat, s = n := ⟨s.toNat, by have := ha.2.2.1; simp only at this; omega⟩
  obtain ⟨k', rfl⟩ : ∃ n : Nat, s' = n := ⟨s'.toNat, by have := hb.2.2.1; simp only at this; omega⟩
  refine (refadd_ok am bm k k' w ha hb).mono ?_
  rintro e w' ⟨M, S, E', he, hd, hb⟩
  obtain ⟨rfl, rfl, rfl⟩ := Denotes.unique hd h
  exact ⟨he, hb⟩
theorem ret_db {fn : Func} {a : Act} {Q : Ending → World → Prop} {W : World} {g : Nat} {T : TypeId} {cs : Array Value} {b : Bool} (hW : Whole W g T cs)
    (hr : ∀ V : World, Whole V g T cs → (results fn a.tmps).run Try.prog V = .ok (.tuple #[.agg cs, .bool b]) V) (hd : a.defers = []) (hQ : Q (.returned (.tuple #[.agg cs, .bool b])) W) : bodyPost Try.prog fn Q .ret a W :=
  bodyPost_ret (hr W hW) hd hQ
theorem two_below {w v : World} {g : Nat} (h : Below w.heap.size w v) (hg : w.heap.size ≤ g) (a b : Value) : Below w.heap.size w ((v.setCell ⟨g, 0, none⟩ a).setCell ⟨g, 1, none⟩ b) := (h.setCell (p := ⟨g, 0, none⟩) hg a).setCell (p := ⟨g, 1, none⟩) hg b
theorem dc_facts {v : World} {g : Nat} {a b : Value} (h : Whole v g 40 #[a, b]) : v.cell? ⟨g, 0, none⟩ = some a ∧ v.cell? ⟨g, 1, none⟩ = some b ∧ v.frozen? ⟨g, 0, none⟩ = false ∧ v.frozen? ⟨g, 1, none⟩ = false ∧ g < v.heap.size := ⟨h.reads 0, h.reads 1, h.thawed 0, h.thawed 1, h.lt⟩
/-- What times answers. -/
def TimesIs (a : DV) (n : Int) (w : World) (e : Ending) (w' : World) : Prop := e = .returned (.tuple #[.agg #[.int .i64 (tm a n).1.m, .int .i64 (tm a n).1.s], .bool ((tm a n).2 == 0)]) ∧ Below w.heap.size w w'
set_option maxRecDepth 100000 in
set_option maxHeartbeats 4000000 in
theorem rtimes_any (a : DV) (n : Int) (w : World) (ha : a.Ok) (hn : (DV.mk n 0).Ok) :
    Calls Try.prog 43 #[.agg #[.int .i64 a.m, .int .i64 a.s], .int .i64 n] w (TimesIs a n w) := by
  have HM := Lib.hid (fun w => refmul_tells a ⟨n, 0⟩ (tm a n).1 (tm a n).2 w ha hn (tm_is a n))
  unfold TimesIs
  obtain ⟨⟨r, E⟩, hr⟩ : ∃ z, tm a n = z := ⟨_, rfl⟩
  rw [hr] at HM ⊢
  have hO := Whole.made (w.alloc (.cells #[.int .i64 a.m, .int .i64 a.s] 40)) 40 #[.int .i64 0, .int .i64 0]
  simp only [World.size_alloc] at hO
  have H0 := Lib.hid (And.intro hO (((Below.refl w.heap.size w).alloc (Nat.le_refl _) (.cells #[.int .i64 a.m, .int .i64 a.s] 40)).alloc (by simp) (.cells #[.int .i64 0, .int .i64 0] 40)))
  clear hr ha hn hO
  dsimp only
  obtain ⟨z, hz⟩ : ∃ z, (E == 0) = z := ⟨_, rfl⟩
  rw [hz]
  go_enter Try.func43, Try.ntmps43
  go_wp2_with fail
  refine (HM.out _).mono ?_
  rintro e w1 ⟨rfl, hb⟩
  have HO := Lib.hid (H0.out.1.here hb)
  have HB := Lib.hid (H0.out.2.trans (hb.mono H0.out.2.size))
  obtain ⟨o0, o1, o2, o3, o4⟩ := dc_facts (H0.out.1.here hb)
  clear hb
  go_wp2_with fail
  refine ret_db (b := z) (g := w.heap.size + 1) ((two_set HO.out).old _) (fun V hV => by have rv := hV.reads; simp [results, Try.results43, go_sem, rv]) rfl ?_
  exact ⟨rfl, (two_below HB.out (by omega) _ _).alloc (two_below HB.out (by omega) _ _).size _⟩
/-- Is a sum of three products told? -/
noncomputable def sumB (a : DV) (n : Int) (b : DV) (m : Int) (c : DV) (k : Int) : Bool :=
  (((((tm a n).2 == 0) && ((tm b m).2 == 0)) && ((tm c k).2 == 0)) && ((ad (tm a n).1 (tm b m).1).2 == 0)) && ((ad (ad (tm a n).1 (tm b m).1).1 (tm c k).1).2 == 0)
theorem su_1 (a b c : DV) : (su a b c).1 = (ad (ad a b).1 c).1 ∧ (su a b c).2 = kp (ad a b).2 (ad (ad a b).1 c).2 := ⟨rfl, rfl⟩
def SumIs3 (a : DV) (n : Int) (b : DV) (m : Int) (c : DV) (k : Int) (w : World) (e : Ending) (w' : World) : Prop := e = .returned (.tuple #[.agg #[.int .i64 (su (tm a n).1 (tm b m).1 (tm c k).1).1.m, .int .i64 (su (tm a n).1 (tm b m).1 (tm c k).1).1.s], .bool (sumB a n b m c k)]) ∧ Below w.heap.size w w'
theorem tri_dec (w : World) (a b c : DV) : Whole ((((w.alloc (.cells #[.int .i64 a.m, .int .i64 a.s] 40)).alloc (.cells #[.int .i64 b.m, .int .i64 b.s] 40)).alloc (.cells #[.int .i64 c.m, .int .i64 c.s] 40)).alloc (.cells #[.int .i64 0, .int .i64 0] 40)) w.heap.size 40 #[.int .i64 a.m, .int .i64 a.s] ∧ Whole ((((w.alloc (.cells #[.int .i64 a.m, .int .i64 a.s] 40)).alloc (.cells #[.int .i64 b.m, .int .i64 b.s] 40)).alloc (.cells #[.int .i64 c.m, .int .i64 c.s] 40)).alloc (.cells #[.int .i64 0, .int .i64 0] 40)) (w.heap.size + 1) 40 #[.int .i64 b.m, .int .i64 b.s] ∧ Whole ((((w.alloc (.cells #[.int .i64 a.m, .int .i64 a.s] 40)).alloc (.cells #[.int .i64 b.m, .int .i64 b.s] 40)).alloc (.cells #[.int .i64 c.m, .int .i64 c.s] 40)).alloc (.cells #[.int .i64 0, .int .i64 0] 40)) (w.heap.size + 1 + 1) 40 #[.int .i64 c.m, .int .i64 c.s] ∧ Whole ((((w.alloc (.cells #[.int .i64 a.m, .int .i64 a.s] 40)).alloc (.cells #[.int .i64 b.m, .int .i64 b.s] 40)).alloc (.cells #[.int .i64 c.m, .int .i64 c.s] 40)).alloc (.cells #[.int .i64 0, .int .i64 0] 40)) (w.heap.size + 1 + 1 + 1) 40 #[.int .i64 0, .int .i64 0] ∧
    Below w.heap.size w ((((w.alloc (.cells #[.int .i64 a.m, .int .i64 a.s] 40)).alloc (.cells #[.int .i64 b.m, .int .i64 b.s] 40)).alloc (.cells #[.int .i64 c.m, .int .i64 c.s] 40)).alloc (.cells #[.int .i64 0, .int .i64 0] 40)) := by
  have h1 := Whole.made (w.alloc (.cells #[.int .i64 a.m, .int .i64 a.s] 40)) 40 #[.int .i64 b.m, .int .i64 b.s]
  have h2 := Whole.made ((w.alloc (.cells #[.int .i64 a.m, .int .i64 a.s] 40)).alloc (.cells #[.int .i64 b.m, .int .i64 b.s] 40)) 40 #[.int .i64 c.m, .int .i64 c.s]
  have h3 := Whole.made (((w.alloc (.cells #[.int .i64 a.m, .int .i64 a.s] 40)).alloc (.cells #[.int .i64 b.m, .int .i64 b.s] 40)).alloc (.cells #[.int .i64 c.m, .int .i64 c.s] 40)) 40 #[.int .i64 0, .int .i64 0]
  simp only [World.size_alloc] at h1 h2 h3
  exact ⟨(((Whole.made w _ _).old _).old _).old _, (h1.old _).old _, h2.old _, h3, ((((Below.refl _ _).alloc (Nat.le_refl _) _).alloc (by simp) _).alloc (by simp; omega) _).alloc (by simp; omega) _⟩
set_option maxRecDepth 100000 in
set_option maxHeartbeats 8000000 in
theorem r22sum_any (a : DV) (n : Int) (b : DV) (m : Int) (c : DV) (k : Int) (w : World) (ha : a.Ok) (hn : (DV.mk n 0).Ok) (hb : b.Ok) (hm : (DV.mk m 0).Ok) (hc : c.Ok) (hk : (DV.mk k 0).Ok) :
    Calls Try.prog 64 #[.agg #[.int .i64 a.m, .int .i64 a.s], .int .i64 n, .agg #[.int .i64 b.m, .int .i64 b.s], .int .i64 m, .agg #[.int .i64 c.m, .int .i64 c.s], .int .i64 k] w (SumIs3 a n b m c k w) := by
  have T0 := Lib.hid (fun w => rtimes_any a n w ha hn)
  have T1 := Lib.hid (fun w => rtimes_any b m w hb hm)
  have T2 := Lib.hid (fun w => rtimes_any c k w hc hk)
  have A0 := Lib.hid (fun w => refadd_tells (tm a n).1 (tm b m).1 _ _ w (tm_ok a n) (tm_ok b m) (ad_is _ _))
  have A1 := Lib.hid (fun w => refadd_tells (ad (tm a n).1 (tm b m).1).1 (tm c k).1 _ _ w (ad_ok _ _) (tm_ok c k) (ad_is _ _))
  unfold SumIs3 sumB
  rw [(su_1 _ _ _).1]
  unfold TimesIs at T0 T1 T2
  obtain ⟨h1, h2, h3, h4, h5⟩ := tri_dec w a b c
  have H0 := Lib.hid (And.intro h1 (And.intro h2 (And.intro h3 h4)))
  have HB0 := Lib.hid h5
  clear h1 h2 h3 h4 h5 ha hn hb hm hc hk
  obtain ⟨⟨x, e0⟩, q0⟩ : ∃ z, tm a n = z := ⟨_, rfl⟩
  obtain ⟨⟨y, e1⟩, q1⟩ : ∃ z, tm b m = z := ⟨_, rfl⟩
  obtain ⟨⟨z, e2⟩, q2⟩ : ∃ z, tm c k = z := ⟨_, rfl⟩
  rw [q0] at T0 A0 A1 ⊢
  rw [q1] at T1 A0 A1 ⊢
  rw [q2] at T2 A1 ⊢
  dsimp only at T0 T1 T2 A0 A1 ⊢
  obtain ⟨⟨s, e3⟩, q3⟩ : ∃ o, ad x y = o := ⟨_, rfl⟩
  rw [q3] at A0 A1 ⊢
  dsimp only at A0 A1 ⊢
  obtain ⟨⟨t, e4⟩, q4⟩ : ∃ o, ad s z = o := ⟨_, rfl⟩
  rw [q4] at A1 ⊢
  dsimp only at A1 ⊢
  clear q0 q1 q2 q3 q4
  obtain ⟨f0, g0⟩ : ∃ z, (e0 == 0) = z := ⟨_, rfl⟩
  obtain ⟨f1, g1⟩ : ∃ z, (e1 == 0) = z := ⟨_, rfl⟩
  obtain ⟨f2, g2⟩ : ∃ z, (e2 == 0) = z := ⟨_, rfl⟩
  obtain ⟨f3, g3⟩ : ∃ z, (e3 == 0) = z := ⟨_, rfl⟩
  obtain ⟨f4, g4⟩ : ∃ z, (e4 == 0) = z := ⟨_, rfl⟩
  rw [g0] at T0 ⊢
  rw [g1] at T1 ⊢
  rw [g2] at T2 ⊢
  rw [g3, g4]
  have H0x := H0
  go_enter Try.func64, Try.ntmps64
  go_wp2_with fail
  refine (T0.out _).mono ?_
  rintro e v1 ⟨rfl, hb⟩
  have K1_0 := Lib.hid ((H0.out.1.here hb).old (.cells #[.int .i64 x.m, .int .i64 x.s] 40))
  have K1_1 := Lib.hid ((H0.out.2.1.here hb).old (.cells #[.int .i64 x.m, .int .i64 x.s] 40))
  have K1_2 := Lib.hid ((H0.out.2.2.1.here hb).old (.cells #[.int .i64 x.m, .int .i64 x.s] 40))
  have K1_3 := Lib.hid ((H0.out.2.2.2.here hb).old (.cells #[.int .i64 x.m, .int .i64 x.s] 40))
  have K1_4 := Lib.hid (Whole.made v1 40 #[.int .i64 x.m, .int .i64 x.s])
  have HB1 := Lib.hid ((HB0.out.trans (hb.mono HB0.out.size)).alloc (HB0.out.trans (hb.mono HB0.out.size)).size (.cells #[.int .i64 x.m, .int .i64 x.s] 40))
  have c1_0 := dc_facts (H0.out.1.here hb)
  obtain ⟨p1_0a, p1_0b, p1_0c, p1_0d, p1_0e⟩ := c1_0
  have c1_1 := dc_facts (H0.out.2.1.here hb)
  obtain ⟨p1_1a, p1_1b, p1_1c, p1_1d, p1_1e⟩ := c1_1
  have c1_2 := dc_facts (H0.out.2.2.1.here hb)
  obtain ⟨p1_2a, p1_2b, p1_2c, p1_2d, p1_2e⟩ := c1_2
  have c1_3 := dc_facts (H0.out.2.2.2.here hb)
  obtain ⟨p1_3a, p1_3b, p1_3c, p1_3d, p1_3e⟩ := c1_3
  clear hb
  go_wp2_with fail
  refine (T1.out _).mono ?_
  rintro e v2 ⟨rfl, hb⟩
  clear p1_0a p1_0b p1_0c p1_0d p1_0e p1_1a p1_1b p1_1c p1_1d p1_1e p1_2a p1_2b p1_2c p1_2d p1_2e p1_3a p1_3b p1_3c p1_3d p1_3e
  have K2_0 := Lib.hid ((K1_0.out.here hb).old (.cells #[.int .i64 y.m, .int .i64 y.s] 40))
  have K2_1 := Lib.hid ((K1_1.out.here hb).old (.cells #[.int .i64 y.m, .int .i64 y.s] 40))
  have K2_2 := Lib.hid ((K1_2.out.here hb).old (.cells #[.int .i64 y.m, .int .i64 y.s] 40))
  have K2_3 := Lib.hid ((K1_3.out.here hb).old (.cells #[.int .i64 y.m, .int .i64 y.s] 40))
  have K2_4 := Lib.hid ((K1_4.out.here hb).old (.cells #[.int .i64 y.m, .int .i64 y.s] 40))
  have K2_5 := Lib.hid (Whole.made v2 40 #[.int .i64 y.m, .int .i64 y.s])
  have HB2 := Lib.hid ((HB1.out.trans (hb.mono HB1.out.size)).alloc (HB1.out.trans (hb.mono HB1.out.size)).size (.cells #[.int .i64 y.m, .int .i64 y.s] 40))
  obtain ⟨p2_0a, p2_0b, p2_0c, p2_0d, p2_0e⟩ := dc_facts (K1_0.out.here hb)
  obtain ⟨p2_1a, p2_1b, p2_1c, p2_1d, p2_1e⟩ := dc_facts (K1_1.out.here hb)
  obtain ⟨p2_2a, p2_2b, p2_2c, p2_2d, p2_2e⟩ := dc_facts (K1_2.out.here hb)
  obtain ⟨p2_3a, p2_3b, p2_3c, p2_3d, p2_3e⟩ := dc_facts (K1_3.out.here hb)
  obtain ⟨p2_4a, p2_4b, p2_4c, p2_4d, p2_4e⟩ := dc_facts (K1_4.out.here hb)
  clear hb
  go_wp2_with fail
  refine (T2.out _).mono ?_
  rintro e v3 ⟨rfl, hb⟩
  clear p2_0a p2_0b p2_0c p2_0d p2_0e p2_1a p2_1b p2_1c p2_1d p2_1e p2_2a p2_2b p2_2c p2_2d p2_2e p2_3a p2_3b p2_3c p2_3d p2_3e p2_4a p2_4b p2_4c p2_4d p2_4e
  have K3_0 := Lib.hid ((K2_0.out.here hb).old (.cells #[.int .i64 z.m, .int .i64 z.s] 40))
  have K3_1 := Lib.hid ((K2_1.out.here hb).old (.cells #[.int .i64 z.m, .int .i64 z.s] 40))
  have K3_2 := Lib.hid ((K2_2.out.here hb).old (.cells #[.int .i64 z.m, .int .i64 z.s] 40))
  have K3_3 := Lib.hid ((K2_3.out.here hb).old (.cells #[.int .i64 z.m, .int .i64 z.s] 40))
  have K3_4 := Lib.hid ((K2_4.out.here hb).old (.cells #[.int .i64 z.m, .int .i64 z.s] 40))
  have K3_5 := Lib.hid ((K2_5.out.here hb).old (.cells #[.int .i64 z.m, .int .i64 z.s] 40))
  have K3_6 := Lib.hid (Whole.made v3 40 #[.int .i64 z.m, .int .i64 z.s])
  have HB3 := Lib.hid ((HB2.out.trans (hb.mono HB2.out.size)).alloc (HB2.out.trans (hb.mono HB2.out.size)).size (.cells #[.int .i64 z.m, .int .i64 z.s] 40))
  obtain ⟨p3_0a, p3_0b, p3_0c, p3_0d, p3_0e⟩ := dc_facts (K2_0.out.here hb)
  obtain ⟨p3_1a, p3_1b, p3_1c, p3_1d, p3_1e⟩ := dc_facts (K2_1.out.here hb)
  obtain ⟨p3_2a, p3_2b, p3_2c, p3_2d, p3_2e⟩ := dc_facts (K2_2.out.here hb)
  obtain ⟨p3_3a, p3_3b, p3_3c, p3_3d, p3_3e⟩ := dc_facts (K2_3.out.here hb)
  obtain ⟨p3_4a, p3_4b, p3_4c, p3_4d, p3_4e⟩ := dc_facts (K2_4.out.here hb)
  obtain ⟨p3_5a, p3_5b, p3_5c, p3_5d, p3_5e⟩ := dc_facts (K2_5.out.here hb)
  clear hb
  go_wp2_with fail
  refine (A0.out _).mono ?_
  rintro e v4 ⟨rfl, hb⟩
  clear p3_0a p3_0b p3_0c p3_0d p3_0e p3_1a p3_1b p3_1c p3_1d p3_1e p3_2a p3_2b p3_2c p3_2d p3_2e p3_3a p3_3b p3_3c p3_3d p3_3e p3_4a p3_4b p3_4c p3_4d p3_4e p3_5a p3_5b p3_5c p3_5d p3_5e
  have K4_0 := Lib.hid ((K3_0.out.here hb).old (.cells #[.int .i64 s.m, .int .i64 s.s] 40))
  have K4_1 := Lib.hid ((K3_1.out.here hb).old (.cells #[.int .i64 s.m, .int .i64 s.s] 40))
  have K4_2 := Lib.hid ((K3_2.out.here hb).old (.cells #[.int .i64 s.m, .int .i64 s.s] 40))
  have K4_3 := Lib.hid ((K3_3.out.here hb).old (.cells #[.int .i64 s.m, .int .i64 s.s] 40))
  have K4_4 := Lib.hid ((K3_4.out.here hb).old (.cells #[.int .i64 s.m, .int .i64 s.s] 40))
  have K4_5 := Lib.hid ((K3_5.out.here hb).old (.cells #[.int .i64 s.m, .int .i64 s.s] 40))
  have K4_6 := Lib.hid ((K3_6.out.here hb).old (.cells #[.int .i64 s.m, .int .i64 s.s] 40))
  have K4_7 := Lib.hid (Whole.made v4 40 #[.int .i64 s.m, .int .i64 s.s])
  have HB4 := Lib.hid ((HB3.out.trans (hb.mono HB3.out.size)).alloc (HB3.out.trans (hb.mono HB3.out.size)).size (.cells #[.int .i64 s.m, .int .i64 s.s] 40))
  obtain ⟨p4_0a, p4_0b, p4_0c, p4_0d, p4_0e⟩ := dc_facts (K3_0.out.here hb)
  obtain ⟨p4_1a, p4_1b, p4_1c, p4_1d, p4_1e⟩ := dc_facts (K3_1.out.here hb)
  obtain ⟨p4_2a, p4_2b, p4_2c, p4_2d, p4_2e⟩ := dc_facts (K3_2.out.here hb)
  obtain ⟨p4_3a, p4_3b, p4_3c, p4_3d, p4_3e⟩ := dc_facts (K3_3.out.here hb)
  obtain ⟨p4_4a, p4_4b, p4_4c, p4_4d, p4_4e⟩ := dc_facts (K3_4.out.here hb)
  obtain ⟨p4_5a, p4_5b, p4_5c, p4_5d, p4_5e⟩ := dc_facts (K3_5.out.here hb)
  obtain ⟨p4_6a, p4_6b, p4_6c, p4_6d, p4_6e⟩ := dc_facts (K3_6.out.here hb)
  clear hb
  go_wp2_with fail
  refine (A1.out _).mono ?_
  rintro e v5 ⟨rfl, hb⟩
  clear p4_0a p4_0b p4_0c p4_0d p4_0e p4_1a p4_1b p4_1c p4_1d p4_1e p4_2a p4_2b p4_2c p4_2d p4_2e p4_3a p4_3b p4_3c p4_3d p4_3e p4_4a p4_4b p4_4c p4_4d p4_4e p4_5a p4_5b p4_5c p4_5d p4_5e p4_6a p4_6b p4_6c p4_6d p4_6e
  have K5_0 := Lib.hid ((K4_0.out.here hb).old (.cells #[.int .i64 t.m, .int .i64 t.s] 40))
  have K5_1 := Lib.hid ((K4_1.out.here hb).old (.cells #[.int .i64 t.m, .int .i64 t.s] 40))
  have K5_2 := Lib.hid ((K4_2.out.here hb).old (.cells #[.int .i64 t.m, .int .i64 t.s] 40))
  have K5_3 := Lib.hid ((K4_3.out.here hb).old (.cells #[.int .i64 t.m, .int .i64 t.s] 40))
  have K5_4 := Lib.hid ((K4_4.out.here hb).old (.cells #[.int .i64 t.m, .int .i64 t.s] 40))
  have K5_5 := Lib.hid ((K4_5.out.here hb).old (.cells #[.int .i64 t.m, .int .i64 t.s] 40))
  have K5_6 := Lib.hid ((K4_6.out.here hb).old (.cells #[.int .i64 t.m, .int .i64 t.s] 40))
  have K5_7 := Lib.hid ((K4_7.out.here hb).old (.cells #[.int .i64 t.m, .int .i64 t.s] 40))
  have K5_8 := Lib.hid (Whole.made v5 40 #[.int .i64 t.m, .int .i64 t.s])
  have HB5 := Lib.hid ((HB4.out.trans (hb.mono HB4.out.size)).alloc (HB4.out.trans (hb.mono HB4.out.size)).size (.cells #[.int .i64 t.m, .int .i64 t.s] 40))
  obtain ⟨p5_0a, p5_0b, p5_0c, p5_0d, p5_0e⟩ := dc_facts (K4_0.out.here hb)
  obtain ⟨p5_1a, p5_1b, p5_1c, p5_1d, p5_1e⟩ := dc_facts (K4_1.out.here hb)
  obtain ⟨p5_2a, p5_2b, p5_2c, p5_2d, p5_2e⟩ := dc_facts (K4_2.out.here hb)
  obtain ⟨p5_3a, p5_3b, p5_3c, p5_3d, p5_3e⟩ := dc_facts (K4_3.out.here hb)
  obtain ⟨p5_4a, p5_4b, p5_4c, p5_4d, p5_4e⟩ := dc_facts (K4_4.out.here hb)
  obtain ⟨p5_5a, p5_5b, p5_5c, p5_5d, p5_5e⟩ := dc_facts (K4_5.out.here hb)
  obtain ⟨p5_6a, p5_6b, p5_6c, p5_6d, p5_6e⟩ := dc_facts (K4_6.out.here hb)
  obtain ⟨p5_7a, p5_7b, p5_7c, p5_7d, p5_7e⟩ := dc_facts (K4_7.out.here hb)
  have J5 := Lib.hid (K4_3.out.here hb)
  have HJ5 := Lib.hid (HB4.out.trans (hb.mono HB4.out.size))
  clear hb
  cases f0
  · go_wp2_with fail
    refine ret_db (b := false) (g := w.heap.size + 1 + 1 + 1) ((two_set J5.out).old _) (fun V hV => by have rv := hV.reads; simp [results, Try.results64, go_sem, rv]) rfl ?_
    exact ⟨rfl, (two_below HJ5.out (by omega) _ _).alloc (two_below HJ5.out (by omega) _ _).size _⟩
  cases f1
  · go_wp2_with fail
    refine ret_db (b := false) (g := w.heap.size + 1 + 1 + 1) ((two_set J5.out).old _) (fun V hV => by have rv := hV.reads; simp [results, Try.results64, go_sem, rv]) rfl ?_
    exact ⟨rfl, (two_below HJ5.out (by omega) _ _).alloc (two_below HJ5.out (by omega) _ _).size _⟩
  cases f2
  · go_wp2_with fail
    refine ret_db (b := false) (g := w.heap.size + 1 + 1 + 1) ((two_set J5.out).old _) (fun V hV => by have rv := hV.reads; simp [results, Try.results64, go_sem, rv]) rfl ?_
    exact ⟨rfl, (two_below HJ5.out (by omega) _ _).alloc (two_below HJ5.out (by omega) _ _).size _⟩
  cases f3
  · go_wp2_with fail
    refine ret_db (b := false) (g := w.heap.size + 1 + 1 + 1) ((two_set J5.out).old _) (fun V hV => by have rv := hV.reads; simp [results, Try.results64, go_sem, rv]) rfl ?_
    exact ⟨rfl, (two_below HJ5.out (by omega) _ _).alloc (two_below HJ5.out (by omega) _ _).size _⟩
  cases f4
  · go_wp2_with fail
    refine ret_db (b := false) (g := w.heap.size + 1 + 1 + 1) ((two_set J5.out).old _) (fun V hV => by have rv := hV.reads; simp [results, Try.results64, go_sem, rv]) rfl ?_
    exact ⟨rfl, (two_below HJ5.out (by omega) _ _).alloc (two_below HJ5.out (by omega) _ _).size _⟩
  · go_wp2_with fail
    refine ret_db (b := true) (g := w.heap.size + 1 + 1 + 1) ((two_set J5.out).old _) (fun V hV => by have rv := hV.reads; simp [results, Try.results64, go_sem, rv]) rfl ?_
    exact ⟨rfl, (two_below HJ5.out (by omega) _ _).alloc (two_below HJ5.out (by omega) _ _).size _⟩
end Go.Proofs.Ytmleoagdelgddaa
/- raster's reference: corner. Written by gen_cc.py. -/
namespace Go.Proofs.Ytmleoagdelgddaa
open Go.RowKit Dec

theorem mcells {v : World} {g : Nat} {m : MV} (h : Whole v g 42 #[.int .i64 m.a.m, .int .i64 m.a.s, .int .i64 m.b.m, .int .i64 m.b.s, .int .i64 m.c.m, .int .i64 m.c.s, .int .i64 m.d.m, .int .i64 m.d.s, .int .i64 m.e.m, .int .i64 m.e.s, .int .i64 m.f.m, .int .i64 m.f.s]) : v.cell? ⟨g, 0, none⟩ = some (.int .i64 m.a.m) ∧ v.cell? ⟨g, 1, none⟩ = some (.int .i64 m.a.s) ∧ v.cell? ⟨g, 2, none⟩ = some (.int .i64 m.b.m) ∧ v.cell? ⟨g, 3, none⟩ = some (.int .i64 m.b.s) ∧ v.cell? ⟨g, 4, none⟩ = some (.int .i64 m.c.m) ∧ v.cell? ⟨g, 5, none⟩ = some (.int .i64 m.c.s) ∧ v.cell? ⟨g, 6, none⟩ = some (.int .i64 m.d.m) ∧ v.cell? ⟨g, 7, none⟩ = some (.int .i64 m.d.s) ∧ v.cell? ⟨g, 8, none⟩ = some (.int .i64 m.e.m) ∧ v.cell? ⟨g, 9, none⟩ = some (.int .i64 m.e.s) ∧ v.cell? ⟨g, 10, none⟩ = some (.int .i64 m.f.m) ∧ v.cell? ⟨g, 11, none⟩ = some (.int .i64 m.f.s) := ⟨h.reads 0, h.reads 1, h.reads 2, h.reads 3, h.reads 4, h.reads 5, h.reads 6, h.reads 7, h.reads 8, h.reads 9, h.reads 10, h.reads 11⟩
theorem four_below {w v : World} {g : Nat} (h : Below w.heap.size w v) (hg : w.heap.size ≤ g) (a b c d : Value) : Below w.heap.size w ((((v.setCell ⟨g, 0, none⟩ a).setCell ⟨g, 1, none⟩ b).setCell ⟨g, 2, none⟩ c).setCell ⟨g, 3, none⟩ d) :=
  (((h.setCell (p := ⟨g, 0, none⟩) hg a).setCell (p := ⟨g, 1, none⟩) hg b).setCell (p := ⟨g, 2, none⟩) hg c).setCell (p := ⟨g, 3, none⟩) hg d
/-- Is a corner told? -/
noncomputable def cB (m : MV) (X Z z x : Nat) : Bool := sumB m.a ((x * Z : Nat) : Int) m.c ((z * X : Nat) : Int) m.e ((X * Z : Nat) : Int) && sumB m.b ((x * Z : Nat) : Int) m.d ((z * X : Nat) : Int) m.f ((X * Z : Nat) : Int)
def CornIs (m : MV) (X Z z x : Nat) (w : World) (e : Ending) (w' : World) : Prop := e = .returned (.tuple #[.agg #[.int .i64 (ptX m X Z z x).1.m, .int .i64 (ptX m X Z z x).1.s, .int .i64 (ptY m X Z z x).1.m, .int .i64 (ptY m X Z z x).1.s], .bool (cB m X Z z x)]) ∧ Below w.heap.size w w'
set_option maxRecDepth 100000 in
set_option maxHeartbeats 8000000 in
theorem rcorner_any (m : MV) (X Z x z : Nat) (w : World) (hm : m.Ok) (h1 : x * Z ≤ 1000000) (h2 : z * X ≤ 1000000) (h3 : X * Z ≤ 1000000) :
    Calls Try.prog 44 #[.agg #[.int .i64 m.a.m, .int .i64 m.a.s, .int .i64 m.b.m, .int .i64 m.b.s, .int .i64 m.c.m, .int .i64 m.c.s, .int .i64 m.d.m, .int .i64 m.d.s, .int .i64 m.e.m, .int .i64 m.e.s, .int .i64 m.f.m, .int .i64 m.f.s], .int .i64 (X : Int), .int .i64 (Z : Int), .int .i64 (x : Int), .int .i64 (z : Int)] w (CornIs m X Z z x w) := by
  have S0 := Lib.hid (fun w => r22sum_any m.a ((x * Z : Nat) : Int) m.c ((z * X : Nat) : Int) m.e ((X * Z : Nat) : Int) w hm.1 (nat_ok _ (by omega)) hm.2.2.1 (nat_ok _ (by omega)) hm.2.2.2.2.1 (nat_ok _ (by omega)))
  have S1 := Lib.hid (fun w => r22sum_any m.b ((x * Z : Nat) : Int) m.d ((z * X : Nat) : Int) m.f ((X * Z : Nat) : Int) w hm.2.1 (nat_ok _ (by omega)) hm.2.2.2.1 (nat_ok _ (by omega)) hm.2.2.2.2.2 (nat_ok _ (by omega)))
  unfold CornIs
  have hp : ptX m X Z z x = su (tm m.a ((x * Z : Nat) : Int)).1 (tm m.c ((z * X : Nat) : Int)).1 (tm m.e ((X * Z : Nat) : Int)).1 := rfl
  have hq : ptY m X Z z x = su (tm m.b ((x * Z : Nat) : Int)).1 (tm m.d ((z * X : Nat) : Int)).1 (tm m.f ((X * Z : Nat) : Int)).1 := rfl
  have hc : cB m X Z z x = (sumB m.a ((x * Z : Nat) : Int) m.c ((z * X : Nat) : Int) m.e ((X * Z : Nat) : Int) && sumB m.b ((x * Z : Nat) : Int) m.d ((z * X : Nat) : Int) m.f ((X * Z : Nat) : Int)) := rfl
  unfold SumIs3 at S0 S1
  rw [← hp] at S0
  rw [← hq] at S1
  rw [hc]
  clear hp hq hc
  obtain ⟨p, hp⟩ : ∃ p, (ptX m X Z z x).1 = p := ⟨_, rfl⟩
  obtain ⟨q, hq⟩ : ∃ p, (ptY m X Z z x).1 = p := ⟨_, rfl⟩
  rw [hp] at S0 ⊢
  rw [hq] at S1 ⊢
  obtain ⟨b0, hb0⟩ : ∃ b, sumB m.a ((x * Z : Nat) : Int) m.c ((z * X : Nat) : Int) m.e ((X * Z : Nat) : Int) = b := ⟨_, rfl⟩
  obtain ⟨b1, hb1⟩ : ∃ b, sumB m.b ((x * Z : Nat) : Int) m.d ((z * X : Nat) : Int) m.f ((X * Z : Nat) : Int) = b := ⟨_, rfl⟩
  rw [hb0] at S0 ⊢
  rw [hb1] at S1 ⊢
  obtain ⟨u, hu⟩ : ∃ u, x * Z = u := ⟨_, rfl⟩
  obtain ⟨v, hv⟩ : ∃ v, z * X = v := ⟨_, rfl⟩
  obtain ⟨n, hn⟩ : ∃ n, X * Z = n := ⟨_, rfl⟩
  have w1 : IntKind.i64.wrap ((x : Int) * (Z : Int)) = (u : Int) := by rw [← Int.natCast_mul, hu, IntKind.wrap_i64]; omega
  have w2 : IntKind.i64.wrap ((z : Int) * (X : Int)) = (v : Int) := by rw [← Int.natCast_mul, hv, IntKind.wrap_i64]; omega
  have w3 : IntKind.i64.wrap ((X : Int) * (Z : Int)) = (n : Int) := by rw [← Int.natCast_mul, hn, IntKind.wrap_i64]; omega
  rw [hu, hv, hn] at S0 S1
  have hO := Whole.made (w.alloc (.cells #[.int .i64 m.a.m, .int .i64 m.a.s, .int .i64 m.b.m, .int .i64 m.b.s, .int .i64 m.c.m, .int .i64 m.c.s, .int .i64 m.d.m, .int .i64 m.d.s, .int .i64 m.e.m, .int .i64 m.e.s, .int .i64 m.f.m, .int .i64 m.f.s] 42)) 78 #[.int .i64 0, .int .i64 0, .int .i64 0, .int .i64 0]
  simp only [World.size_alloc] at hO
  have H0 := Lib.hid (And.intro ((Whole.made w 42 #[.int .i64 m.a.m, .int .i64 m.a.s, .int .i64 m.b.m, .int .i64 m.b.s, .int .i64 m.c.m, .int .i64 m.c.s, .int .i64 m.d.m, .int .i64 m.d.s, .int .i64 m.e.m, .int .i64 m.e.s, .int .i64 m.f.m, .int .i64 m.f.s]).old (.cells #[.int .i64 0, .int .i64 0, .int .i64 0, .int .i64 0] 78)) (And.intro hO (((Below.refl w.heap.size w).alloc (Nat.le_refl _) (.cells #[.int .i64 m.a.m, .int .i64 m.a.s, .int .i64 m.b.m, .int .i64 m.b.s, .int .i64 m.c.m, .int .i64 m.c.s, .int .i64 m.d.m, .int .i64 m.d.s, .int .i64 m.e.m, .int .i64 m.e.s, .int .i64 m.f.m, .int .i64 m.f.s] 42)).alloc (by simp) (.cells #[.int .i64 0, .int .i64 0, .int .i64 0, .int .i64 0] 78))))
  clear hp hq hb0 hb1 hu hv hn h1 h2 h3 hm hO
  have m0 := H0.out.1.reads
  have lm := H0.out.1.lt
  go_enter Try.func44, Try.ntmps44
  obtain ⟨c0, c1, c2, c3, c4, c5, c6, c7, c8, c9, c10, c11⟩ := mcells H0.out.1
  clear m0
  go_wp2_with fail
  refine (S0.out _).mono ?_
  rintro e v1 ⟨rfl, hb⟩
  have hM := (H0.out.1.here hb).old (.cells #[.int .i64 p.m, .int .i64 p.s] 40)
  have hbb := H0.out.2.2.trans (hb.mono H0.out.2.2.size)
  have H1 := Lib.hid (And.intro hM (And.intro ((H0.out.2.1.here hb).old (.cells #[.int .i64 p.m, .int .i64 p.s] 40)) (And.intro (Whole.made v1 40 #[.int .i64 p.m, .int .i64 p.s]) (hbb.alloc hbb.size (.cells #[.int .i64 p.m, .int .i64 p.s] 40)))))
  clear c0 c1 c2 c3 c4 c5 c6 c7 c8 c9 c10 c11 lm
  obtain ⟨c0, c1, c2, c3, c4, c5, c6, c7, c8, c9, c10, c11⟩ := mcells (H0.out.1.here hb)
  have lm := (H0.out.1.here hb).lt
  clear hM hbb hb
  go_wp2_with fail
  refine (S1.out _).mono ?_
  rintro e v2 ⟨rfl, hb⟩
  clear c0 c1 c2 c3 c4 c5 c6 c7 c8 c9 c10 c11 lm
  have hbb := H1.out.2.2.2.trans (hb.mono H1.out.2.2.2.size)
  have HO := Lib.hid (H1.out.2.1.here hb)
  have HB := Lib.hid hbb
  obtain ⟨k0, k1, k2, k3, k4⟩ := dc_facts (H1.out.2.2.1.here hb)
  obtain ⟨o0, o1, o2, o3, o4, o5, o6, o7, o8⟩ := four_facts (H1.out.2.1.here hb) rfl rfl rfl rfl
  clear hb hbb
  cases b0
  · go_wp2_with fail
    refine ret_db (b := false) (g := w.heap.size + 1) ((four_set HO.out).old _) (fun V hV => by have rv := hV.reads; simp [results, Try.results44, go_sem, rv]) rfl ?_
    exact ⟨rfl, (four_below HB.out (by omega) _ _ _ _).alloc (four_below HB.out (by omega) _ _ _ _).size _⟩
  · go_wp2_with fail
    refine ret_db (b := b1) (g := w.heap.size + 1) ((four_set HO.out).old _) (fun V hV => by have rv := hV.reads; simp [results, Try.results44, go_sem, rv]) rfl ?_
    exact ⟨rfl, (four_below HB.out (by omega) _ _ _ _).alloc (four_below HB.out (by omega) _ _ _ _).size _⟩
end Go.Proofs.Ytmleoagdelgddaa
/- raster: all, and none: what a matrix without turn covers. -/
namespace Go.Proofs.Ytmleoagdelgddaa
open Go.RowKit Dec

/-- A box of points is a box. -/
theorem ofN_bx (f : Nat → PV) (n : Nat) (hn : 0 < n) (h : ∀ i < n, (f i).Ok) : (ofN f n).Ok := by
  obtain ⟨⟨o0, o1, o2, o3⟩, hle, -⟩ := ofN_ok f n hn h
  have := hle 0 hn
  exact ⟨leB_iff.2 ⟨o0, o2, by omega⟩, leB_iff.2 ⟨o1, o3, by omega⟩⟩
theorem meets_pt {f : Nat → PV} {n : Nat} {b : BV} (h : ∀ i < n, (f i).Ok) (hb : b.Ok) {i : Nat} (hi : i < n) (h0 : b.x0.v ≤ (f i).x.v) (h1 : (f i).x.v ≤ b.x1.v) (h2 : b.y0.v ≤ (f i).y.v) (h3 : (f i).y.v ≤ b.y1.v) : meetsB (ofN f n) b = true := by
  have hok := ofN_bx f n (by omega) h
  obtain ⟨-, hle, -⟩ := ofN_ok f n (by omega) h
  have := hle i hi
  unfold meetsB
  rw [decide_eq_true ⟨hok, hb⟩, Bool.true_and]
  have hx := leB_iff.1 hb.1
  have hy := leB_iff.1 hb.2
  have kx := leB_iff.1 hok.1
  have ky := leB_iff.1 hok.2
  unfold meetB
  rw [leB_iff.2 ⟨kx.1, hx.2.1, by omega⟩, leB_iff.2 ⟨hx.1, kx.2.1, by omega⟩, leB_iff.2 ⟨ky.1, hy.2.1, by omega⟩, leB_iff.2 ⟨hy.1, ky.2.1, by omega⟩]
  rfl
theorem meets_not {f : Nat → PV} {n : Nat} {b : BV} (hn : 0 < n) (h : ∀ i < n, (f i).Ok ∧ (f i).x.v < b.x0.v) : meetsB (ofN f n) b = false := by
  obtain ⟨-, -, -, -, ⟨i, hi, e⟩, -⟩ := ofN_ok f n hn (fun i hi => (h i hi).1)
  unfold meetsB meetB
  have : leB b.x0 (ofN f n).x1 = false := leB_not.2 (fun k => by
    have := (h i hi).2
    rw [e] at k
    omega)
  rw [this, Bool.and_false, Bool.false_and, Bool.and_false]
theorem crn_in {m : MV} {X Z j i : Nat} (hX1 : 1 ≤ X) (hj : j < X * Z) (hi : i < 4) : ∃ k < (Z + 1) * (X + 1), crn (pF m X Z) X (j % X) (Z - 1 - j / X) i = pF m X Z k := by
  have hx : j % X < X := Nat.mod_lt _ hX1
  have hz : j / X < Z := (Nat.div_lt_iff_lt_mul hX1).2 (by rw [Nat.mul_comm]; exact hj)
  obtain ⟨u, hu⟩ : ∃ u, j % X = u := ⟨_, rfl⟩
  obtain ⟨q, hq⟩ : ∃ q, j / X = q := ⟨_, rfl⟩
  obtain ⟨z, hz2⟩ : ∃ z, Z - 1 - q = z := ⟨_, rfl⟩
  rw [hu] at hx ⊢
  rw [hq] at hz ⊢
  rw [hz2]
  have hzZ : z + 1 ≤ Z := by omega
  have h1 : (z + 1) * (X + 1) ≤ Z * (X + 1) := Nat.mul_le_mul_right _ hzZ
  have h2 : (Z + 1) * (X + 1) = Z * (X + 1) + (X + 1) := Nat.succ_mul ..
  have h3 : (z + 1) * (X + 1) = z * (X + 1) + (X + 1) := Nat.succ_mul ..
  rcases (by omega : i = 0 ∨ i = 1 ∨ i = 2 ∨ i = 3) with rfl | rfl | rfl | rfl
  · exact ⟨_, by omega, rfl⟩
  · exact ⟨_, by omega, rfl⟩
  · exact ⟨_, by omega, rfl⟩
  · exact ⟨_, by omega, rfl⟩
theorem bm_wh {X Z : Nat} (hX : X ≤ 20) (hZ : Z ≤ 20) {p q r s : Int} (hp : p.natAbs ≤ 2010) (hq : q.natAbs ≤ 2010) (hr : r.natAbs ≤ 2010) (hs : s.natAbs ≤ 2010) :
    bm ⟨wh p, wh q, wh r, wh s⟩ ((X * Z : Nat) : Int) = ⟨wh (p * ((X * Z : Nat) : Int)), wh (q * ((X * Z : Nat) : Int)), wh (r * ((X * Z : Nat) : Int)), wh (s * ((X * Z : Nat) : Int))⟩ ∧ be ⟨wh p, wh q, wh r, wh s⟩ ((X * Z : Nat) : Int) = 0 := by
  have hN : X * Z ≤ 20 * 20 := Nat.mul_le_mul hX hZ
  obtain ⟨N, hN2⟩ : ∃ N, X * Z = N := ⟨_, rfl⟩
  rw [hN2] at hN ⊢
  have key : ∀ k : Int, k.natAbs ≤ 2010 → tm (wh k) (N : Int) = (wh (k * (N : Int)), 0) := fun k hk => by
    have : (k * (N : Int)).natAbs ≤ 2010 * 400 := by rw [Int.natAbs_mul, Int.natAbs_natCast]; exact Nat.mul_le_mul hk hN
    exact tm_wh (by omega) (by omega)
  refine ⟨by simp only [bm, key p hp, key q hq, key r hr, key s hs], ?_⟩
  simp only [be, key p hp, key q hq, key r hr, key s hs]
  rfl
section
variable {m : MV} {a d x : Int} {X Z : Nat} (h : Small m a 0 0 d x x) (hX : X ≤ 20) (hZ : Z ≤ 20) (hX1 : 1 ≤ X) (hZ1 : 1 ≤ Z) (ha : 1 ≤ a) (hd : 1 ≤ d)
include h hX hZ hX1 hZ1
include ha hd
theorem pF_bounds {i : Nat} (hi : i < (Z + 1) * (X + 1)) : x * ((X * Z : Nat) : Int) * 1000000000 ≤ (pF m X Z i).x.v ∧ (pF m X Z i).x.v ≤ (x + a) * ((X * Z : Nat) : Int) * 1000000000 ∧ x * ((X * Z : Nat) : Int) * 1000000000 ≤ (pF m X Z i).y.v ∧ (pF m X Z i).y.v ≤ (x + d) * ((X * Z : Nat) : Int) * 1000000000 := by
  have hx : i % (X + 1) ≤ X := by have := Nat.mod_lt i (show 0 < X + 1 by omega); omega
  have hz : i / (X + 1) ≤ Z := by have := (Nat.div_lt_iff_lt_mul (show 0 < X + 1 by omega)).2 hi; omega
  have e := pF_wh h (by omega) (by omega) hx hz
  rw [show i / (X + 1) * (X + 1) + i % (X + 1) = i from Nat.div_add_mod' i (X + 1)] at e
  rw [e]
  obtain ⟨u, hu⟩ : ∃ u, i % (X + 1) = u := ⟨_, rfl⟩
  obtain ⟨v, hv⟩ : ∃ v, i / (X + 1) = v := ⟨_, rfl⟩
  rw [hu] at hx ⊢
  rw [hv] at hz ⊢
  simp only [wh_v]
  have h1 : u * Z ≤ X * Z := Nat.mul_le_mul_right _ hx
  have h2 : v * X ≤ X * Z := by rw [Nat.mul_comm X Z]; exact Nat.mul_le_mul_right _ hz
  obtain ⟨N, hN⟩ : ∃ N, X * Z = N := ⟨_, rfl⟩
  obtain ⟨p, hp⟩ : ∃ p, u * Z = p := ⟨_, rfl⟩
  obtain ⟨q, hq⟩ : ∃ q, v * X = q := ⟨_, rfl⟩
  rw [hN, hp] at h1
  rw [hN, hq] at h2
  rw [hN, hp, hq]
  have k0 : 0 ≤ a * (p : Int) := Int.mul_nonneg (by omega) (by omega)
  have k1 : a * (p : Int) ≤ a * (N : Int) := Int.mul_le_mul_of_nonneg_left (by omega) (by omega)
  have k2 : 0 ≤ d * (q : Int) := Int.mul_nonneg (by omega) (by omega)
  have k3 : d * (q : Int) ≤ d * (N : Int) := Int.mul_le_mul_of_nonneg_left (by omega) (by omega)
  have e1 : (x + a) * (N : Int) = x * (N : Int) + a * (N : Int) := Int.add_mul ..
  have e2 : (x + d) * (N : Int) = x * (N : Int) + d * (N : Int) := Int.add_mul ..
  rw [e1, e2, Int.zero_mul, Int.zero_mul]
  omega
omit ha hd in
theorem nm_small : x.natAbs ≤ 1000 ∧ a.natAbs ≤ 1000 ∧ d.natAbs ≤ 1000 ∧ 0 < ((X * Z : Nat) : Int) ∧ ((X * Z : Nat) : Int) ≤ 400 := by
  have hN : X * Z ≤ 20 * 20 := Nat.mul_le_mul hX hZ
  have h0 : 0 < X * Z := Nat.mul_pos (by omega) (by omega)
  exact ⟨h.e, h.a, h.d, by omega, by omega⟩
theorem all_cov {j : Nat} (hj : j < X * Z) : cov (pF m X Z) ((Z + 1) * (X + 1)) X Z [bm ⟨wh x, wh x, wh (x + a), wh (x + d)⟩ ((X * Z : Nat) : Int)] j = true := by
  obtain ⟨s1, s2, s3, s4, s5⟩ := nm_small h hX hZ hX1 hZ1
  rw [(bm_wh hX hZ (by omega) (by omega) (by omega) (by omega)).1]
  have hb : ∀ i, i < (Z + 1) * (X + 1) → _ := fun i hi => pF_bounds h hX hZ hX1 hZ1 ha hd hi
  obtain ⟨k, hk, e⟩ := crn_in (m := m) (Z := Z) hX1 hj (show 0 < 4 by omega)
  have hN : ∀ c : Int, c.natAbs ≤ 2010 → (c * ((X * Z : Nat) : Int)).natAbs ≤ 2010 * 400 := fun c hc => by rw [Int.natAbs_mul]; exact Nat.mul_le_mul hc (by omega)
  have w1 := hN x (by omega)
  have w2 := hN (x + a) (by omega)
  have w3 := hN (x + d) (by omega)
  have l1 : x * ((X * Z : Nat) : Int) ≤ (x + a) * ((X * Z : Nat) : Int) := Int.mul_le_mul_of_nonneg_right (by omega) (by omega)
  have l2 : x * ((X * Z : Nat) : Int) ≤ (x + d) * ((X * Z : Nat) : Int) := Int.mul_le_mul_of_nonneg_right (by omega) (by omega)
  generalize ((X * Z : Nat) : Int) = N at *
  have hok : (⟨wh (x * N), wh (x * N), wh ((x + a) * N), wh ((x + d) * N)⟩ : BV).Ok :=
    ⟨leB_iff.2 ⟨wh_ok (by omega) (by omega), wh_ok (by omega) (by omega), by simp only [wh_v]; omega⟩, leB_iff.2 ⟨wh_ok (by omega) (by omega), wh_ok (by omega) (by omega), by simp only [wh_v]; omega⟩⟩
  unfold cov nearL
  rw [List.filter_cons_of_pos (by
    have := hb 0 (show 0 < (Z + 1) * (X + 1) from Nat.mul_pos (by omega) (by omega))
    exact meets_pt (fun i _ => pF_ok m X Z i) hok (Nat.mul_pos (by omega) (by omega)) (by simp only [wh_v]; exact this.1) (by simp only [wh_v]; exact this.2.1) (by simp only [wh_v]; exact this.2.2.1) (by simp only [wh_v]; exact this.2.2.2))]
  rw [List.any_cons]
  have := hb k hk
  rw [← e] at this
  rw [meets_pt (f := crn (pF m X Z) X (j % X) (Z - 1 - j / X)) (n := 4) (i := 0) (fun i hi => by
    obtain ⟨k, _, e⟩ := crn_in (m := m) (Z := Z) hX1 hj hi
    rw [e]
    exact pF_ok m X Z k) hok (by omega) (by simp only [wh_v]; exact this.1) (by simp only [wh_v]; exact this.2.1) (by simp only [wh_v]; exact this.2.2.1) (by simp only [wh_v]; exact this.2.2.2)]
  rfl
theorem none_cov {j : Nat} : cov (pF m X Z) ((Z + 1) * (X + 1)) X Z [bm ⟨wh (x + a + 1), wh x, wh (x + a + 2), wh (x + d)⟩ ((X * Z : Nat) : Int)] j = false := by
  obtain ⟨s1, s2, s3, s4, s5⟩ := nm_small h hX hZ hX1 hZ1
  rw [(bm_wh hX hZ (by omega) (by omega) (by omega) (by omega)).1]
  have hb : ∀ i, i < (Z + 1) * (X + 1) → _ := fun i hi => pF_bounds h hX hZ hX1 hZ1 ha hd hi
  have l1 : (x + a) * ((X * Z : Nat) : Int) < (x + a + 1) * ((X * Z : Nat) : Int) := Int.mul_lt_mul_of_pos_right (by omega) (by omega)
  generalize ((X * Z : Nat) : Int) = N at *
  unfold cov nearL
  rw [List.filter_cons_of_neg (by
    rw [meets_not (Nat.mul_pos (by omega) (by omega)) (fun i hi => ⟨pF_ok m X Z i, by
      have := (hb i hi).2.1
      simp only [wh_v]
      omega⟩)]
    decide)]
  rfl
theorem all_covE : covE m (X : Int) (Z : Int) [⟨wh x, wh x, wh (x + a), wh (x + d)⟩] = 0 ∧ covE m (X : Int) (Z : Int) [⟨wh (x + a + 1), wh x, wh (x + a + 2), wh (x + d)⟩] = 0 := by
  obtain ⟨s1, s2, s3, s4, s5⟩ := nm_small h hX hZ hX1 hZ1
  have hsz : sizeB (X : Int) (Z : Int) = true := by
    unfold sizeB
    rw [decide_eq_true (by omega), decide_eq_true (by omega), decide_eq_true]
    · rfl
    · rw [Int.le_ediv_iff_mul_le (by omega), ← Int.natCast_mul]; omega
  have hm : m.Ok := by
    rw [h.eq]
    exact ⟨wh_ok (by omega) (by omega), wh_ok (by omega) (by omega), wh_ok (by omega) (by omega), wh_ok (by omega) (by omega), wh_ok (by omega) (by omega), wh_ok (by omega) (by omega)⟩
  have b1 : (⟨wh x, wh x, wh (x + a), wh (x + d)⟩ : BV).Ok := ⟨leB_iff.2 ⟨wh_ok (by omega) (by omega), wh_ok (by omega) (by omega), by simp only [wh_v]; omega⟩, leB_iff.2 ⟨wh_ok (by omega) (by omega), wh_ok (by omega) (by omega), by simp only [wh_v]; omega⟩⟩
  have b2 : (⟨wh (x + a + 1), wh x, wh (x + a + 2), wh (x + d)⟩ : BV).Ok := ⟨leB_iff.2 ⟨wh_ok (by omega) (by omega), wh_ok (by omega) (by omega), by simp only [wh_v]; omega⟩, leB_iff.2 ⟨wh_ok (by omega) (by omega), wh_ok (by omega) (by omega), by simp only [wh_v]; omega⟩⟩
  have g := gridE_wh h (show X ≤ 100 by omega) (show Z ≤ 99 by omega)
  have key : ∀ b : BV, b.Ok → be b ((X * Z : Nat) : Int) = 0 → covE m (X : Int) (Z : Int) [b] = 0 := fun b hb e => by
    unfold covE
    rw [if_pos ⟨hsz, hm, fun q hq => by simp at hq; subst hq; exact hb⟩]
    show kp (gridE m X Z) (kp 0 (be b ((X * Z : Nat) : Int))) = 0
    rw [g, e]
    rfl
  exact ⟨key _ b1 (bm_wh hX hZ (by omega) (by omega) (by omega) (by omega)).2, key _ b2 (bm_wh hX hZ (by omega) (by omega) (by omega) (by omega)).2⟩
end
end Go.Proofs.Ytmleoagdelgddaa
/- raster's reference: what is told, and which pixels are covered: pure. -/
namespace Go.Proofs.Ytmleoagdelgddaa
open Go.RowKit Dec

theorem e05 (d : DV) (n : Int) : (tm d n).2 = 0 ∨ (tm d n).2 = 5 := (tm_is d n).ok.2
theorem a05 (a b : DV) : (ad a b).2 = 0 ∨ (ad a b).2 = 5 := (ad_is a b).ok.2
theorem k05 {a b : Int} (ha : a = 0 ∨ a = 5) (hb : b = 0 ∨ b = 5) : kp a b = 0 ∨ kp a b = 5 := by
  unfold kp
  split
  · exact hb
  · exact ha
theorem kp_iff {a b : Int} : kp a b = 0 ↔ a = 0 ∧ b = 0 := ⟨kp_zero, fun h => by unfold kp; rw [if_pos h.1]; exact h.2⟩
theorem be05 (b : BV) (n : Int) : be b n = 0 ∨ be b n = 5 := k05 (k05 (k05 (e05 _ _) (e05 _ _)) (e05 _ _)) (e05 _ _)
theorem bE05 (l : List BV) (N : Int) : bE l N = 0 ∨ bE l N = 5 := by
  have : ∀ (l : List BV) (e : Int), (e = 0 ∨ e = 5) → (l.foldl (fun e b => kp e (be b N)) e = 0 ∨ l.foldl (fun e b => kp e (be b N)) e = 5) := by
    intro l
    induction l with
    | nil => exact fun e h => h
    | cons b l ih => exact fun e h => ih _ (k05 h (be05 b N))
  exact this l 0 (.inl rfl)
theorem s05 (a b c : DV) : (su a b c).2 = 0 ∨ (su a b c).2 = 5 := k05 (a05 _ _) (a05 _ _)
theorem pE05 (m : MV) (X Z z x : Nat) : pE m X Z z x = 0 ∨ pE m X Z z x = 5 := k05 (k05 (k05 (e05 _ _) (s05 _ _ _)) (e05 _ _)) (s05 _ _ _)
theorem rE05 (m : MV) (X Z z : Nat) : ∀ x, rE m X Z z x = 0 ∨ rE m X Z z x = 5
  | 0 => .inl rfl
  | x + 1 => k05 (rE05 m X Z z x) (pE05 m X Z z x)
theorem gE05 (m : MV) (X Z : Nat) : ∀ z, gE m X Z z = 0 ∨ gE m X Z z = 5
  | 0 => .inl rfl
  | z + 1 => k05 (gE05 m X Z z) (k05 (k05 (e05 _ _) (e05 _ _)) (rE05 m X Z z _))
theorem gridE05 (m : MV) (X Z : Nat) : gridE m X Z = 0 ∨ gridE m X Z = 5 := k05 (k05 (e05 _ _) (e05 _ _)) (gE05 m X Z _)
/-- Are the regions' numbers told? -/
noncomputable def rT (l : List BV) (N : Int) : Bool := l.all fun b => be b N == 0
theorem rT_iff (l : List BV) (N : Int) : rT l N = true ↔ bE l N = 0 := by
  have key : ∀ (l : List BV) (e : Int), (l.foldl (fun e b => kp e (be b N)) e = 0 ↔ e = 0 ∧ (l.all fun b => be b N == 0) = true) := by
    intro l
    induction l with
    | nil => intro e; simp
    | cons b l ih =>
      intro e
      rw [List.foldl_cons, ih, kp_iff, List.all_cons, Bool.and_eq_true]
      simp only [beq_iff_eq]
      exact ⟨fun h => ⟨h.1.1, h.1.2, h.2⟩, fun h => ⟨⟨h.1, h.2.1⟩, h.2.2⟩⟩
  unfold rT bE
  rw [key]
  simp
theorem rT_step {l : List BV} {N : Int} {k : Nat} {b : BV} (h : l[k]? = some b) : rT (l.take (k + 1)) N = (rT (l.take k) N && (be b N == 0)) := by
  unfold rT
  rw [List.take_add_one, h, List.all_append]
  simp
theorem be_flag (b : BV) (N : Int) : (be b N == 0) = (((((tm b.x0 N).2 == 0) && ((tm b.y0 N).2 == 0)) && ((tm b.x1 N).2 == 0)) && ((tm b.y1 N).2 == 0)) := by
  rw [Bool.eq_iff_iff]
  simp only [Bool.and_eq_true, beq_iff_eq]
  unfold be
  rw [kp_iff, kp_iff, kp_iff]
/-- Are the first n corners told? -/
noncomputable def gT (m : MV) (X Z n : Nat) : Bool := (List.range n).all fun i => cB m X Z (i / (X + 1)) (i % (X + 1))
theorem gT_step (m : MV) (X Z z x : Nat) (hx : x ≤ X) : gT m X Z (z * (X + 1) + x + 1) = (gT m X Z (z * (X + 1) + x) && cB m X Z z x) := by
  unfold gT
  rw [List.range_succ, List.all_append]
  have h1 : (z * (X + 1) + x) / (X + 1) = z := by rw [Nat.mul_comm, Nat.mul_add_div (by omega), Nat.div_eq_of_lt (by omega)]; omega
  have h2 : (z * (X + 1) + x) % (X + 1) = x := by rw [Nat.mul_comm, Nat.mul_add_mod, Nat.mod_eq_of_lt (by omega)]
  simp [h1, h2]
theorem cB_iff (m : MV) (X Z z x : Nat) : cB m X Z z x = true ↔ ((tm m.c ((z * X : Nat) : Int)).2 = 0 ∧ (tm m.d ((z * X : Nat) : Int)).2 = 0) ∧ ((tm m.e ((X * Z : Nat) : Int)).2 = 0 ∧ (tm m.f ((X * Z : Nat) : Int)).2 = 0) ∧ pE m X Z z x = 0 := by
  unfold cB sumB
  simp only [Bool.and_eq_true, beq_iff_eq]
  unfold pE
  rw [kp_iff, kp_iff, kp_iff]
  have hx : (ptX m X Z z x).2 = kp (ad (tm m.a ((x * Z : Nat) : Int)).1 (tm m.c ((z * X : Nat) : Int)).1).2 (ad (ad (tm m.a ((x * Z : Nat) : Int)).1 (tm m.c ((z * X : Nat) : Int)).1).1 (tm m.e ((X * Z : Nat) : Int)).1).2 := rfl
  have hy : (ptY m X Z z x).2 = kp (ad (tm m.b ((x * Z : Nat) : Int)).1 (tm m.d ((z * X : Nat) : Int)).1).2 (ad (ad (tm m.b ((x * Z : Nat) : Int)).1 (tm m.d ((z * X : Nat) : Int)).1).1 (tm m.f ((X * Z : Nat) : Int)).1).2 := rfl
  rw [hx, hy, kp_iff, kp_iff]
  constructor
  · rintro ⟨⟨⟨⟨⟨a1, a2⟩, a3⟩, a4⟩, a5⟩, ⟨⟨⟨b1, b2⟩, b3⟩, b4⟩, b5⟩
    exact ⟨⟨a2, b2⟩, ⟨a3, b3⟩, ⟨⟨a1, a4, a5⟩, b1⟩, b4, b5⟩
  · rintro ⟨⟨a2, b2⟩, ⟨a3, b3⟩, ⟨⟨a1, a4, a5⟩, b1⟩, b4, b5⟩
    exact ⟨⟨⟨⟨⟨a1, a2⟩, a3⟩, a4⟩, a5⟩, ⟨⟨⟨b1, b2⟩, b3⟩, b4⟩, b5⟩
theorem rE_iff (m : MV) (X Z z : Nat) : ∀ n, rE m X Z z n = 0 ↔ ∀ x, x < n → pE m X Z z x = 0
  | 0 => ⟨fun _ x hx => by omega, fun _ => rfl⟩
  | n + 1 => by
    rw [rE, kp_iff, rE_iff m X Z z n]
    exact ⟨fun h x hx => if e : x = n then e ▸ h.2 else h.1 x (by omega), fun h => ⟨fun x hx => h x (by omega), h n (by omega)⟩⟩
theorem gE_iff (m : MV) (X Z : Nat) : ∀ n, gE m X Z n = 0 ↔ ∀ z, z < n → ((tm m.c ((z * X : Nat) : Int)).2 = 0 ∧ (tm m.d ((z * X : Nat) : Int)).2 = 0) ∧ ∀ x, x < X + 1 → pE m X Z z x = 0
  | 0 => ⟨fun _ x hx => by omega, fun _ => rfl⟩
  | n + 1 => by
    rw [gE, kp_iff, gE_iff m X Z n, kp_iff, kp_iff, rE_iff]
    exact ⟨fun h z hz => if e : z = n then e ▸ h.2 else h.1 z (by omega), fun h => ⟨fun x hx => h x (by omega), h n (by omega)⟩⟩
theorem gT_iff (m : MV) (X Z : Nat) : gT m X Z ((Z + 1) * (X + 1)) = true ↔ gridE m X Z = 0 := by
  unfold gT gridE
  rw [List.all_eq_true, kp_iff, kp_iff, gE_iff]
  constructor
  · intro h
    have key : ∀ z x, z < Z + 1 → x < X + 1 → cB m X Z z x = true := fun z x hz hx => by
      have hlt : z * (X + 1) + x < (Z + 1) * (X + 1) := by
        have h1 : (z + 1) * (X + 1) ≤ (Z + 1) * (X + 1) := Nat.mul_le_mul_right _ (by omega)
        have h3 : (z + 1) * (X + 1) = z * (X + 1) + (X + 1) := Nat.succ_mul ..
        omega
      have := h _ (List.mem_range.2 hlt)
      rwa [show (z * (X + 1) + x) / (X + 1) = z by rw [Nat.mul_comm, Nat.mul_add_div (by omega), Nat.div_eq_of_lt (by omega)]; omega, show (z * (X + 1) + x) % (X + 1) = x by rw [Nat.mul_comm, Nat.mul_add_mod, Nat.mod_eq_of_lt (by omega)]] at this
    exact ⟨((cB_iff ..).1 (key 0 0 (by omega) (by omega))).2.1, fun z hz => ⟨((cB_iff ..).1 (key z 0 hz (by omega))).1, fun x hx => ((cB_iff ..).1 (key z x hz hx)).2.2⟩⟩
  · rintro ⟨h1, h2⟩ i hi
    have hi := List.mem_range.1 hi
    have hx : i % (X + 1) < X + 1 := Nat.mod_lt i (by omega)
    have hz : i / (X + 1) < Z + 1 := (Nat.div_lt_iff_lt_mul (by omega)).2 hi
    exact (cB_iff ..).2 ⟨(h2 _ hz).1, h1, (h2 _ hz).2 _ hx⟩
/-- The error is 1, 5 or none. -/
theorem covE_is {m : MV} {X Z : Nat} {l : List BV} (hs : sizeB (X : Int) (Z : Int) = true) (hm : m.Ok) (hl : ∀ b ∈ l, b.Ok) : covE m (X : Int) (Z : Int) l = if (rT l ((X * Z : Nat) : Int) && gT m X Z ((Z + 1) * (X + 1))) = true then 0 else 5 := by
  unfold covE
  rw [if_pos ⟨hs, hm, hl⟩, Int.toNat_natCast, Int.toNat_natCast]
  have h5 := k05 (gridE05 m X Z) (bE05 l ((X * Z : Nat) : Int))
  by_cases h : (rT l ((X * Z : Nat) : Int) && gT m X Z ((Z + 1) * (X + 1))) = true
  · rw [if_pos h]
    rw [Bool.and_eq_true, rT_iff, gT_iff] at h
    exact kp_iff.2 ⟨h.2, h.1⟩
  · rw [if_neg h]
    rcases h5 with h5 | h5
    · exact absurd (by rw [Bool.and_eq_true, rT_iff, gT_iff]; exact ⟨(kp_iff.1 h5).2, (kp_iff.1 h5).1⟩) h
    · exact h5
theorem covE_bad {m : MV} {W H : Int} {l : List BV} (h : ¬ (sizeB W H = true ∧ m.Ok ∧ ∀ b ∈ l, b.Ok)) : covE m W H l = 1 := by unfold covE; rw [if_neg h]
/-- No pixel meets what the box around all points does not meet. -/
theorem meets_sub {F : Nat → PV} {G : Nat → PV} {n : Nat} {b : BV} (hF : ∀ i, (F i).Ok) (hG : ∀ i < 4, ∃ k < n, G i = F k) (h : meetsB (ofN G 4) b = true) : meetsB (ofN F n) b = true := by
  obtain ⟨k0, hk0, -⟩ := hG 0 (by omega)
  have hGo : ∀ i < 4, (G i).Ok := fun i hi => by
    obtain ⟨k, _, e⟩ := hG i hi
    rw [e]
    exact hF k
  unfold meetsB at h ⊢
  rw [Bool.and_eq_true] at h
  obtain ⟨ho, hm⟩ := h
  have ho := of_decide_eq_true ho
  have hFo := ofN_bx F n (by omega) (fun i _ => hF i)
  rw [decide_eq_true ⟨hFo, ho.2⟩, Bool.true_and]
  rw [meetB_iff ho.1 ho.2] at hm
  rw [meetB_iff hFo ho.2]
  obtain ⟨-, hle, -⟩ := ofN_ok F n (by omega) (fun i _ => hF i)
  obtain ⟨-, -, ⟨i0, h0, q0⟩, ⟨i1, h1, q1⟩, ⟨i2, h2, q2⟩, ⟨i3, h3, q3⟩⟩ := ofN_ok G 4 (by omega) hGo
  obtain ⟨j0, l0, r0⟩ := hG i0 h0
  obtain ⟨j1, l1, r1⟩ := hG i1 h1
  obtain ⟨j2, l2, r2⟩ := hG i2 h2
  obtain ⟨j3, l3, r3⟩ := hG i3 h3
  rw [q0, r0, q1, r1, q2, r2, q3, r3] at hm
  have := hle j0 l0
  have := hle j1 l1
  have := hle j2 l2
  have := hle j3 l3
  omega
theorem cov_all {m : MV} {X Z : Nat} (L : List BV) {j : Nat} (hX : 1 ≤ X) (hj : j < X * Z) : cov (pF m X Z) ((Z + 1) * (X + 1)) X Z L j = L.any (meetsB (ofN (crn (pF m X Z) X (j % X) (Z - 1 - j / X)) 4)) := by
  unfold cov nearL
  rw [List.any_filter]
  congr 1
  funext b
  cases h : meetsB (ofN (crn (pF m X Z) X (j % X) (Z - 1 - j / X)) 4) b
  · rw [Bool.and_false]
  · rw [meets_sub (fun i => pF_ok m X Z i) (fun i hi => crn_in hX hj hi) h]
    rfl
end Go.Proofs.Ytmleoagdelgddaa
