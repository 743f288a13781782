/- The plain mathematics of matrices of decimals. No program stands in it. -/
import Derived.Test.YtdlmhienolmncaaGreatDecVals
namespace Go.Proofs.YtdlmhienolmncaaGreat
open Go.RowKit Dec

/-- A decimal. -/
structure DV where
  m : Int
  s : Int
def DV.v (d : DV) : Int := val9 d.m d.s
def DV.Ok (d : DV) : Prop := Valid d.m d.s
instance (d : DV) : Decidable d.Ok := by unfold DV.Ok; exact inferInstance
def DV.zero : DV := ⟨0, 0⟩
def DV.one : DV := ⟨1, 0⟩
theorem DV.zero_ok : DV.zero.Ok := by decide
theorem DV.one_ok : DV.one.Ok := by decide
theorem DV.zero_v : DV.zero.v = 0 := by decide
theorem DV.one_v : DV.one.v = 1000000000 := by decide
theorem DV.ext' {a b : DV} (h : a.m = b.m) (h' : a.s = b.s) : a = b := by cases a; cases b; simp_all
theorem DV.inj {a b : DV} (ha : a.Ok) (hb : b.Ok) (h : a.v = b.v) : a = b := DV.ext' (val_inj ha hb h).1 (val_inj ha hb h).2

/-- The answer 'the decimal of v / 10^t', as one decimal and an error. -/
def Tells (v : Int) (t : Nat) (r : DV) (E : Int) : Prop := Denotes v t r.m r.s E
theorem Tells.total (v : Int) (t : Nat) : ∃ r E, Tells v t r E := by
  obtain ⟨M, S, E, h⟩ := make_told v t
  exact ⟨⟨M, S⟩, E, h⟩
theorem Tells.ok {v : Int} {t : Nat} {r : DV} {E : Int} (h : Tells v t r E) : r.Ok ∧ (E = 0 ∨ E = 5) := Denotes_valid h
theorem Tells.err {v : Int} {t : Nat} {r : DV} (h : Tells v t r 5) : r = .zero := by
  rcases h with ⟨h, -⟩ | ⟨-, h1, h2, -⟩
  · cases h
  · exact DV.ext' h1 h2
theorem Tells.val {v : Int} {r : DV} (h : Tells v 9 r 0) : r.v = v := val_of_den h
theorem Tells.val18 {v : Int} {r : DV} (h : Tells v 18 r 0) : r.v * 1000000000 = v := val_of_den18 h
theorem Tells.self {r : DV} (h : r.Ok) : Tells r.v 9 r 0 := den_self h
theorem Tells.prod {r : DV} {v : Int} (h : r.Ok) (hv : r.v * 1000000000 = v) : Tells v 18 r 0 :=
  Denotes.scale (Tells.self h) (by rw [← hv, Int.mul_assoc]; rfl)
theorem Tells.sum {r : DV} {v : Int} (h : r.Ok) (hv : r.v = v) : Tells v 9 r 0 := hv ▸ Tells.self h

/-- What a * b + c * d + l answers, each number on the way told. -/
def SumIs (a b c d l r : DV) (E : Int) : Prop :=
  ∃ (p q t : DV) (e1 e2 e3 : Int), Tells (a.v * b.v) 18 p e1 ∧ Tells (c.v * d.v) 18 q e2 ∧ Tells (p.v + q.v) 9 t e3 ∧
    ((e1 = 5 ∧ r = .zero ∧ E = 5) ∨ (e1 = 0 ∧ e2 = 5 ∧ r = .zero ∧ E = 5) ∨ (e1 = 0 ∧ e2 = 0 ∧ e3 = 5 ∧ r = .zero ∧ E = 5) ∨ (e1 = 0 ∧ e2 = 0 ∧ e3 = 0 ∧ Tells (t.v + l.v) 9 r E))

theorem SumIs.total (a b c d l : DV) : ∃ r E, SumIs a b c d l r E := by
  obtain ⟨p, e1, h1⟩ := Tells.total (a.v * b.v) 18
  obtain ⟨q, e2, h2⟩ := Tells.total (c.v * d.v) 18
  obtain ⟨t, e3, h3⟩ := Tells.total (p.v + q.v) 9
  obtain ⟨r, E, h4⟩ := Tells.total (t.v + l.v) 9
  have k1 := h1.ok.2
  have k2 := h2.ok.2
  have k3 := h3.ok.2
  rcases k1 with k1 | k1
  · rcases k2 with k2 | k2
    · rcases k3 with k3 | k3
      · exact ⟨r, E, p, q, t, e1, e2, e3, h1, h2, h3, .inr (.inr (.inr ⟨k1, k2, k3, h4⟩))⟩
      · exact ⟨_, _, p, q, t, e1, e2, e3, h1, h2, h3, .inr (.inr (.inl ⟨k1, k2, k3, rfl, rfl⟩))⟩
    · exact ⟨_, _, p, q, t, e1, e2, e3, h1, h2, h3, .inr (.inl ⟨k1, k2, rfl, rfl⟩)⟩
  · exact ⟨_, _, p, q, t, e1, e2, e3, h1, h2, h3, .inl ⟨k1, rfl, rfl⟩⟩

theorem SumIs.ok {a b c d l r : DV} {E : Int} (h : SumIs a b c d l r E) : r.Ok ∧ (E = 0 ∨ E = 5) := by
  obtain ⟨p, q, t, e1, e2, e3, h1, h2, h3, h⟩ := h
  rcases h with ⟨-, rfl, rfl⟩ | ⟨-, -, rfl, rfl⟩ | ⟨-, -, -, rfl, rfl⟩ | ⟨-, -, -, h⟩
  · exact ⟨DV.zero_ok, .inr rfl⟩
  · exact ⟨DV.zero_ok, .inr rfl⟩
  · exact ⟨DV.zero_ok, .inr rfl⟩
  · exact h.ok
theorem SumIs.err {a b c d l r : DV} (h : SumIs a b c d l r 5) : r = .zero := by
  obtain ⟨p, q, t, e1, e2, e3, h1, h2, h3, h⟩ := h
  rcases h with ⟨-, h, -⟩ | ⟨-, -, h, -⟩ | ⟨-, -, -, h, -⟩ | ⟨-, -, -, h⟩
  · exact h
  · exact h
  · exact h
  · exact h.err
theorem SumIs.val {a b c d l r : DV} (h : SumIs a b c d l r 0) : r.v * 1000000000 = a.v * b.v + c.v * d.v + l.v * 1000000000 := by
  obtain ⟨p, q, t, e1, e2, e3, h1, h2, h3, h⟩ := h
  rcases h with ⟨-, -, h⟩ | ⟨-, -, -, h⟩ | ⟨-, -, -, -, h⟩ | ⟨k1, k2, k3, h⟩
  · omega
  · omega
  · omega
  · subst k1 k2 k3
    have e1 := h1.val18
    have e2 := h2.val18
    have e3 := h3.val
    have e4 := h.val
    rw [e4, e3, ← e1, ← e2, Int.add_mul, Int.add_mul]
theorem SumIs.mk {a b c d l r p q t : DV} {E : Int} (hp : p.Ok) (h1 : p.v * 1000000000 = a.v * b.v) (hq : q.Ok) (h2 : q.v * 1000000000 = c.v * d.v) (ht : t.Ok) (h3 : t.v = p.v + q.v) (h : Tells (t.v + l.v) 9 r E) : SumIs a b c d l r E :=
  ⟨p, q, t, 0, 0, 0, .prod hp h1, .prod hq h2, .sum ht h3, .inr (.inr (.inr ⟨rfl, rfl, rfl, h⟩))⟩
/-- 1 times a, 0 times b, and l. -/
theorem SumIs.left {a b c d l r x : DV} {E : Int} (hx : x.Ok) (h1 : a.v * b.v = x.v * 1000000000) (h2 : c.v * d.v = 0) (h : Tells (x.v + l.v) 9 r E) : SumIs a b c d l r E :=
  .mk hx h1.symm DV.zero_ok (by rw [DV.zero_v, h2]; rfl) hx (by rw [DV.zero_v]; omega) h
theorem SumIs.right {a b c d l r x : DV} {E : Int} (hx : x.Ok) (h1 : a.v * b.v = 0) (h2 : c.v * d.v = x.v * 1000000000) (h : Tells (x.v + l.v) 9 r E) : SumIs a b c d l r E :=
  .mk DV.zero_ok (by rw [DV.zero_v, h1]; rfl) hx h2.symm hx (by rw [DV.zero_v]; omega) h
theorem Tells.zero_added {x : DV} (hx : x.Ok) : Tells (x.v + DV.zero.v) 9 x 0 := .sum hx (by rw [DV.zero_v]; omega)
theorem Tells.to_zero {x : DV} (hx : x.Ok) : Tells (DV.zero.v + x.v) 9 x 0 := .sum hx (by rw [DV.zero_v]; omega)
theorem mul_one_v (x : DV) : x.v * DV.one.v = x.v * 1000000000 := by rw [DV.one_v]
theorem one_mul_v (x : DV) : DV.one.v * x.v = x.v * 1000000000 := by rw [DV.one_v, Int.mul_comm]
theorem mul_zero_v (x : DV) : x.v * DV.zero.v = 0 := by rw [DV.zero_v, Int.mul_zero]
theorem zero_mul_v (x : DV) : DV.zero.v * x.v = 0 := by rw [DV.zero_v, Int.zero_mul]

/-- A matrix; a point. -/
structure MV where
  a : DV
  b : DV
  c : DV
  d : DV
  e : DV
  f : DV
structure PV where
  x : DV
  y : DV
def MV.Ok (m : MV) : Prop := m.a.Ok ∧ m.b.Ok ∧ m.c.Ok ∧ m.d.Ok ∧ m.e.Ok ∧ m.f.Ok
def PV.Ok (p : PV) : Prop := p.x.Ok ∧ p.y.Ok
instance (m : MV) : Decidable m.Ok := by unfold MV.Ok; exact inferInstance
instance (p : PV) : Decidable p.Ok := by unfold PV.Ok; exact inferInstance
def MV.zero : MV := ⟨.zero, .zero, .zero, .zero, .zero, .zero⟩
def PV.zero : PV := ⟨.zero, .zero⟩
def MV.one : MV := ⟨.one, .zero, .zero, .one, .zero, .zero⟩
theorem MV.zero_ok : MV.zero.Ok := by decide
theorem MV.one_ok : MV.one.Ok := by decide
theorem PV.zero_ok : PV.zero.Ok := by decide

/-- What the two sums of Map answer. -/
def MapSums (m : MV) (p r : PV) (E : Int) : Prop :=
  ∃ (x y : DV) (ex ey : Int), SumIs m.a p.x m.c p.y m.e x ex ∧ SumIs m.b p.x m.d p.y m.f y ey ∧
    ((ex = 5 ∧ r = .zero ∧ E = 5) ∨ (ex = 0 ∧ ey = 5 ∧ r = .zero ∧ E = 5) ∨ (ex = 0 ∧ ey = 0 ∧ r = ⟨x, y⟩ ∧ E = 0))
/-- What Map answers at any matrix and point. -/
def MapIs (m : MV) (p r : PV) (E : Int) : Prop := (m.Ok ∧ p.Ok ∧ MapSums m p r E) ∨ (¬ (m.Ok ∧ p.Ok) ∧ r = .zero ∧ E = 1)

theorem MapSums.total (m : MV) (p : PV) : ∃ r E, MapSums m p r E := by
  obtain ⟨x, ex, hx⟩ := SumIs.total m.a p.x m.c p.y m.e
  obtain ⟨y, ey, hy⟩ := SumIs.total m.b p.x m.d p.y m.f
  rcases hx.ok.2 with k | k
  · rcases hy.ok.2 with k' | k'
    · exact ⟨_, _, x, y, ex, ey, hx, hy, .inr (.inr ⟨k, k', rfl, rfl⟩)⟩
    · exact ⟨_, _, x, y, ex, ey, hx, hy, .inr (.inl ⟨k, k', rfl, rfl⟩)⟩
  · exact ⟨_, _, x, y, ex, ey, hx, hy, .inl ⟨k, rfl, rfl⟩⟩
theorem MapIs.total (m : MV) (p : PV) : ∃ r E, MapIs m p r E := by
  by_cases h : m.Ok ∧ p.Ok
  · obtain ⟨r, E, h'⟩ := MapSums.total m p
    exact ⟨r, E, .inl ⟨h.1, h.2, h'⟩⟩
  · exact ⟨_, _, .inr ⟨h, rfl, rfl⟩⟩
theorem MapIs.ok {m : MV} {p r : PV} {E : Int} (h : MapIs m p r E) : r.Ok ∧ (E = 0 ∨ E = 1 ∨ E = 5) := by
  rcases h with ⟨-, -, x, y, ex, ey, hx, hy, h⟩ | ⟨-, rfl, rfl⟩
  · rcases h with ⟨-, rfl, rfl⟩ | ⟨-, -, rfl, rfl⟩ | ⟨-, -, rfl, rfl⟩
    · exact ⟨PV.zero_ok, .inr (.inr rfl)⟩
    · exact ⟨PV.zero_ok, .inr (.inr rfl)⟩
    · exact ⟨⟨hx.ok.1, hy.ok.1⟩, .inl rfl⟩
  · exact ⟨PV.zero_ok, .inr (.inl rfl)⟩
/-- Where Map answers OK. -/
theorem MapIs.val {m : MV} {p r : PV} (h : MapIs m p r 0) : m.Ok ∧ p.Ok ∧ r.x.v * 1000000000 = m.a.v * p.x.v + m.c.v * p.y.v + m.e.v * 1000000000 ∧ r.y.v * 1000000000 = m.b.v * p.x.v + m.d.v * p.y.v + m.f.v * 1000000000 := by
  rcases h with ⟨h1, h2, x, y, ex, ey, hx, hy, h⟩ | ⟨-, -, h⟩
  · rcases h with ⟨-, -, h⟩ | ⟨-, -, -, h⟩ | ⟨rfl, rfl, rfl, -⟩
    · omega
    · omega
    · exact ⟨h1, h2, hx.val, hy.val⟩
  · omega
theorem MapIs.mk {m : MV} {p r : PV} (hm : m.Ok) (hp : p.Ok) (hx : SumIs m.a p.x m.c p.y m.e r.x 0) (hy : SumIs m.b p.x m.d p.y m.f r.y 0) : MapIs m p r 0 :=
  .inl ⟨hm, hp, r.x, r.y, 0, 0, hx, hy, .inr (.inr ⟨rfl, rfl, rfl, rfl⟩)⟩

/-- What the six sums of Then answer. -/
def ThenSums (m n r : MV) (E : Int) : Prop :=
  ∃ (q : MV) (e1 e2 e3 e4 e5 e6 : Int), SumIs m.a n.a m.b n.c .zero q.a e1 ∧ SumIs m.a n.b m.b n.d .zero q.b e2 ∧ SumIs m.c n.a m.d n.c .zero q.c e3 ∧ SumIs m.c n.b m.d n.d .zero q.d e4 ∧
    SumIs m.e n.a m.f n.c n.e q.e e5 ∧ SumIs m.e n.b m.f n.d n.f q.f e6 ∧
    ((e1 = 0 ∧ e2 = 0 ∧ e3 = 0 ∧ e4 = 0 ∧ e5 = 0 ∧ e6 = 0 ∧ r = q ∧ E = 0) ∨ (¬ (e1 = 0 ∧ e2 = 0 ∧ e3 = 0 ∧ e4 = 0 ∧ e5 = 0 ∧ e6 = 0) ∧ r = .zero ∧ E = 5))
def ThenIs (m n r : MV) (E : Int) : Prop := (m.Ok ∧ n.Ok ∧ ThenSums m n r E) ∨ (¬ (m.Ok ∧ n.Ok) ∧ r = .zero ∧ E = 1)

theorem ThenSums.total (m n : MV) : ∃ r E, ThenSums m n r E := by
  obtain ⟨a, e1, h1⟩ := SumIs.total m.a n.a m.b n.c .zero
  obtain ⟨b, e2, h2⟩ := SumIs.total m.a n.b m.b n.d .zero
  obtain ⟨c, e3, h3⟩ := SumIs.total m.c n.a m.d n.c .zero
  obtain ⟨d, e4, h4⟩ := SumIs.total m.c n.b m.d n.d .zero
  obtain ⟨e, e5, h5⟩ := SumIs.total m.e n.a m.f n.c n.e
  obtain ⟨f, e6, h6⟩ := SumIs.total m.e n.b m.f n.d n.f
  by_cases k : e1 = 0 ∧ e2 = 0 ∧ e3 = 0 ∧ e4 = 0 ∧ e5 = 0 ∧ e6 = 0
  · obtain ⟨k1, k2, k3, k4, k5, k6⟩ := k
    exact ⟨_, _, ⟨a, b, c, d, e, f⟩, e1, e2, e3, e4, e5, e6, h1, h2, h3, h4, h5, h6, .inl ⟨k1, k2, k3, k4, k5, k6, rfl, rfl⟩⟩
  · exact ⟨_, _, ⟨a, b, c, d, e, f⟩, e1, e2, e3, e4, e5, e6, h1, h2, h3, h4, h5, h6, .inr ⟨k, rfl, rfl⟩⟩
theorem ThenIs.total (m n : MV) : ∃ r E, ThenIs m n r E := by
  by_cases h : m.Ok ∧ n.Ok
  · obtain ⟨r, E, h'⟩ := ThenSums.total m n
    exact ⟨r, E, .inl ⟨h.1, h.2, h'⟩⟩
  · exact ⟨_, _, .inr ⟨h, rfl, rfl⟩⟩
theorem ThenIs.ok {m n r : MV} {E : Int} (h : ThenIs m n r E) : r.Ok ∧ (E = 0 ∨ E = 1 ∨ E = 5) := by
  rcases h with ⟨-, -, q, e1, e2, e3, e4, e5, e6, h1, h2, h3, h4, h5, h6, h⟩ | ⟨-, rfl, rfl⟩
  · rcases h with ⟨-, -, -, -, -, -, rfl, rfl⟩ | ⟨-, rfl, rfl⟩
    · exact ⟨⟨h1.ok.1, h2.ok.1, h3.ok.1, h4.ok.1, h5.ok.1, h6.ok.1⟩, .inl rfl⟩
    · exact ⟨MV.zero_ok, .inr (.inr rfl)⟩
  · exact ⟨MV.zero_ok, .inr (.inl rfl)⟩
theorem ThenIs.val {m n r : MV} (h : ThenIs m n r 0) : m.Ok ∧ n.Ok ∧
    r.a.v * 1000000000 = m.a.v * n.a.v + m.b.v * n.c.v ∧ r.b.v * 1000000000 = m.a.v * n.b.v + m.b.v * n.d.v ∧
    r.c.v * 1000000000 = m.c.v * n.a.v + m.d.v * n.c.v ∧ r.d.v * 1000000000 = m.c.v * n.b.v + m.d.v * n.d.v ∧
    r.e.v * 1000000000 = m.e.v * n.a.v + m.f.v * n.c.v + n.e.v * 1000000000 ∧ r.f.v * 1000000000 = m.e.v * n.b.v + m.f.v * n.d.v + n.f.v * 1000000000 := by
  rcases h with ⟨hm, hn, q, e1, e2, e3, e4, e5, e6, h1, h2, h3, h4, h5, h6, h⟩ | ⟨-, -, h⟩
  · rcases h with ⟨rfl, rfl, rfl, rfl, rfl, rfl, rfl, -⟩ | ⟨-, -, h⟩
    · have g1 := h1.val
      have g2 := h2.val
      have g3 := h3.val
      have g4 := h4.val
      rw [DV.zero_v] at g1 g2 g3 g4
      exact ⟨hm, hn, by omega, by omega, by omega, by omega, h5.val, h6.val⟩
    · omega
  · omega
theorem ThenIs.mk {m n r : MV} (hm : m.Ok) (hn : n.Ok) (h1 : SumIs m.a n.a m.b n.c .zero r.a 0) (h2 : SumIs m.a n.b m.b n.d .zero r.b 0) (h3 : SumIs m.c n.a m.d n.c .zero r.c 0) (h4 : SumIs m.c n.b m.d n.d .zero r.d 0)
    (h5 : SumIs m.e n.a m.f n.c n.e r.e 0) (h6 : SumIs m.e n.b m.f n.d n.f r.f 0) : ThenIs m n r 0 :=
  .inl ⟨hm, hn, r, 0, 0, 0, 0, 0, 0, h1, h2, h3, h4, h5, h6, .inl ⟨rfl, rfl, rfl, rfl, rfl, rfl, rfl, rfl⟩⟩

/-- One turns nothing. -/
theorem one_maps {p : PV} (hp : p.Ok) : MapIs .one p p 0 :=
  .mk MV.one_ok hp (.left hp.1 (one_mul_v _) (zero_mul_v _) (.zero_added hp.1)) (.right hp.2 (zero_mul_v _) (one_mul_v _) (.zero_added hp.2))
theorem then_one {m : MV} (hm : m.Ok) : ThenIs m .one m 0 := by
  obtain ⟨h1, h2, h3, h4, h5, h6⟩ := id hm
  exact .mk hm MV.one_ok (.left h1 (mul_one_v _) (mul_zero_v _) (.zero_added h1)) (.right h2 (mul_zero_v _) (mul_one_v _) (.zero_added h2)) (.left h3 (mul_one_v _) (mul_zero_v _) (.zero_added h3)) (.right h4 (mul_zero_v _) (mul_one_v _) (.zero_added h4))
    (.left h5 (mul_one_v _) (mul_zero_v _) (.zero_added h5)) (.right h6 (mul_zero_v _) (mul_one_v _) (.zero_added h6))
theorem one_then {m : MV} (hm : m.Ok) : ThenIs .one m m 0 := by
  obtain ⟨h1, h2, h3, h4, h5, h6⟩ := id hm
  exact .mk MV.one_ok hm (.left h1 (one_mul_v _) (zero_mul_v _) (.zero_added h1)) (.left h2 (one_mul_v _) (zero_mul_v _) (.zero_added h2)) (.right h3 (zero_mul_v _) (one_mul_v _) (.zero_added h3)) (.right h4 (zero_mul_v _) (one_mul_v _) (.zero_added h4))
    (.left DV.zero_ok (by rw [DV.zero_v]; exact zero_mul_v _) (zero_mul_v _) (.to_zero h5)) (.left DV.zero_ok (by rw [DV.zero_v]; exact zero_mul_v _) (zero_mul_v _) (.to_zero h6))

theorem poly1 {K tA tC tE px py x nA nC nE mA mB mC mD mE mF yX yY z : Int} (x1 : x * K = tA * px + tC * py + tE * K) (t1 : tA * K = mA * nA + mB * nC) (t3 : tC * K = mC * nA + mD * nC) (t5 : tE * K = mE * nA + mF * nC + nE * K)
    (y1 : yX * K = mA * px + mC * py + mE * K) (y2 : yY * K = mB * px + mD * py + mF * K) (z1 : z * K = nA * yX + nC * yY + nE * K) : x * K * K = z * K * K := by
  have h1 : x * K * K = (tA * K) * px + (tC * K) * py + (tE * K) * K := by rw [x1]; grind
  have h2 : z * K * K = nA * (yX * K) + nC * (yY * K) + nE * K * K := by rw [z1]; grind
  rw [h1, h2, t1, t3, t5, y1, y2]
  grind
theorem poly2 {K ae af na nc ne be le lf ma mb mc md me mf ca cc ce de : Int} (b : be * K = ae * na + af * nc + ne * K) (a1 : ae * K = le * ma + lf * mc + me * K) (a2 : af * K = le * mb + lf * md + mf * K)
    (d : de * K = le * ca + lf * cc + ce * K) (c1 : ca * K = ma * na + mb * nc) (c2 : cc * K = mc * na + md * nc) (c3 : ce * K = me * na + mf * nc + ne * K) : be * K * K = de * K * K := by
  have h1 : be * K * K = (ae * K) * na + (af * K) * nc + ne * K * K := by rw [b]; grind
  have h2 : de * K * K = le * (ca * K) + lf * (cc * K) + (ce * K) * K := by rw [d]; grind
  rw [h1, h2, a1, a2, c1, c2, c3]
  grind
theorem poly3 {K aa ab na nc ba la lb ma mb mc md ca cc da : Int} (b : ba * K = aa * na + ab * nc) (a1 : aa * K = la * ma + lb * mc) (a2 : ab * K = la * mb + lb * md)
    (d : da * K = la * ca + lb * cc) (c1 : ca * K = ma * na + mb * nc) (c2 : cc * K = mc * na + md * nc) : ba * K * K = da * K * K := by
  have h1 : ba * K * K = (aa * K) * na + (ab * K) * nc := by rw [b]; grind
  have h2 : da * K * K = la * (ca * K) + lb * (cc * K) := by rw [d]; grind
  rw [h1, h2, a1, a2, c1, c2]
  grind

theorem eq_of_v {a b : DV} (ha : a.Ok) (hb : b.Ok) (h : a.v * 1000000000 * 1000000000 = b.v * 1000000000 * 1000000000) : a = b := DV.inj ha hb (by omega)

/-- Mapped by what Then tells is mapped by one, and then by the other one. -/
theorem maps_math {m n t : MV} {p x y z : PV} (h1 : ThenIs m n t 0) (h2 : MapIs t p x 0) (h3 : MapIs m p y 0) (h4 : MapIs n y z 0) : x = z := by
  obtain ⟨-, -, t1, t2, t3, t4, t5, t6⟩ := h1.val
  obtain ⟨-, -, x1, x2⟩ := h2.val
  obtain ⟨-, -, y1, y2⟩ := h3.val
  obtain ⟨-, -, z1, z2⟩ := h4.val
  have ox := h2.ok.1
  have oz := h4.ok.1
  have e1 : x.x = z.x := eq_of_v ox.1 oz.1 (poly1 x1 t1 t3 t5 y1 y2 z1)
  have e2 : x.y = z.y := eq_of_v ox.2 oz.2 (poly1 x2 t2 t4 t6 y1 y2 z2)
  cases x; cases z; simp_all
/-- Of three it does not matter which two are put together first. -/
theorem holds_math {l m n a b c d : MV} (h1 : ThenIs l m a 0) (h2 : ThenIs a n b 0) (h3 : ThenIs m n c 0) (h4 : ThenIs l c d 0) : b = d := by
  obtain ⟨-, -, a1, a2, a3, a4, a5, a6⟩ := h1.val
  obtain ⟨-, -, b1, b2, b3, b4, b5, b6⟩ := h2.val
  obtain ⟨-, -, c1, c2, c3, c4, c5, c6⟩ := h3.val
  obtain ⟨-, -, d1, d2, d3, d4, d5, d6⟩ := h4.val
  obtain ⟨o1, o2, o3, o4, o5, o6⟩ := h2.ok.1
  obtain ⟨q1, q2, q3, q4, q5, q6⟩ := h4.ok.1
  have e1 : b.a = d.a := eq_of_v o1 q1 (poly3 b1 a1 a2 d1 c1 c3)
  have e2 : b.b = d.b := eq_of_v o2 q2 (poly3 b2 a1 a2 d2 c2 c4)
  have e3 : b.c = d.c := eq_of_v o3 q3 (poly3 b3 a3 a4 d3 c1 c3)
  have e4 : b.d = d.d := eq_of_v o4 q4 (poly3 b4 a3 a4 d4 c2 c4)
  have e5 : b.e = d.e := eq_of_v o5 q5 (poly2 b5 a5 a6 d5 c1 c3 c5)
  have e6 : b.f = d.f := eq_of_v o6 q6 (poly2 b6 a5 a6 d6 c2 c4 c6)
  cases b; cases d; simp_all
end Go.Proofs.YtdlmhienolmncaaGreat
