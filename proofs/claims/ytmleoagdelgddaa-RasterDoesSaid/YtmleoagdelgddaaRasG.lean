/- raster: rows of points; what holds within the region that makes a point. -/
import Derived.Test.YtmleoagdelgddaaRasE
import Derived.Laws.AppendOwn
import Derived.Laws.AppendOwnNone
namespace Go.Proofs.Ytmleoagdelgddaa
open Go.RowKit Dec

theorem add_none {a : Addr} (hs : a.spot = none) (n : Nat) : a.add n = ⟨a.block, a.off + n, none⟩ := by
  obtain ⟨b, o, s⟩ := a
  obtain rfl : s = none := hs
  unfold Addr.add
  split
  · subst n; rfl
  · rfl
def PtsAt (w : World) (A : Option Addr) (n : Nat) (F : Nat → PV) : Prop := n = 0 ∨ ∃ R o, A = some ⟨R, o, none⟩ ∧ ∀ i < n, PAt w R (o + i * 4) (F i)
theorem PtsAt.later {w w' : World} {A : Option Addr} {n : Nat} {F : Nat → PV} (h : PtsAt w A n F) (hb : Below w.heap.size w w') : PtsAt w' A n F := by
  rcases h with h | ⟨R, o, e, h⟩
  · exact .inl h
  · exact .inr ⟨R, o, e, fun i hi => (h i hi).later hb⟩
/-- The j-th cell of a row of points. -/
def cellP (F : Nat → PV) (j : Nat) : Value := if j % 4 = 0 then .int .i64 (F (j / 4)).x.m else if j % 4 = 1 then .int .i64 (F (j / 4)).x.s else if j % 4 = 2 then .int .i64 (F (j / 4)).y.m else .int .i64 (F (j / 4)).y.s
def rowP (F : Nat → PV) (n : Nat) : List Value := (List.range (n * 4)).map (cellP F)
theorem rowP_len (F : Nat → PV) (n : Nat) : (rowP F n).length = n * 4 := by simp [rowP]
theorem rowP_at {F : Nat → PV} {n j : Nat} (h : j < n * 4) : (rowP F n)[j]? = some (cellP F j) := by simp [rowP, h]
theorem rowP_one (F : Nat → PV) (n : Nat) : ∀ u ∈ rowP F n, u.oneCell' = true := by
  intro u hu
  obtain ⟨j, _, rfl⟩ := List.mem_map.1 hu
  unfold cellP
  split
  · rfl
  · split
    · rfl
    · split <;> rfl
theorem cellP_at (F : Nat → PV) (i : Nat) : cellP F (i * 4) = .int .i64 (F i).x.m ∧ cellP F (i * 4 + 1) = .int .i64 (F i).x.s ∧ cellP F (i * 4 + 2) = .int .i64 (F i).y.m ∧ cellP F (i * 4 + 3) = .int .i64 (F i).y.s := by
  unfold cellP
  refine ⟨?_, ?_, ?_, ?_⟩
  · rw [if_pos (by omega), show i * 4 / 4 = i by omega]
  · rw [if_neg (by omega), if_pos (by omega), show (i * 4 + 1) / 4 = i by omega]
  · rw [if_neg (by omega), if_neg (by omega), if_pos (by omega), show (i * 4 + 2) / 4 = i by omega]
  · rw [if_neg (by omega), if_neg (by omega), if_neg (by omega), show (i * 4 + 3) / 4 = i by omega]
theorem pts_news {w : World} {R o n : Nat} {F : Nat → PV} (h : ∀ i < n, PAt w R (o + i * 4) (F i)) (j : Nat) (u : Value) (hu : (rowP F n)[j]? = some u) : w.cell? ((⟨R, o, none⟩ : Addr).add j) = some u := by
  have hj : j < n * 4 := by have := (List.getElem?_eq_some_iff.1 hu).1; rwa [rowP_len] at this
  rw [rowP_at hj] at hu
  injection hu with hu
  subst hu
  rw [add_none rfl]
  obtain ⟨i, hi⟩ : ∃ i, j / 4 = i := ⟨_, rfl⟩
  have hc := cellP_at F i
  obtain ⟨a0, a1, a2, a3⟩ := h i (by omega)
  rcases (by omega : j = i * 4 ∨ j = i * 4 + 1 ∨ j = i * 4 + 2 ∨ j = i * 4 + 3) with rfl | rfl | rfl | rfl
  · rw [hc.1]; exact a0
  · rw [hc.2.1]; exact a1
  · rw [hc.2.2.1]; exact a2
  · rw [hc.2.2.2]; exact a3
theorem own_pts {W : World} {base n : Nat} {v : Value} {F : Nat → PV} (h : W.ownsRow base 78 4 v n (rowP F n)) : ∃ A c, v = .slice A n c ∧ PtsAt W A n F := by
  obtain ⟨_, h⟩ := h
  rcases h with ⟨rfl, rfl⟩ | ⟨g, cap, cur, rfl, hg, hw, hnc, hc, hs, ht⟩
  · exact ⟨none, 0, rfl, .inl rfl⟩
  · have hw' : Whole W g 78 cur := hw
    have key : ∀ j, j < n * 4 → W.cell? ⟨g, 0 + j, none⟩ = some (cellP F j) := fun j hj => by
      have e1 := rowP_at (F := F) hj
      rw [← ht, List.getElem?_take, if_pos hj] at e1
      rw [hw'.reads, Nat.zero_add, ← e1, Array.getElem?_toList]
    refine ⟨_, cap, rfl, .inr ⟨g, 0, rfl, fun i hi => ?_⟩⟩
    have hc := cellP_at F i
    refine ⟨?_, ?_, ?_, ?_⟩
    · rw [key _ (by omega), hc.1]
    · rw [show 0 + i * 4 + 1 = 0 + (i * 4 + 1) by omega, key _ (by omega), hc.2.1]
    · rw [show 0 + i * 4 + 2 = 0 + (i * 4 + 2) by omega, key _ (by omega), hc.2.2.1]
    · rw [show 0 + i * 4 + 3 = 0 + (i * 4 + 3) by omega, key _ (by omega), hc.2.2.2]
theorem infoPt : (Try.prog.info? 78).map (fun i => (i.zero, i.size, i.bytes)) = some (some (.agg #[.int .i64 0, .int .i64 0, .int .i64 0, .int .i64 0]), 4, 32) := by kernel_rfl
theorem info_pt : ∃ i, Try.prog.info? 78 = some i ∧ i.zero = some (.agg #[.int .i64 0, .int .i64 0, .int .i64 0, .int .i64 0]) ∧ i.size = 4 ∧ i.bytes = 32 := by
  have h := infoPt
  cases hi : Try.prog.info? 78 with
  | none => rw [hi] at h; cases h
  | some i =>
    rw [hi] at h
    injection h with h
    injection h with h1 h2
    injection h2 with h2 h3
    exact ⟨i, rfl, h1, h2, h3⟩
theorem rowP_snoc (F : Nat → PV) (n : Nat) : rowP F n ++ [.int .i64 (F n).x.m, .int .i64 (F n).x.s, .int .i64 (F n).y.m, .int .i64 (F n).y.s] = rowP F (n + 1) := by
  unfold rowP
  rw [show (n + 1) * 4 = n * 4 + 1 + 1 + 1 + 1 by omega, List.range_succ, List.range_succ, List.range_succ, List.range_succ]
  obtain ⟨h0, h1, h2, h3⟩ := cellP_at F n
  simp only [List.map_append, List.map_cons, List.map_nil, List.append_assoc, List.cons_append, List.nil_append, h0, h1]
  rw [show n * 4 + 1 + 1 = n * 4 + 2 by omega, show n * 4 + 2 + 1 = n * 4 + 3 by omega, h2, h3]
/-- Within the region that makes a point: besides, four decimals. -/
structure GQ (W0 v : World) (S : Nat) (e : Int) (P : Nat) (m : MV) (B10 B11 B13 B14 : Nat) (te tf tc td : DV) : Prop where
  gs : GS W0 v S e P m
  b10 : Whole v B10 40 #[.int .i64 te.m, .int .i64 te.s]
  b11 : Whole v B11 40 #[.int .i64 tf.m, .int .i64 tf.s]
  b13 : Whole v B13 40 #[.int .i64 tc.m, .int .i64 tc.s]
  b14 : Whole v B14 40 #[.int .i64 td.m, .int .i64 td.s]
section
variable {W0 v v' : World} {S P B10 B11 B13 B14 : Nat} {e e' : Int} {m : MV} {te tf tc td : DV}
theorem GQ.drew (h : GQ W0 v S e P m B10 B11 B13 B14 te tf tc td) : GQ W0 v.drew S e P m B10 B11 B13 B14 te tf tc td := ⟨h.gs.drew, h.b10, h.b11, h.b13, h.b14⟩
theorem GQ.alloc (h : GQ W0 v S e P m B10 B11 B13 B14 te tf tc td) (o : Obj) : GQ W0 (v.alloc o) S e P m B10 B11 B13 B14 te tf tc td := ⟨h.gs.alloc o, h.b10.old o, h.b11.old o, h.b13.old o, h.b14.old o⟩
theorem GQ.step (h : GQ W0 v S e P m B10 B11 B13 B14 te tf tc td) (k : ScSt S e' v v') : GQ W0 v' S e' P m B10 B11 B13 B14 te tf tc td :=
  ⟨h.gs.step k, h.gs.carry2 k h.b10 (by decide), h.gs.carry2 k h.b11 (by decide), h.gs.carry2 k h.b13 (by decide), h.gs.carry2 k h.b14 (by decide)⟩
theorem GQ.cells (h : GQ W0 v S e P m B10 B11 B13 B14 te tf tc td) :
    v.cell? ⟨P, 0, none⟩ = some (.int .i64 m.a.m) ∧ v.cell? ⟨P, 1, none⟩ = some (.int .i64 m.a.s) ∧ v.cell? ⟨P, 2, none⟩ = some (.int .i64 m.b.m) ∧ v.cell? ⟨P, 3, none⟩ = some (.int .i64 m.b.s) ∧
    v.cell? ⟨B10, 0, none⟩ = some (.int .i64 te.m) ∧ v.cell? ⟨B10, 1, none⟩ = some (.int .i64 te.s) ∧ v.cell? ⟨B11, 0, none⟩ = some (.int .i64 tf.m) ∧ v.cell? ⟨B11, 1, none⟩ = some (.int .i64 tf.s) ∧
    v.cell? ⟨B13, 0, none⟩ = some (.int .i64 tc.m) ∧ v.cell? ⟨B13, 1, none⟩ = some (.int .i64 tc.s) ∧ v.cell? ⟨B14, 0, none⟩ = some (.int .i64 td.m) ∧ v.cell? ⟨B14, 1, none⟩ = some (.int .i64 td.s) :=
  ⟨h.gs.mat.reads 0, h.gs.mat.reads 1, h.gs.mat.reads 2, h.gs.mat.reads 3, h.b10.reads 0, h.b10.reads 1, h.b11.reads 0, h.b11.reads 1, h.b13.reads 0, h.b13.reads 1, h.b14.reads 0, h.b14.reads 1⟩
theorem GQ.newP (h : GQ W0 v S e P m B10 B11 B13 B14 te tf tc td) (k : ScSt S e' (v.alloc (.cells #[.int .i64 0, .int .i64 0, .int .i64 0, .int .i64 0] 78)) v') : Whole v' v.heap.size 78 #[.int .i64 0, .int .i64 0, .int .i64 0, .int .i64 0] := k.fr.keeps (Whole.made v _ _) (by have := h.gs.size; have := h.gs.low; omega)
theorem GQ.carryP (h : GQ W0 v S e P m B10 B11 B13 B14 te tf tc td) (k : ScSt S e' v v') {g : Nat} {T : TypeId} {cs : Array Value} (hw : Whole v g T cs) (hT : T ≠ 66) : Whole v' g T cs := h.gs.carry2 k hw hT
theorem GQ.set4 (h : GQ W0 v S e P m B10 B11 B13 B14 te tf tc td) {g : Nat} (hg : W0.heap.size ≤ g) (l10 : B10 < W0.heap.size) (l11 : B11 < W0.heap.size) (l13 : B13 < W0.heap.size) (l14 : B14 < W0.heap.size) (a b c d : Value) :
    GQ W0 ((((v.setCell ⟨g, 0, none⟩ a).setCell ⟨g, 1, none⟩ b).setCell ⟨g, 2, none⟩ c).setCell ⟨g, 3, none⟩ d) S e P m B10 B11 B13 B14 te tf tc td := by
  have h1 := h.gs.low
  have h2 := h.gs.lowP
  have aw : ∀ {g' : Nat} {T : TypeId} {cs : Array Value}, Whole v g' T cs → g' ≠ g → Whole ((((v.setCell ⟨g, 0, none⟩ a).setCell ⟨g, 1, none⟩ b).setCell ⟨g, 2, none⟩ c).setCell ⟨g, 3, none⟩ d) g' T cs := fun hw ne =>
    (((hw.away (p := ⟨g, 0, none⟩) ne a).away (p := ⟨g, 1, none⟩) ne b).away (p := ⟨g, 2, none⟩) ne c).away (p := ⟨g, 3, none⟩) ne d
  refine ⟨⟨aw h.gs.sc (by omega), aw h.gs.mat (by omega), ?_, h1, h2, h.gs.ne⟩, aw h.b10 (by omega), aw h.b11 (by omega), aw h.b13 (by omega), aw h.b14 (by omega)⟩
  exact (((h.gs.fr.set (p := ⟨g, 0, none⟩) (fun k => by simp at k; omega) a).set (p := ⟨g, 1, none⟩) (fun k => by simp at k; omega) b).set (p := ⟨g, 2, none⟩) (fun k => by simp at k; omega) c).set (p := ⟨g, 3, none⟩) (fun k => by simp at k; omega) d
end
theorem gq_cells {v : World} {P B10 B11 B13 B14 : Nat} {m : MV} {te tf tc td : DV} (hm : Whole v P 42 #[.int .i64 m.a.m, .int .i64 m.a.s, .int .i64 m.b.m, .int .i64 m.b.s, .int .i64 m.c.m, .int .i64 m.c.s, .int .i64 m.d.m, .int .i64 m.d.s, .int .i64 m.e.m, .int .i64 m.e.s, .int .i64 m.f.m, .int .i64 m.f.s]) (h10 : Whole v B10 40 #[.int .i64 te.m, .int .i64 te.s]) (h11 : Whole v B11 40 #[.int .i64 tf.m, .int .i64 tf.s]) (h13 : Whole v B13 40 #[.int .i64 tc.m, .int .i64 tc.s]) (h14 : Whole v B14 40 #[.int .i64 td.m, .int .i64 td.s]) :
    v.cell? ⟨P, 0, none⟩ = some (.int .i64 m.a.m) ∧ v.cell? ⟨P, 1, none⟩ = some (.int .i64 m.a.s) ∧ v.cell? ⟨P, 2, none⟩ = some (.int .i64 m.b.m) ∧ v.cell? ⟨P, 3, none⟩ = some (.int .i64 m.b.s) ∧
    v.cell? ⟨B10, 0, none⟩ = some (.int .i64 te.m) ∧ v.cell? ⟨B10, 1, none⟩ = some (.int .i64 te.s) ∧ v.cell? ⟨B11, 0, none⟩ = some (.int .i64 tf.m) ∧ v.cell? ⟨B11, 1, none⟩ = some (.int .i64 tf.s) ∧
    v.cell? ⟨B13, 0, none⟩ = some (.int .i64 tc.m) ∧ v.cell? ⟨B13, 1, none⟩ = some (.int .i64 tc.s) ∧ v.cell? ⟨B14, 0, none⟩ = some (.int .i64 td.m) ∧ v.cell? ⟨B14, 1, none⟩ = some (.int .i64 td.s) :=
  ⟨hm.reads 0, hm.reads 1, hm.reads 2, hm.reads 3, h10.reads 0, h10.reads 1, h11.reads 0, h11.reads 1, h13.reads 0, h13.reads 1, h14.reads 0, h14.reads 1⟩
theorem Whole.off4 {w : World} {g g' : Nat} {T : TypeId} {cs : Array Value} (h : Whole w g T cs) (ne : g ≠ g') (a b c d : Value) : Whole ((((w.setCell ⟨g', 0, none⟩ a).setCell ⟨g', 1, none⟩ b).setCell ⟨g', 2, none⟩ c).setCell ⟨g', 3, none⟩ d) g T cs :=
  (((h.away (p := ⟨g', 0, none⟩) ne a).away (p := ⟨g', 1, none⟩) ne b).away (p := ⟨g', 2, none⟩) ne c).away (p := ⟨g', 3, none⟩) ne d
theorem four_set {w : World} {g : Nat} {T : TypeId} {a b c d p q r s : Value} (h : Whole w g T #[a, b, c, d]) : Whole ((((w.setCell ⟨g, 0, none⟩ p).setCell ⟨g, 1, none⟩ q).setCell ⟨g, 2, none⟩ r).setCell ⟨g, 3, none⟩ s) g T #[p, q, r, s] := by
  have := (((h.set 0 p).set 1 q).set 2 r).set 3 s
  simpa using this
theorem four_facts {v : World} {g : Nat} {T : TypeId} {a b c d : Value} {cs : Array Value} (h : Whole v g T cs) (h0 : cs[0]? = some a) (h1 : cs[1]? = some b) (h2 : cs[2]? = some c) (h3 : cs[3]? = some d) :
    v.cell? ⟨g, 0, none⟩ = some a ∧ v.cell? ⟨g, 1, none⟩ = some b ∧ v.cell? ⟨g, 2, none⟩ = some c ∧ v.cell? ⟨g, 3, none⟩ = some d ∧ v.frozen? ⟨g, 0, none⟩ = false ∧ v.frozen? ⟨g, 1, none⟩ = false ∧ v.frozen? ⟨g, 2, none⟩ = false ∧ v.frozen? ⟨g, 3, none⟩ = false ∧ g < v.heap.size :=
  ⟨(h.reads 0).trans h0, (h.reads 1).trans h1, (h.reads 2).trans h2, (h.reads 3).trans h3, h.thawed 0, h.thawed 1, h.thawed 2, h.thawed 3, h.lt⟩
theorem four_setz {w : World} {g : Nat} {p q r t : Value} (h : Whole w g 78 #[.int .i64 0, .int .i64 0, .int .i64 0, .int .i64 0]) : Whole ((((w.setCell ⟨g, 0, none⟩ p).setCell ⟨g, 1, none⟩ q).setCell ⟨g, 2, none⟩ r).setCell ⟨g, 3, none⟩ t) g 78 #[p, q, r, t] := four_set h
/-- What is told of the grid's points. -/
noncomputable def ptX (m : MV) (X Z z x : Nat) : DV × Int := su (tm m.a ((x * Z : Nat) : Int)).1 (tm m.c ((z * X : Nat) : Int)).1 (tm m.e ((X * Z : Nat) : Int)).1
noncomputable def ptY (m : MV) (X Z z x : Nat) : DV × Int := su (tm m.b ((x * Z : Nat) : Int)).1 (tm m.d ((z * X : Nat) : Int)).1 (tm m.f ((X * Z : Nat) : Int)).1
noncomputable def pF (m : MV) (X Z i : Nat) : PV := ⟨(ptX m X Z (i / (X + 1)) (i % (X + 1))).1, (ptY m X Z (i / (X + 1)) (i % (X + 1))).1⟩
noncomputable def pE (m : MV) (X Z z x : Nat) : Int := kp (kp (kp (tm m.a ((x * Z : Nat) : Int)).2 (ptX m X Z z x).2) (tm m.b ((x * Z : Nat) : Int)).2) (ptY m X Z z x).2
noncomputable def rE (m : MV) (X Z z : Nat) : Nat → Int
  | 0 => 0
  | x + 1 => kp (rE m X Z z x) (pE m X Z z x)
noncomputable def gE (m : MV) (X Z : Nat) : Nat → Int
  | 0 => 0
  | z + 1 => kp (gE m X Z z) (kp (kp (tm m.c ((z * X : Nat) : Int)).2 (tm m.d ((z * X : Nat) : Int)).2) (rE m X Z z (X + 1)))
noncomputable def gridE (m : MV) (X Z : Nat) : Int := kp (kp (tm m.e ((X * Z : Nat) : Int)).2 (tm m.f ((X * Z : Nat) : Int)).2) (gE m X Z (Z + 1))
theorem kp_0 (e : Int) : kp e 0 = e := by unfold kp; split <;> simp_all
theorem pF_at (m : MV) (X Z z x : Nat) (hx : x ≤ X) : pF m X Z (z * (X + 1) + x) = ⟨(ptX m X Z z x).1, (ptY m X Z z x).1⟩ := by
  unfold pF
  have h1 : (z * (X + 1) + x) / (X + 1) = z := by rw [Nat.mul_comm, Nat.mul_add_div (by omega), Nat.div_eq_of_lt (by omega)]; omega
  have h2 : (z * (X + 1) + x) % (X + 1) = x := by rw [Nat.mul_comm, Nat.mul_add_mod, Nat.mod_eq_of_lt (by omega)]
  rw [h1, h2]
theorem pF_ok (m : MV) (X Z i : Nat) : (pF m X Z i).Ok := ⟨su_ok _ _ _, su_ok _ _ _⟩
theorem tri_facts {v : World} {g : Nat} {T : TypeId} {a b c : Value} (h : Whole v g T #[a, b, c]) :
    v.cell? ⟨g, 0, none⟩ = some a ∧ v.cell? ⟨g, 1, none⟩ = some b ∧ v.cell? ⟨g, 2, none⟩ = some c ∧ v.frozen? ⟨g, 0, none⟩ = false ∧ v.frozen? ⟨g, 1, none⟩ = false ∧ v.frozen? ⟨g, 2, none⟩ = false ∧ g < v.heap.size :=
  ⟨h.reads 0, h.reads 1, h.reads 2, h.thawed 0, h.thawed 1, h.thawed 2, h.lt⟩
/-- Between two rounds of the grid's loops; b is where the call's own rows begin. -/
structure GL (w : World) (b : Nat) (wr : World) (S : Nat) (e : Int) (P : Nat) (m : MV) (R G B10 B11 : Nat) (te tf : DV) (X Z n : Nat) (v : Value) : Prop where
  sc : SC wr S e
  mat : Whole wr P 42 #[.int .i64 m.a.m, .int .i64 m.a.s, .int .i64 m.b.m, .int .i64 m.b.s, .int .i64 m.c.m, .int .i64 m.c.s, .int .i64 m.d.m, .int .i64 m.d.s, .int .i64 m.e.m, .int .i64 m.e.s, .int .i64 m.f.m, .int .i64 m.f.s]
  fr : FrS S w wr
  low : S < w.heap.size
  lP : w.heap.size ≤ P ∧ P < b
  lR : w.heap.size ≤ R ∧ R < b
  lG : w.heap.size ≤ G ∧ G < b
  size : b ≤ wr.heap.size
  res : Whole wr R 69 #[.int .i64 0, .int .i64 0, .slice none 0 0]
  g : Whole wr G 69 #[.int .i64 (X : Int), .int .i64 (Z : Int), v]
  b10 : Whole wr B10 40 #[.int .i64 te.m, .int .i64 te.s]
  b11 : Whole wr B11 40 #[.int .i64 tf.m, .int .i64 tf.s]
  own : wr.ownsRow b 78 4 v n (rowP (pF m X Z) n)
section
variable {w wr wr' : World} {b S P R G B10 B11 X Z n : Nat} {e e' : Int} {m : MV} {te tf : DV} {v : Value}
theorem GL.gs (h : GL w b wr S e P m R G B10 B11 te tf X Z n v) : GS wr wr S e P m := ⟨h.sc, h.mat, Fr.refl _ _, by have := h.low; have := h.lP; have := h.size; omega, by have := h.lP; have := h.size; omega, by have := h.low; have := h.lP; omega⟩
/-- A piece of the walk has turned block S alone of what was there. -/
theorem GL.on (h : GL w b wr S e P m R G B10 B11 te tf X Z n v) (k : GS wr wr' S e' P m) : GL w b wr' S e' P m R G B10 B11 te tf X Z n v := by
  have ap : ∀ {g : Nat} {T : TypeId} {cs : Array Value}, Whole wr g T cs → T ≠ 66 → Whole wr' g T cs := fun hw hT => k.fr.keeps hw (hw.apart h.sc hT)
  exact ⟨k.sc, k.mat, h.fr.trans k.fr, h.low, h.lP, h.lR, h.lG, Nat.le_trans h.size k.fr.size, ap h.res (by decide), ap h.g (by decide), ap h.b10 (by decide), ap h.b11 (by decide),
    own_frame h.own k.fr (fun g e => by have := (own_lt h.own e).1; have := h.low; have := h.lP; show ¬ g = S; omega)⟩
theorem own_sl {w : World} {base : Nat} {e : TypeId} {size : Nat} {v : Value} {n : Nat} {xs : List Value} (h : w.ownsRow base e size v n xs) : ∃ a c, v = .slice a n c := by
  rcases h.2 with ⟨rfl, rfl⟩ | ⟨g, cap, cur, rfl, _⟩
  · exact ⟨_, _, rfl⟩
  · exact ⟨_, _, rfl⟩
/-- Behind an append to the row and the store of the row. -/
theorem GL.pushW (h : GL w b wr S e P m R G B10 B11 te tf X Z n v) {o : Obj} {w1 : World} {v' : Value} (hg : (wr.alloc o).grownBy w1 v.ownBlock) {g : Nat} {T : TypeId} {cs : Array Value} (hw : Whole wr g T cs) (hT : T ≠ 78) (ne : g ≠ G) : Whole (w1.setCell ⟨G, 2, none⟩ v') g T cs := by
  refine ((hw.old o).kept hg (fun e => ?_)).away (p := ⟨G, 2, none⟩) ne _
  obtain ⟨_, _, cs', hw'⟩ := own_lt h.own e.symm
  exact hw.apart (T' := 78) (cs' := cs') hw' hT rfl
theorem GL.push (h : GL w b wr S e P m R G B10 B11 te tf X Z n v) {o : Obj} {w1 : World} {v' : Value} (hown : w1.ownsRow b 78 4 v' (n + 1) (rowP (pF m X Z) n ++ [.int .i64 (pF m X Z n).x.m, .int .i64 (pF m X Z n).x.s, .int .i64 (pF m X Z n).y.m, .int .i64 (pF m X Z n).y.s])) (hg : (wr.alloc o).grownBy w1 v.ownBlock)
    (nP : P ≠ G) (nR : R ≠ G) (n10 : B10 ≠ G) (n11 : B11 ≠ G) : GL w b (w1.setCell ⟨G, 2, none⟩ v') S e P m R G B10 B11 te tf X Z (n + 1) v' := by
  have hGk : Whole w1 G 69 #[.int .i64 (X : Int), .int .i64 (Z : Int), v] := (h.g.old o).kept hg (fun e => by
    obtain ⟨_, _, cs', hw'⟩ := own_lt h.own e.symm
    exact h.g.apart (T' := 78) (cs' := cs') hw' (by decide) rfl)
  have hGs : Whole (w1.setCell ⟨G, 2, none⟩ v') G 69 #[.int .i64 (X : Int), .int .i64 (Z : Int), v'] := by
    have := hGk.set 2 v'
    simpa using this
  have lG := h.lG
  have lP := h.lP
  have low := h.low
  have hsz : wr.heap.size ≤ w1.heap.size := Nat.le_trans (by simp) hg.size
  refine ⟨h.pushW hg h.sc (by decide) (by omega), h.pushW hg h.mat (by decide) nP, ?_, h.low, h.lP, h.lR, h.lG, by have := h.size; simp; omega, h.pushW hg h.res (by decide) nR, hGs, h.pushW hg h.b10 (by decide) n10, h.pushW hg h.b11 (by decide) n11, ?_⟩
  · exact ((h.fr.alloc o).grown hg (fun j e hj => by have := (own_lt h.own e).1; omega)).set (p := ⟨G, 2, none⟩) (fun k => by simp at k; omega) _
  · rw [← rowP_snoc]
    exact own_frame hown ((Fr.refl (fun j => j = G) w1).setB 2 v') (fun g e => by have := (own_lt hown e).1; show ¬ g = G; omega)
end
theorem tri_set {w : World} {g : Nat} {T : TypeId} {a b c p q r : Value} (h : Whole w g T #[a, b, c]) : Whole (((w.setCell ⟨g, 0, none⟩ p).setCell ⟨g, 1, none⟩ q).setCell ⟨g, 2, none⟩ r) g T #[p, q, r] := by
  have := ((h.set 0 p).set 1 q).set 2 r
  simpa using this
theorem ret_grid {fn : Func} {a : Act} {Q : Ending → World → Prop} {W : World} {g : Nat} {X Z : Int} {v : Value} (hW : Whole W g 69 #[.int .i64 X, .int .i64 Z, v])
    (hr : ∀ V : World, Whole V g 69 #[.int .i64 X, .int .i64 Z, v] → (results fn a.tmps).run Try.prog V = .ok (.agg #[.int .i64 X, .int .i64 Z, v]) V) (hd : a.defers = []) (hQ : Q (.returned (.agg #[.int .i64 X, .int .i64 Z, v])) W) : bodyPost Try.prog fn Q .ret a W :=
  bodyPost_ret (hr W hW) hd hQ
end Go.Proofs.Ytmleoagdelgddaa
