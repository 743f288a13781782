/- raster's reference: Covered. Written by gen_cd.py. -/
import Derived.Test.YtmleoagdelgddaaRasCe
import Derived.Test.YtmleoagdelgddaaRefBoxM
import Derived.BigQuiet
import Derived.Deep.QuietTactic
namespace Go.Proofs.Ytmleoagdelgddaa
open Go.RowKit Dec

/-- A row of one's own, later. -/
theorem own_later {v v' : World} {base size n : Nat} {T : TypeId} {x : Value} {xs : List Value} (h : v.ownsRow base T size x n xs) (hb : Below v.heap.size v v') : v'.ownsRow base T size x n xs :=
  own_frame h (fr_below hb) (fun _ _ e => e)
def bls (l : List Bool) : List Value := l.map Value.bool
theorem infoBl : (Try.prog.info? 4).map (fun i => (i.zero, i.size, i.bytes)) = some (some (.bool false), 1, 1) := by kernel_rfl
theorem info_bl : ∃ i, Try.prog.info? 4 = some i ∧ i.zero = some (.bool false) ∧ i.size = 1 ∧ i.bytes = 1 := by
  have h := infoBl
  cases hi : Try.prog.info? 4 with
  | none => rw [hi] at h; cases h
  | some i =>
    rw [hi] at h
    injection h with h
    injection h with h1 h2
    injection h2 with h2 h3
    exact ⟨i, rfl, h1, h2, h3⟩
theorem BoolsAt.of_own {w : World} {base : Nat} {v : Value} {n : Nat} {l : List Bool} (h : w.ownsRow base 4 1 v n (bls l)) : ∃ A c, v = .slice A n c ∧ BoolsAt w A n c l := by
  obtain ⟨hl, h⟩ := h
  have hl : l.length = n := by simpa [bls] using hl
  rcases h with ⟨rfl, rfl⟩ | ⟨g, cap, cur, rfl, hg, hw, hnc, hc, hs, ht⟩
  · exact ⟨none, 0, rfl, hl, by omega, by omega, fun h => absurd h (by omega)⟩
  · have hlt : g < w.heap.size := Whole.lt (T := 4) hw
    refine ⟨_, cap, rfl, hl, hnc, by unfold maxLen at hc; omega, fun hn => ⟨g, 0, rfl, hlt, fun i b hi => ?_⟩⟩
    have hil : i < n := by
      have := (List.getElem?_eq_some_iff.1 hi).1
      omega
    have e1 : (bls l)[i]? = some (.bool b) := by simp [bls, hi]
    rw [← ht, List.getElem?_take, if_pos (by omega)] at e1
    have hw' : Whole w g 4 cur := hw
    rw [hw'.reads, Nat.zero_add, ← e1, Array.getElem?_toList]
theorem infoPt22 : (Try.prog.info? 78).map (fun i => (i.zero, i.size, i.bytes)) = some (some (.agg #[.int .i64 0, .int .i64 0, .int .i64 0, .int .i64 0]), 4, 32) := by kernel_rfl
theorem info_pt22 : ∃ i, Try.prog.info? 78 = some i ∧ i.zero = some (.agg #[.int .i64 0, .int .i64 0, .int .i64 0, .int .i64 0]) ∧ i.size = 4 ∧ i.bytes = 32 := by
  have h := infoPt22
  cases hi : Try.prog.info? 78 with
  | none => rw [hi] at h; cases h
  | some i =>
    rw [hi] at h
    injection h with h
    injection h with h1 h2
    injection h2 with h2 h3
    exact ⟨i, rfl, h1, h2, h3⟩
theorem four_pts {w : World} {B : Nat} {T : TypeId} {G : Nat → PV} {p0 p1 p2 p3 : PV} (h : Whole w B T #[.int .i64 p0.x.m, .int .i64 p0.x.s, .int .i64 p0.y.m, .int .i64 p0.y.s, .int .i64 p1.x.m, .int .i64 p1.x.s, .int .i64 p1.y.m, .int .i64 p1.y.s, .int .i64 p2.x.m, .int .i64 p2.x.s, .int .i64 p2.y.m, .int .i64 p2.y.s, .int .i64 p3.x.m, .int .i64 p3.x.s, .int .i64 p3.y.m, .int .i64 p3.y.s]) (g0 : G 0 = p0) (g1 : G 1 = p1) (g2 : G 2 = p2) (g3 : G 3 = p3) : ∀ i < 4, PAt w B (0 + i * 4) (G i) := by
  intro i hi
  rcases (by omega : i = 0 ∨ i = 1 ∨ i = 2 ∨ i = 3) with rfl | rfl | rfl | rfl
  · rw [g0]; exact ⟨h.reads 0, h.reads 1, h.reads 2, h.reads 3⟩
  · rw [g1]; exact ⟨h.reads 4, h.reads 5, h.reads 6, h.reads 7⟩
  · rw [g2]; exact ⟨h.reads 8, h.reads 9, h.reads 10, h.reads 11⟩
  · rw [g3]; exact ⟨h.reads 12, h.reads 13, h.reads 14, h.reads 15⟩
theorem meets_is (a b : BV) : ∃ E, MeetIs a b (meetsB a b) E := by
  unfold meetsB
  by_cases h : a.Ok ∧ b.Ok
  · exact ⟨0, .inl ⟨h.1, h.2, by rw [decide_eq_true h, Bool.true_and], rfl⟩⟩
  · exact ⟨1, .inr ⟨h, by rw [decide_eq_false h, Bool.false_and], rfl⟩⟩
theorem bx_store {w v : World} {g : Nat} {b : BV} (h : Whole v g 52 #[.int .i64 0, .int .i64 0, .int .i64 0, .int .i64 0, .int .i64 0, .int .i64 0, .int .i64 0, .int .i64 0]) (hb : Below w.heap.size w v) (hg : w.heap.size ≤ g) : Whole ((((((((v.setCell ⟨g, 0, none⟩ (.int .i64 b.x0.m)).setCell ⟨g, 1, none⟩ (.int .i64 b.x0.s)).setCell ⟨g, 2, none⟩ (.int .i64 b.y0.m)).setCell ⟨g, 3, none⟩ (.int .i64 b.y0.s)).setCell ⟨g, 4, none⟩ (.int .i64 b.x1.m)).setCell ⟨g, 5, none⟩ (.int .i64 b.x1.s)).setCell ⟨g, 6, none⟩ (.int .i64 b.y1.m)).setCell ⟨g, 7, none⟩ (.int .i64 b.y1.s)) g 52 #[.int .i64 b.x0.m, .int .i64 b.x0.s, .int .i64 b.y0.m, .int .i64 b.y0.s, .int .i64 b.x1.m, .int .i64 b.x1.s, .int .i64 b.y1.m, .int .i64 b.y1.s] ∧ Below w.heap.size w ((((((((v.setCell ⟨g, 0, none⟩ (.int .i64 b.x0.m)).setCell ⟨g, 1, none⟩ (.int .i64 b.x0.s)).setCell ⟨g, 2, none⟩ (.int .i64 b.y0.m)).setCell ⟨g, 3, none⟩ (.int .i64 b.y0.s)).setCell ⟨g, 4, none⟩ (.int .i64 b.x1.m)).setCell ⟨g, 5, none⟩ (.int .i64 b.x1.s)).setCell ⟨g, 6, none⟩ (.int .i64 b.y1.m)).setCell ⟨g, 7, none⟩ (.int .i64 b.y1.s)) :=
  ⟨box_set h, (((((((hb.setCell (p := ⟨g, 0, none⟩) hg _).setCell (p := ⟨g, 1, none⟩) hg _).setCell (p := ⟨g, 2, none⟩) hg _).setCell (p := ⟨g, 3, none⟩) hg _).setCell (p := ⟨g, 4, none⟩) hg _).setCell (p := ⟨g, 5, none⟩) hg _).setCell (p := ⟨g, 6, none⟩) hg _).setCell (p := ⟨g, 7, none⟩) hg _⟩
/-- What the reference's Covered answers. -/
def AnsR (m : MV) (W H : Int) (l : List BV) (w : World) (A : Option Addr) (n c : Nat) : Prop :=
  (covE m W H l ≠ 0 ∧ A = none ∧ n = 0 ∧ c = 0) ∨ (covE m W H l = 0 ∧ ∃ X Z : Nat, W = (X : Int) ∧ H = (Z : Int) ∧ n = X * Z ∧ BoolsAt w A n c ((List.range (X * Z)).map (cov (pF m X Z) ((Z + 1) * (X + 1)) X Z (l.map (bm · ((X * Z : Nat) : Int))))))
def RCovIs (m : MV) (W H : Int) (l : List BV) (w : World) (e : Ending) (w' : World) : Prop := ∃ A n c, e = .returned (.tuple #[.slice A n c, .int .i64 (covE m W H l)]) ∧ AnsR m W H l w' A n c ∧ Below w.heap.size w w'
theorem RCovIs.bad {m : MV} {W H : Int} {l : List BV} {w w' : World} (h : ¬ (sizeB W H = true ∧ m.Ok ∧ ∀ b ∈ l, b.Ok)) (hb : Below w.heap.size w w') : RCovIs m W H l w (.returned (.tuple #[.slice none 0 0, .int .i64 1])) w' :=
  ⟨none, 0, 0, by rw [covE_bad h], .inl ⟨by rw [covE_bad h]; decide, rfl, rfl, rfl⟩, hb⟩
set_option maxRecDepth 100000 in
set_option maxHeartbeats 16000000 in
theorem rcovered_any (m : MV) (W H : Int) (A : Option Addr) (n c : Nat) (l : List BV) (w : World) (h : BxsAt w A n c l) (hn : n ≤ 1000) :
    Calls Try.prog 23 #[.agg #[.int .i64 m.a.m, .int .i64 m.a.s, .int .i64 m.b.m, .int .i64 m.b.s, .int .i64 m.c.m, .int .i64 m.c.s, .int .i64 m.d.m, .int .i64 m.d.s, .int .i64 m.e.m, .int .i64 m.e.s, .int .i64 m.f.m, .int .i64 m.f.s], .int .i64 W, .int .i64 H, .slice A n c] w (RCovIs m W H l w) := by
  have HP := Lib.hid (fun w => pixels_any W H w)
  have HM0 := Lib.hid (Whole.made w 42 #[.int .i64 m.a.m, .int .i64 m.a.s, .int .i64 m.b.m, .int .i64 m.b.s, .int .i64 m.c.m, .int .i64 m.c.s, .int .i64 m.d.m, .int .i64 m.d.s, .int .i64 m.e.m, .int .i64 m.e.s, .int .i64 m.f.m, .int .i64 m.f.s])
  have HB0 := Lib.hid ((Below.refl w.heap.size w).alloc (Nat.le_refl _) (.cells #[.int .i64 m.a.m, .int .i64 m.a.s, .int .i64 m.b.m, .int .i64 m.b.s, .int .i64 m.c.m, .int .i64 m.c.s, .int .i64 m.d.m, .int .i64 m.d.s, .int .i64 m.e.m, .int .i64 m.e.s, .int .i64 m.f.m, .int .i64 m.f.s] 42))
  cases hs : sizeB W H
  · have HX := Lib.hid (fun w' hb => RCovIs.bad (m := m) (l := l) (w := w) (w' := w') (fun k : sizeB W H = true ∧ m.Ok ∧ ∀ b ∈ l, b.Ok => by rw [hs] at k; cases k.1) hb)
    rw [hs] at HP
    clear hs h
    go_enter Try.func23, Try.ntmps23
    go_wp2_with fail
    refine (HP.out _).mono ?_
    rintro e w1 ⟨rfl, rfl⟩
    go_wp2_with fail
    go_ret2
    exact HX.out _ HB0.out
  by_cases hm : m.Ok
  case neg =>
    have HX := Lib.hid (fun w' hb => RCovIs.bad (W := W) (H := H) (l := l) (w := w) (w' := w') (fun k : sizeB W H = true ∧ m.Ok ∧ ∀ b ∈ l, b.Ok => hm k.2.1) hb)
    have HR := Lib.hid (fun w => mright_any m w false (decide_eq_false hm))
    rw [hs] at HP
    clear hs h hm
    have cm := HM0.out.reads
    have lm := HM0.out.lt
    go_enter Try.func23, Try.ntmps23
    go_wp2_with fail
    refine (HP.out _).mono ?_
    rintro e w1 ⟨rfl, rfl⟩
    go_wp2_with fail
    refine (HR.out _).mono ?_
    rintro e w2 ⟨rfl, hb⟩
    have HB2 := Lib.hid (HB0.out.trans (hb.mono HB0.out.size))
    clear hb
    go_wp2_with fail
    go_ret2
    exact HX.out _ HB2.out
  obtain ⟨X, Z, rfl, rfl, hX, hZ, hXZ⟩ := sizeB_nat hs
  have HX := Lib.hid (fun w' hb (k : ¬ ∀ b ∈ l, b.Ok) => RCovIs.bad (m := m) (W := (X : Int)) (H := (Z : Int)) (l := l) (w := w) (w' := w') (fun q : sizeB (X : Int) (Z : Int) = true ∧ m.Ok ∧ ∀ b ∈ l, b.Ok => k q.2.2) hb)
  have HE := Lib.hid (fun k : ∀ b ∈ l, b.Ok => covE_is hs hm k)
  have HR := Lib.hid (fun w => mright_any m w true (decide_eq_true hm))
  rw [hs] at HP
  obtain ⟨N, hN⟩ : ∃ N, X * Z = N := ⟨_, rfl⟩
  have hN9 : N ≤ 65536 := by rw [← hN]; exact hXZ
  have hX9 : X ≤ 65536 := Nat.le_trans (Nat.le_mul_of_pos_right X hZ) hXZ
  have hZ9 : Z ≤ 65536 := Nat.le_trans (Nat.le_mul_of_pos_left Z hX) hXZ
  have HCO := Lib.hid (fun x z w (hx : x ≤ X) (hz : z ≤ Z) => rcorner_any m X Z x z w hm (by
    have : x * Z ≤ X * Z := Nat.mul_le_mul_right _ hx
    omega) (by
    have : z * X ≤ Z * X := Nat.mul_le_mul_right _ hz
    have e : Z * X = X * Z := Nat.mul_comm _ _
    omega) (by omega))
  have hmul : IntKind.i64.wrap ((X : Int) * (Z : Int)) = (N : Int) := by rw [← Int.natCast_mul, hN, IntKind.wrap_i64]; omega
  have HN := Lib.hid hN
  have HL := Lib.hid h.len
  have hcap := h.cap
  have htop := h.top
  have HH := Lib.hid h
  have HNK := Lib.hid (nat_ok N (by omega))
  rw [hN] at HE
  clear hs h hm hN
  have cm := HM0.out.reads
  have lm := HM0.out.lt
  go_enter Try.func23, Try.ntmps23
  go_wp2_with fail
  refine (HP.out _).mono ?_
  rintro e w1 ⟨rfl, rfl⟩
  go_wp2_with fail
  refine (HR.out _).mono ?_
  rintro e w1 ⟨rfl, hb⟩
  have HB1 := Lib.hid (HB0.out.trans (hb.mono HB0.out.size))
  have HM1 := Lib.hid (HM0.out.here hb)
  clear hb cm lm HP HR HM0 HB0
  go_wp2_with fail
  go_loopw [10, 11, 12] (fun s10 s11 s12 wr => ∃ k : Nat, k ≤ n ∧ s12 = .int .i64 (k : Int) ∧ s10 = .bool (rT (l.take k) (N : Int)) ∧ Hid (wr.ownsRow w1.heap.size 52 8 s11 k (rowBx ((l.map (bm · (N : Int))).take k)) ∧ Below w1.heap.size w1 wr) ∧ Hid (∀ b ∈ l.take k, b.Ok)) (fun _ _ s12 _ => n - (intOf s12).toNat)
  case atStart => exact ⟨0, by omega, rfl, by simp [rT], Lib.hid ⟨World.ownsRow_nil _ _ _ _, Below.refl _ _⟩, Lib.hid (fun b hb => by simp at hb)⟩
  case round =>
    obtain ⟨k, hk, rfl, rfl, HQ, HO⟩ := hrel
    obtain ⟨a5, c5, rfl⟩ := own_sl HQ.out.1
    have hfull : Below w.heap.size w wr := HB1.out.trans (HQ.out.2.mono HB1.out.size)
    obtain ⟨t0, ht0⟩ : ∃ t, rT (l.take k) (N : Int) = t := ⟨_, rfl⟩
    by_cases hlt : k < n
    · have d1 : decide ((k : Int) < (n : Int)) = true := decide_eq_true (by omega)
      have HT0 := Lib.hid ht0
      obtain ⟨b, hb⟩ : ∃ b, l[k]? = some b := ⟨_, List.getElem?_eq_getElem (by rw [HL.out]; exact hlt)⟩
      obtain ⟨R2, o2, rfl, hR2, hcell⟩ := (HH.out.below hfull).at_ (by omega)
      obtain ⟨c0, c1, c3, c4, c6, c7, c8, c9⟩ := (hcell k b hb).cells
      have b0 : (0 : Int) ≤ (k : Int) := by omega
      have b1 : (k : Int) < (n : Int) := by omega
      have HF := Lib.hid hfull
      have HMEM := Lib.hid (List.mem_of_getElem? hb)
      have HTK := Lib.hid (And.intro (show (l.map (bm · (N : Int))).take (k + 1) = (l.map (bm · (N : Int))).take k ++ [bm b (N : Int)] by rw [List.take_add_one, List.getElem?_map, hb]; rfl) (And.intro (rT_step (N := (N : Int)) hb) hb))
      rw [ht0]
      by_cases hok : b.Ok
      case neg =>
        have HBR := Lib.hid (fun w => bright_any b w false (decide_eq_false hok))
        have HNO := Lib.hid (show ¬ ∀ q ∈ l, q.Ok from fun q => hok (q b HMEM.out))
        have HB5 := Lib.hid (hfull.alloc hfull.size (.cells #[.int .i64 b.x0.m, .int .i64 b.x0.s, .int .i64 b.y0.m, .int .i64 b.y0.s, .int .i64 b.x1.m, .int .i64 b.x1.s, .int .i64 b.y1.m, .int .i64 b.y1.s] 52))
        unfold BV.val at HBR
        clear hcell hb hfull hok ht0
        go_wp2_with fail
        refine (HBR.out _).mono ?_
        rintro e w2 ⟨rfl, hb⟩
        have HB6 := Lib.hid (HB5.out.trans (hb.mono HB5.out.size))
        clear hb
        go_wp2_with fail
        go_ret2
        exact HX.out _ HB6.out HNO.out
      have HBR := Lib.hid (fun w => bright_any b w true (decide_eq_true hok))
      obtain ⟨k0, k1, k2, k3⟩ := BV.oks hok
      have T0 := Lib.hid (fun w => rtimes_any b.x0 (N : Int) w k0 HNK.out)
      have T1 := Lib.hid (fun w => rtimes_any b.y0 (N : Int) w k1 HNK.out)
      have T2 := Lib.hid (fun w => rtimes_any b.x1 (N : Int) w k2 HNK.out)
      have T3 := Lib.hid (fun w => rtimes_any b.y1 (N : Int) w k3 HNK.out)
      have HO2 := Lib.hid (show ∀ q ∈ l.take (k + 1), q.Ok from fun q hq => by
        rw [List.take_add_one, hb] at hq
        rcases List.mem_append.1 hq with hq | hq
        · exact HO.out q hq
        · simp at hq; subst hq; exact hok)
      have HFL := Lib.hid (be_flag b (N : Int))
      have HBM : Hid (bm b (N : Int) = ⟨(tm b.x0 (N : Int)).1, (tm b.y0 (N : Int)).1, (tm b.x1 (N : Int)).1, (tm b.y1 (N : Int)).1⟩) := Lib.hid rfl
      unfold BV.val at HBR
      unfold TimesIs at T0 T1 T2 T3
      obtain ⟨⟨r0, e0⟩, q0⟩ : ∃ z, tm b.x0 (N : Int) = z := ⟨_, rfl⟩
      obtain ⟨⟨r1, e1⟩, q1⟩ : ∃ z, tm b.y0 (N : Int) = z := ⟨_, rfl⟩
      obtain ⟨⟨r2, e2⟩, q2⟩ : ∃ z, tm b.x1 (N : Int) = z := ⟨_, rfl⟩
      obtain ⟨⟨r3, e3⟩, q3⟩ : ∃ z, tm b.y1 (N : Int) = z := ⟨_, rfl⟩
      rw [q0] at T0 HFL HBM
      rw [q1] at T1 HFL HBM
      rw [q2] at T2 HFL HBM
      rw [q3] at T3 HFL HBM
      dsimp only at T0 T1 T2 T3 HFL HBM
      obtain ⟨f0, g0⟩ : ∃ z, (e0 == 0) = z := ⟨_, rfl⟩
      obtain ⟨f1, g1⟩ : ∃ z, (e1 == 0) = z := ⟨_, rfl⟩
      obtain ⟨f2, g2⟩ : ∃ z, (e2 == 0) = z := ⟨_, rfl⟩
      obtain ⟨f3, g3⟩ : ∃ z, (e3 == 0) = z := ⟨_, rfl⟩
      rw [g0] at T0 HFL
      rw [g1] at T1 HFL
      rw [g2] at T2 HFL
      rw [g3] at T3 HFL
      have hfb := (Below.refl wr.heap.size wr).alloc (Nat.le_refl _) (.cells #[.int .i64 b.x0.m, .int .i64 b.x0.s, .int .i64 b.y0.m, .int .i64 b.y0.s, .int .i64 b.x1.m, .int .i64 b.x1.s, .int .i64 b.y1.m, .int .i64 b.y1.s] 52)
      have HG := Lib.hid (And.intro (Whole.made wr 52 #[.int .i64 b.x0.m, .int .i64 b.x0.s, .int .i64 b.y0.m, .int .i64 b.y0.s, .int .i64 b.x1.m, .int .i64 b.x1.s, .int .i64 b.y1.m, .int .i64 b.y1.s]) hfb)
      clear hcell hb hfull hok ht0 k0 k1 k2 k3 q0 q1 q2 q3 g0 g1 g2 g3 hfb
      go_wp2_with fail
      refine (HBR.out _).mono ?_
      rintro e v0 ⟨rfl, hb⟩
      have K0_0 := Lib.hid (HG.out.1.here hb)
      have KB0 := Lib.hid (HG.out.2.trans (hb.mono HG.out.2.size))
      obtain ⟨⟨x0, x1, x2, x3, x4, x5, x6, x7⟩, x8⟩ := eight_facts K0_0.out
      clear hb c0 c1 c3 c4 c6 c7 c8 c9
      go_wp2_with fail
      refine (T0.out _).mono ?_
      rintro e v1 ⟨rfl, hb⟩
      have K1_0 := Lib.hid ((K0_0.out.here hb).old (.cells #[.int .i64 r0.m, .int .i64 r0.s] 40))
      have K1_1 := Lib.hid (Whole.made v1 40 #[.int .i64 r0.m, .int .i64 r0.s])
      have KB1 := Lib.hid ((KB0.out.trans (hb.mono KB0.out.size)).alloc (KB0.out.trans (hb.mono KB0.out.size)).size (.cells #[.int .i64 r0.m, .int .i64 r0.s] 40))
      clear x0 x1 x2 x3 x4 x5 x6 x7 x8
      obtain ⟨⟨x0, x1, x2, x3, x4, x5, x6, x7⟩, x8⟩ := eight_facts (K0_0.out.here hb)
      clear hb
      go_wp2_with fail
      refine (T1.out _).mono ?_
      rintro e v2 ⟨rfl, hb⟩
      have K2_0 := Lib.hid ((K1_0.out.here hb).old (.cells #[.int .i64 r1.m, .int .i64 r1.s] 40))
      have K2_1 := Lib.hid ((K1_1.out.here hb).old (.cells #[.int .i64 r1.m, .int .i64 r1.s] 40))
      have K2_2 := Lib.hid (Whole.made v2 40 #[.int .i64 r1.m, .int .i64 r1.s])
      have KB2 := Lib.hid ((KB1.out.trans (hb.mono KB1.out.size)).alloc (KB1.out.trans (hb.mono KB1.out.size)).size (.cells #[.int .i64 r1.m, .int .i64 r1.s] 40))
      clear x0 x1 x2 x3 x4 x5 x6 x7 x8
      obtain ⟨⟨x0, x1, x2, x3, x4, x5, x6, x7⟩, x8⟩ := eight_facts (K1_0.out.here hb)
      clear hb
      go_wp2_with fail
      refine (T2.out _).mono ?_
      rintro e v3 ⟨rfl, hb⟩
      have K3_0 := Lib.hid ((K2_0.out.here hb).old (.cells #[.int .i64 r2.m, .int .i64 r2.s] 40))
      have K3_1 := Lib.hid ((K2_1.out.here hb).old (.cells #[.int .i64 r2.m, .int .i64 r2.s] 40))
      have K3_2 := Lib.hid ((K2_2.out.here hb).old (.cells #[.int .i64 r2.m, .int .i64 r2.s] 40))
      have K3_3 := Lib.hid (Whole.made v3 40 #[.int .i64 r2.m, .int .i64 r2.s])
      have KB3 := Lib.hid ((KB2.out.trans (hb.mono KB2.out.size)).alloc (KB2.out.trans (hb.mono KB2.out.size)).size (.cells #[.int .i64 r2.m, .int .i64 r2.s] 40))
      clear x0 x1 x2 x3 x4 x5 x6 x7 x8
      obtain ⟨⟨x0, x1, x2, x3, x4, x5, x6, x7⟩, x8⟩ := eight_facts (K2_0.out.here hb)
      clear hb
      go_wp2_with fail
      refine (T3.out _).mono ?_
      rintro e v4 ⟨rfl, hb⟩
      have K4_0 := Lib.hid ((K3_0.out.here hb).old (.cells #[.int .i64 r3.m, .int .i64 r3.s] 40))
      have K4_1 := Lib.hid ((K3_1.out.here hb).old (.cells #[.int .i64 r3.m, .int .i64 r3.s] 40))
      have K4_2 := Lib.hid ((K3_2.out.here hb).old (.cells #[.int .i64 r3.m, .int .i64 r3.s] 40))
      have K4_3 := Lib.hid ((K3_3.out.here hb).old (.cells #[.int .i64 r3.m, .int .i64 r3.s] 40))
      have K4_4 := Lib.hid (Whole.made v4 40 #[.int .i64 r3.m, .int .i64 r3.s])
      have KB4 := Lib.hid ((KB3.out.trans (hb.mono KB3.out.size)).alloc (KB3.out.trans (hb.mono KB3.out.size)).size (.cells #[.int .i64 r3.m, .int .i64 r3.s] 40))
      clear x0 x1 x2 x3 x4 x5 x6 x7 x8
      obtain ⟨y10, y11, y12, y13, y14⟩ := dc_facts (K3_1.out.here hb)
      obtain ⟨y20, y21, y22, y23, y24⟩ := dc_facts (K3_2.out.here hb)
      obtain ⟨y30, y31, y32, y33, y34⟩ := dc_facts (K3_3.out.here hb)
      clear hb
      go_upto_region 15 with fail
      have hV : ∃ V, v4.alloc (.cells #[.int .i64 r3.m, .int .i64 r3.s] 40) = V := ⟨_, rfl⟩
      go_cut [10] from 96 to 107 (fun s wx => s = .bool (rT (l.take (k + 1)) (N : Int)) ∧ wx = v4.alloc (.cells #[.int .i64 r3.m, .int .i64 r3.s] 40))
      case first =>
        cases t0
        · go_wp2_with fail
          go_meet
          exact ⟨by rw [HTK.out.2.1, HT0.out, HFL.out]; rfl, rfl⟩
        cases f0
        · go_wp2_with fail
          go_meet
          exact ⟨by rw [HTK.out.2.1, HT0.out, HFL.out]; rfl, rfl⟩
        cases f1
        · go_wp2_with fail
          go_meet
          exact ⟨by rw [HTK.out.2.1, HT0.out, HFL.out]; rfl, rfl⟩
        cases f2
        · go_wp2_with fail
          go_meet
          exact ⟨by rw [HTK.out.2.1, HT0.out, HFL.out]; rfl, rfl⟩
        go_wp2_with fail
        go_meet
        exact ⟨by rw [HTK.out.2.1, HT0.out, HFL.out]; rfl, rfl⟩
      case rest =>
        obtain ⟨rfl, rfl⟩ := hcut
        have HOW := Lib.hid (own_later HQ.out.1 KB4.out)
        have HBW := Lib.hid (HQ.out.2.trans (KB4.out.mono HQ.out.2.size))
        obtain ⟨z10, z11, z12, z13, z14⟩ := dc_facts K4_1.out
        obtain ⟨z20, z21, z22, z23, z24⟩ := dc_facts K4_2.out
        obtain ⟨z30, z31, z32, z33, z34⟩ := dc_facts K4_3.out
        obtain ⟨z40, z41, z42, z43, z44⟩ := dc_facts K4_4.out
        generalize v4.alloc (.cells #[.int .i64 r3.m, .int .i64 r3.s] 40) = V at *
        obtain ⟨i0, hi, hz0, hz1, hz2⟩ := info_bx
        clear y10 y11 y12 y13 y14 y20 y21 y22 y23 y24 y30 y31 y32 y33 y34
        go_wp2_with (at_builtin; refine wpList_append_own _ rfl _ _ 43 rfl w1.heap.size 52 i0 (.agg #[.int .i64 0, .int .i64 0, .int .i64 0, .int .i64 0, .int .i64 0, .int .i64 0, .int .i64 0, .int .i64 0]) 8 64 Try.underlying43 hi hz0 hz1 hz2 rfl (by decide) _ _ _ rfl (HOW.out.alloc _) ⟨V.heap.size, 0, none⟩ 1 1 [.int .i64 r0.m, .int .i64 r0.s, .int .i64 r1.m, .int .i64 r1.s, .int .i64 r2.m, .int .i64 r2.s, .int .i64 r3.m, .int .i64 r3.s] rfl rfl (World.news_of_block (cs := #[.int .i64 r0.m, .int .i64 r0.s, .int .i64 r1.m, .int .i64 r1.s, .int .i64 r2.m, .int .i64 r2.s, .int .i64 r3.m, .int .i64 r3.s]) (t := 52) (fr := (0, 0)) (heap_alloc_new _ _)) ?p1 ?p2 ?p3 ?p4 ?_)
        case p1 => simp [Value.oneCell']
        case p2 => unfold maxLen; omega
        case p3 => omega
        case p4 => have := HBW.out.size; simp; omega
        intro v' w6 hown' hgrow _
        have hown2 : w6.ownsRow w1.heap.size 52 8 v' (k + 1) (rowBx ((l.map (bm · (N : Int))).take (k + 1))) := by
          rw [HTK.out.1, ← rowBx_snoc, HBM.out]
          exact hown'
        have hb6 : Below w1.heap.size w1 w6 := (HBW.out.alloc HBW.out.size _).grown hgrow (by have := HBW.out.size; simp; omega) (fun j e => (own_lt HOW.out e).1)
        have HO6 := Lib.hid (And.intro hown2 hb6)
        clear hown' hgrow hown2 hb6
        go_wp2_with fail
        go_roundw
        case rel => exact ⟨k + 1, by omega, by go_num, rfl, HO6, HO2⟩
        case measure => simp [intOf]; omega
    · obtain rfl : k = n := by omega
      have d1 : decide ((k : Int) < (k : Int)) = false := by simp
      have hlk : l.take k = l := List.take_of_length_le (by rw [HL.out]; exact Nat.le_refl _)
      have hlk2 : (l.map (bm · (N : Int))).take k = l.map (bm · (N : Int)) := List.take_of_length_le (by rw [List.length_map, HL.out]; exact Nat.le_refl _)
      rw [hlk] at HO ht0 ⊢
      rw [hlk2] at HQ
      have HALL := Lib.hid (show ∀ b ∈ l, b.Ok from HO.out)
      have HE1 := Lib.hid (HE.out HO.out)
      rw [ht0] at HE1 ⊢
      have HM2 := Lib.hid (HM1.out.here HQ.out.2)
      have HF := Lib.hid hfull
      obtain ⟨A5, c6, e6, h6⟩ := BxsAt.of_own HQ.out.1
      injection e6 with e6 _ e7
      subst e6 e7
      have HFAR := Lib.hid h6
      have hcap5 := h6.cap
      have htop5 := h6.top
      clear hlk hlk2 ht0 hfull h6 HX HE HO HM1 HB1 HQ HH
      go_wp2_with fail
      generalize wr = W2 at *
      have hPn : (Z + 1) * (X + 1) ≤ 300000 := by
        have e1 : (Z + 1) * (X + 1) = X * Z + Z + X + 1 := by rw [Nat.add_mul, Nat.mul_add, Nat.one_mul, Nat.mul_one, Nat.mul_comm Z X]; omega
        have := HN.out
        omega
      go_loopw [10, 22, 23] (fun s10 s22 s23 wr => ∃ z : Nat, z ≤ Z + 1 ∧ s23 = .int .i64 (z : Int) ∧ s10 = .bool (t0 && gT m X Z (z * (X + 1))) ∧ Hid (wr.ownsRow W2.heap.size 78 4 s22 (z * (X + 1)) (rowP (pF m X Z) (z * (X + 1))) ∧ Below W2.heap.size W2 wr)) (fun _ _ s23 _ => Z + 1 - (intOf s23).toNat)
      case atStart => exact ⟨0, by omega, rfl, by simp [gT], Lib.hid (by rw [Nat.zero_mul]; exact ⟨World.ownsRow_nil _ _ _ _, Below.refl _ _⟩)⟩
      case round =>
        obtain ⟨z, hz, rfl, rfl, HQ⟩ := hrel
        obtain ⟨a8, c8, rfl⟩ := own_sl HQ.out.1
        by_cases hlz : z ≤ Z
        · have d2 : decide ((z : Int) ≤ (Z : Int)) = true := decide_eq_true (by omega)
          have d2' : decide (z ≤ Z) = true := decide_eq_true hlz
          go_wp2_with fail
          generalize wr = W3 at *
          go_loopw [10, 22, 24] (fun s10 s22 s24 wr => ∃ x : Nat, x ≤ X + 1 ∧ s24 = .int .i64 (x : Int) ∧ s10 = .bool (t0 && gT m X Z (z * (X + 1) + x)) ∧ Hid (wr.ownsRow W2.heap.size 78 4 s22 (z * (X + 1) + x) (rowP (pF m X Z) (z * (X + 1) + x)) ∧ Below W2.heap.size W2 wr)) (fun _ _ s24 _ => X + 1 - (intOf s24).toNat)
          case atStart => exact ⟨0, by omega, rfl, rfl, Lib.hid HQ.out⟩
          case round =>
            obtain ⟨x, hx, rfl, rfl, HR⟩ := hrel
            obtain ⟨a9, c9, rfl⟩ := own_sl HR.out.1
            by_cases hlx : x ≤ X
            · have d3 : decide ((x : Int) ≤ (X : Int)) = true := decide_eq_true (by omega)
              have d3' : decide (x ≤ X) = true := decide_eq_true hlx
              have HCR := Lib.hid (fun w => HCO.out x z w hlx hlz)
              unfold CornIs at HCR
              obtain ⟨p, hp⟩ : ∃ p, (ptX m X Z z x).1 = p := ⟨_, rfl⟩
              obtain ⟨q, hq⟩ : ∃ p, (ptY m X Z z x).1 = p := ⟨_, rfl⟩
              have HPF := Lib.hid (show pF m X Z (z * (X + 1) + x) = ⟨p, q⟩ by rw [pF_at m X Z z x hlx, hp, hq])
              have HGT := Lib.hid (gT_step m X Z z x hlx)
              obtain ⟨T, hT⟩ : ∃ T, (t0 && gT m X Z (z * (X + 1) + x)) = T := ⟨_, rfl⟩
              obtain ⟨cb, hcb⟩ : ∃ T, cB m X Z z x = T := ⟨_, rfl⟩
              have HTN := Lib.hid (show (t0 && gT m X Z (z * (X + 1) + x + 1)) = (T && cb) by rw [HGT.out, hcb, ← hT, Bool.and_assoc])
              rw [hp, hq, hcb] at HCR
              rw [hT]
              have hn9 : z * (X + 1) + x ≤ 300000 := by
                have h1 : (z + 1) * (X + 1) ≤ (Z + 1) * (X + 1) := Nat.mul_le_mul_right _ (by omega)
                have h3 : (z + 1) * (X + 1) = z * (X + 1) + (X + 1) := Nat.succ_mul ..
                omega
              obtain ⟨nn, hnn⟩ : ∃ nn, z * (X + 1) + x = nn := ⟨_, rfl⟩
              have HNN := Lib.hid hnn
              rw [hnn] at HR HPF HTN hn9
              rw [hnn]
              have cm := (HM2.out.here HR.out.2).reads
              have lm := (HM2.out.here HR.out.2).lt
              clear hp hq hT hcb HGT hnn
              go_wp2_with fail
              refine (HCR.out _).mono ?_
              rintro e v1 ⟨rfl, hb⟩
              have HP1 := Lib.hid (And.intro (Whole.made v1 78 #[.int .i64 p.m, .int .i64 p.s, .int .i64 q.m, .int .i64 q.s]) (hb.alloc hb.size (.cells #[.int .i64 p.m, .int .i64 p.s, .int .i64 q.m, .int .i64 q.s] 78)))
              clear hb cm lm
              go_upto_region 25 with fail
              go_cut [10] from 136 to 139 (fun s wx => s = .bool (T && cb) ∧ wx = v1.alloc (.cells #[.int .i64 p.m, .int .i64 p.s, .int .i64 q.m, .int .i64 q.s] 78))
              case first =>
                cases T
                all_goals
                  go_wp2_with fail
                  go_meet
                  exact ⟨rfl, rfl⟩
              case rest =>
                obtain ⟨rfl, rfl⟩ := hcut
                have HOW := Lib.hid (own_later HR.out.1 HP1.out.2)
                have HBW := Lib.hid (HR.out.2.trans (HP1.out.2.mono HR.out.2.size))
                obtain ⟨y0, y1, y2, y3, -, -, -, -, y4⟩ := four_facts HP1.out.1 rfl rfl rfl rfl
                generalize v1.alloc (.cells #[.int .i64 p.m, .int .i64 p.s, .int .i64 q.m, .int .i64 q.s] 78) = V at *
                obtain ⟨i0, hi, hz0, hz1, hz2⟩ := info_pt22
                go_wp2_with (at_builtin; refine wpList_append_own _ rfl _ _ 67 rfl W2.heap.size 78 i0 (.agg #[.int .i64 0, .int .i64 0, .int .i64 0, .int .i64 0]) 4 32 Try.underlying67 hi hz0 hz1 hz2 rfl (by decide) _ _ _ rfl (HOW.out.alloc _) ⟨V.heap.size, 0, none⟩ 1 1 [.int .i64 p.m, .int .i64 p.s, .int .i64 q.m, .int .i64 q.s] rfl rfl (World.news_of_block (cs := #[.int .i64 p.m, .int .i64 p.s, .int .i64 q.m, .int .i64 q.s]) (t := 78) (fr := (0, 0)) (heap_alloc_new _ _)) ?q1 ?q2 ?q3 ?q4 ?_)
                case q1 => simp [Value.oneCell']
                case q2 => unfold maxLen; omega
                case q3 => omega
                case q4 => have := HBW.out.size; simp; omega
                intro v' w6 hown' hgrow _
                have hown2 : w6.ownsRow W2.heap.size 78 4 v' (nn + 1) (rowP (pF m X Z) (nn + 1)) := by
                  rw [← rowP_snoc, HPF.out]
                  exact hown'
                have hb6 : Below W2.heap.size W2 w6 := (HBW.out.alloc HBW.out.size _).grown hgrow (by have := HBW.out.size; simp; omega) (fun j e => (own_lt HOW.out e).1)
                have HO6 := Lib.hid (And.intro hown2 hb6)
                clear hown' hgrow hown2 hb6
                go_wp2_with fail
                go_roundw
                case rel => exact ⟨x + 1, by omega, by go_num, by rw [← Nat.add_assoc, HNN.out, HTN.out], by rw [← Nat.add_assoc, HNN.out]; exact HO6⟩
                case measure => simp [intOf]; omega
            · obtain rfl : x = X + 1 := by omega
              have d3 : decide (((X + 1 : Nat) : Int) ≤ (X : Int)) = false := decide_eq_false (by omega)
              have d3' : decide (X + 1 ≤ X) = false := decide_eq_false (by omega)
              have d3'' : decide ((X : Int) + 1 ≤ (X : Int)) = false := decide_eq_false (by omega)
              have e1 : z * (X + 1) + (X + 1) = (z + 1) * (X + 1) := (Nat.succ_mul ..).symm
              rw [e1] at HR ⊢
              clear e1
              go_wp2_with fail
              go_roundw
              case rel => exact ⟨z + 1, by omega, by go_num, rfl, HR⟩
              case measure => simp [intOf]; omega
        · obtain rfl : z = Z + 1 := by omega
          have d2 : decide (((Z + 1 : Nat) : Int) ≤ (Z : Int)) = false := decide_eq_false (by omega)
          have d2' : decide (Z + 1 ≤ Z) = false := decide_eq_false (by omega)
          have d2'' : decide ((Z : Int) + 1 ≤ (Z : Int)) = false := decide_eq_false (by omega)
          obtain ⟨T, hT⟩ : ∃ T, (t0 && gT m X Z ((Z + 1) * (X + 1))) = T := ⟨_, rfl⟩
          rw [hT] at HE1 ⊢
          cases T
          · have HF5 := Lib.hid (HF.out.trans (HQ.out.2.mono HF.out.size))
            go_wp2_with fail
            go_ret2
            have e := HE1.out
            rw [if_neg (by decide)] at e
            exact ⟨none, 0, 0, by rw [e]; rfl, .inl ⟨by rw [e]; decide, rfl, rfl, rfl⟩, HF5.out⟩
          have e := HE1.out
          rw [if_pos rfl] at e
          have HE2 := Lib.hid e
          clear e hT HE1
          obtain ⟨A8, c8', e8, hpts⟩ := own_pts HQ.out.1
          injection e8 with e8 _ e9
          subst e8 e9
          obtain ⟨R, o, rfl, hpt⟩ := hpts.resolve_left (Nat.ne_of_gt (Nat.mul_pos (by omega) (by omega)))
          have HF4 := Lib.hid (HF.out.trans (HQ.out.2.mono HF.out.size))
          have HFA4 := Lib.hid (HFAR.out.below HQ.out.2)
          have HPT : Hid (∀ v, Below wr.heap.size wr v → ∀ i < (Z + 1) * (X + 1), PAt v R (o + i * 4) (pF m X Z i)) := Lib.hid (fun v hv i hi => (hpt i hi).later hv)
          have hcap8 : (Z + 1) * (X + 1) ≤ c8 := by
            rcases HQ.out.1.2 with ⟨e, _⟩ | ⟨g, cap, cur, e, _, _, hnc, _⟩
            · cases e
            · injection e with _ _ e; omega
          obtain ⟨L, hL⟩ : ∃ L, l.map (bm · (N : Int)) = L := ⟨_, rfl⟩
          rw [hL] at HFA4
          obtain ⟨cv, hcv⟩ : ∃ f, cov (pF m X Z) ((Z + 1) * (X + 1)) X Z L = f := ⟨_, rfl⟩
          have HCV : Hid (∀ j, j < X * Z → cv j = L.any (meetsB (ofN (crn (pF m X Z) X (j % X) (Z - 1 - j / X)) 4))) := Lib.hid (fun j hj => by rw [← hcv]; exact cov_all L hX hj)
          have HCVE := Lib.hid (And.intro hL hcv)
          clear hpts hpt HFAR HM2 HF HCO HQ hL hcv hcap5 htop5
          obtain ⟨nP, hnP⟩ : ∃ nP, (Z + 1) * (X + 1) = nP := ⟨_, rfl⟩
          have HNP := Lib.hid hnP
          rw [hnP] at hPn HPT hcap8
          rw [hnP]
          clear hnP
          have hcap5 := HFA4.out.cap
          have htop5 := HFA4.out.top
          go_wp2_with fail
          generalize wr = W4 at *
          go_loopw [27, 28] (fun s27 s28 wr => ∃ y : Nat, y ≤ Z ∧ s28 = .int .i64 (y : Int) ∧ Hid (wr.ownsRow W4.heap.size 4 1 s27 (y * X) (bls ((List.range (y * X)).map cv)) ∧ Below W4.heap.size W4 wr)) (fun _ s28 _ => Z - (intOf s28).toNat)
          case atStart => exact ⟨0, by omega, rfl, Lib.hid (by rw [Nat.zero_mul]; exact ⟨World.ownsRow_nil _ _ _ _, Below.refl _ _⟩)⟩
          case round =>
            obtain ⟨y, hy, rfl, HQ⟩ := hrel
            obtain ⟨a10, c10, rfl⟩ := own_sl HQ.out.1
            by_cases hly : y < Z
            · have d2 : decide ((y : Int) < (Z : Int)) = true := decide_eq_true (by omega)
              have d2' : decide (y < Z) = true := decide_eq_true hly
              go_wp2_with fail
              generalize wr = W3 at *
              go_loopw [27, 29] (fun s27 s29 wr => ∃ x : Nat, x ≤ X ∧ s29 = .int .i64 (x : Int) ∧ Hid (wr.ownsRow W4.heap.size 4 1 s27 (y * X + x) (bls ((List.range (y * X + x)).map cv)) ∧ Below W4.heap.size W4 wr)) (fun _ s29 _ => X - (intOf s29).toNat)
              case atStart => exact ⟨0, by omega, rfl, Lib.hid HQ.out⟩
              case round =>
                obtain ⟨x, hx, rfl, HR⟩ := hrel
                obtain ⟨a9, c9, rfl⟩ := own_sl HR.out.1
                by_cases hlx : x < X
                · have d3 : decide ((x : Int) < (X : Int)) = true := decide_eq_true (by omega)
                  have d3' : decide (x < X) = true := decide_eq_true hlx
                  obtain ⟨zz, hzz⟩ : ∃ zz, Z - 1 - y = zz := ⟨_, rfl⟩
                  have hj : y * X + x < X * Z := by
                    have h1 : (y + 1) * X ≤ Z * X := Nat.mul_le_mul_right _ hly
                    have h2 : (y + 1) * X = y * X + X := Nat.succ_mul ..
                    have h3 : Z * X = X * Z := Nat.mul_comm _ _
                    omega
                  have hj1 : (y * X + x) % X = x := by rw [Nat.mul_comm, Nat.mul_add_mod, Nat.mod_eq_of_lt hlx]
                  have hj2 : (y * X + x) / X = y := by rw [Nat.mul_comm, Nat.mul_add_div (by omega), Nat.div_eq_of_lt hlx]; omega
                  have hcvj := HCV.out _ hj
                  rw [hj1, hj2, hzz] at hcvj
                  obtain ⟨G, hG⟩ : ∃ G, crn (pF m X Z) X x zz = G := ⟨_, rfl⟩
                  rw [hG] at hcvj
                  obtain ⟨r, hr⟩ : ∃ r, ofN G 4 = r := ⟨_, rfl⟩
                  rw [hr] at hcvj
                  have hzl : zz + 1 ≤ Z := by omega
                  have q1 : (zz + 1) * (X + 1) ≤ Z * (X + 1) := Nat.mul_le_mul_right _ hzl
                  have q2 : (Z + 1) * (X + 1) = Z * (X + 1) + (X + 1) := Nat.succ_mul ..
                  have q3 : (zz + 1) * (X + 1) = zz * (X + 1) + (X + 1) := Nat.succ_mul ..
                  have hnP := HNP.out
                  obtain ⟨P1, hP1⟩ : ∃ P, zz * (X + 1) = P := ⟨_, rfl⟩
                  have hg0 : G 0 = pF m X Z (P1 + x) := by rw [← hG, ← hP1]; rfl
                  have hg1 : G 1 = pF m X Z (P1 + x + 1) := by rw [← hG, ← hP1]; rfl
                  have hg2 : G 2 = pF m X Z (P1 + x + X + 1) := by
                    rw [← hG]
                    show pF m X Z ((zz + 1) * (X + 1) + x) = _
                    congr 1
                    omega
                  have hg3 : G 3 = pF m X Z (P1 + x + X + 2) := by
                    rw [← hG]
                    show pF m X Z ((zz + 1) * (X + 1) + x + 1) = _
                    congr 1
                    omega
                  rw [hP1] at q3
                  have hok : ∀ i < 4, (G i).Ok := fun i hi => by
                    rcases (by omega : i = 0 ∨ i = 1 ∨ i = 2 ∨ i = 3) with rfl | rfl | rfl | rfl
                    · rw [hg0]; exact pF_ok ..
                    · rw [hg1]; exact pF_ok ..
                    · rw [hg2]; exact pF_ok ..
                    · rw [hg3]; exact pF_ok ..
                  obtain ⟨a0, ha0⟩ : ∃ a0, P1 + x = a0 := ⟨_, rfl⟩
                  obtain ⟨a1, ha1⟩ : ∃ a1, a0 + 1 = a1 := ⟨_, rfl⟩
                  obtain ⟨aX, haX⟩ : ∃ a1, a0 + X = a1 := ⟨_, rfl⟩
                  obtain ⟨a2, ha2⟩ : ∃ a1, aX + 1 = a1 := ⟨_, rfl⟩
                  obtain ⟨a3, ha3⟩ : ∃ a1, aX + 2 = a1 := ⟨_, rfl⟩
                  rw [ha0] at hg0 hg1 hg2 hg3
                  rw [ha1] at hg1
                  rw [haX] at hg2 hg3
                  rw [ha2] at hg2
                  rw [ha3] at hg3
                  have l3 : a3 < nP := by omega
                  have u1 : IntKind.i64.wrap ((Z : Int) - (y : Int)) = ((Z - y : Nat) : Int) := by rw [IntKind.wrap_i64]; omega
                  have u2 : IntKind.i64.wrap (((Z - y : Nat) : Int) - 1) = (zz : Int) := by rw [IntKind.wrap_i64]; omega
                  have u3 : IntKind.i64.wrap ((X : Int) + 1) = ((X + 1 : Nat) : Int) := by rw [IntKind.wrap_i64]; omega
                  obtain ⟨X1, hX1⟩ : ∃ q, X + 1 = q := ⟨_, rfl⟩
                  obtain ⟨Zy, hZy⟩ : ∃ q, Z - y = q := ⟨_, rfl⟩
                  have u4 : IntKind.i64.wrap ((zz : Int) * (X1 : Int)) = (P1 : Int) := by rw [← Int.natCast_mul, ← hX1, hP1, IntKind.wrap_i64]; omega
                  have u5 : IntKind.i64.wrap ((P1 : Int) + (x : Int)) = (a0 : Int) := by rw [IntKind.wrap_i64]; omega
                  have u6 : IntKind.i64.wrap ((a0 : Int) + 1) = (a1 : Int) := by rw [IntKind.wrap_i64]; omega
                  have u7 : IntKind.i64.wrap ((a0 : Int) + (X : Int)) = (aX : Int) := by rw [IntKind.wrap_i64]; omega
                  have u8 : IntKind.i64.wrap ((aX : Int) + 1) = (a2 : Int) := by rw [IntKind.wrap_i64]; omega
                  have u9 : IntKind.i64.wrap ((aX : Int) + 2) = (a3 : Int) := by rw [IntKind.wrap_i64]; omega
                  rw [hX1] at u3
                  rw [hZy] at u1 u2
                  have m0 : (0 : Int) ≤ (a0 : Int) := by omega
                  have m1 : (a0 : Int) < (nP : Int) := by omega
                  have m2 : (0 : Int) ≤ (a1 : Int) := by omega
                  have m3 : (a1 : Int) < (nP : Int) := by omega
                  have m4 : (0 : Int) ≤ (a2 : Int) := by omega
                  have m5 : (a2 : Int) < (nP : Int) := by omega
                  have m6 : (0 : Int) ≤ (a3 : Int) := by omega
                  have m7 : (a3 : Int) < (nP : Int) := by omega
                  have hw := HR.out.2
                  obtain ⟨p0, hp0⟩ : ∃ p, G 0 = p := ⟨_, rfl⟩
                  obtain ⟨p1, hp1⟩ : ∃ p, G 1 = p := ⟨_, rfl⟩
                  obtain ⟨p2, hp2⟩ : ∃ p, G 2 = p := ⟨_, rfl⟩
                  obtain ⟨p3, hp3⟩ : ∃ p, G 3 = p := ⟨_, rfl⟩
                  have HC : Hid (∀ v, Below wr.heap.size wr v → (fun v => (PAt v R (o + a0 * 4) p0 ∧ PAt v R (o + a1 * 4) p1 ∧ PAt v R (o + a2 * 4) p2 ∧ PAt v R (o + a3 * 4) p3) ∧ Below wr.heap.size wr v) v) := Lib.hid (fun v hv => by
                    have hv4 := hw.trans (hv.mono hw.size)
                    refine ⟨⟨?_, ?_, ?_, ?_⟩, hv⟩
                    · rw [← hp0, hg0]; exact HPT.out v hv4 a0 (by omega)
                    · rw [← hp1, hg1]; exact HPT.out v hv4 a1 (by omega)
                    · rw [← hp2, hg2]; exact HPT.out v hv4 a2 (by omega)
                    · rw [← hp3, hg3]; exact HPT.out v hv4 a3 (by omega))
                  have HOF : Hid (∀ (v : World) (g : Nat), Whole v g 78 #[.int .i64 p0.x.m, .int .i64 p0.x.s, .int .i64 p0.y.m, .int .i64 p0.y.s, .int .i64 p1.x.m, .int .i64 p1.x.s, .int .i64 p1.y.m, .int .i64 p1.y.s, .int .i64 p2.x.m, .int .i64 p2.x.s, .int .i64 p2.y.m, .int .i64 p2.y.s, .int .i64 p3.x.m, .int .i64 p3.x.s, .int .i64 p3.y.m, .int .i64 p3.y.s] → Calls Try.prog 45 #[.slice (some ⟨g, 0, none⟩) 4 4] v fun e w' => e = .returned (.tuple #[.agg #[.int .i64 r.x0.m, .int .i64 r.x0.s, .int .i64 r.y0.m, .int .i64 r.y0.s, .int .i64 r.x1.m, .int .i64 r.x1.s, .int .i64 r.y1.m, .int .i64 r.y1.s], .int .i64 0]) ∧ Below v.heap.size v w') := Lib.hid (fun v g hg => refof_any G 4 4 g 0 v r 0 (by omega) (by omega) (Lib.hid (four_pts hg hp0 hp1 hp2 hp3)) (Lib.hid (.inr (.inr ⟨by omega, hok, hr.symm, rfl⟩))))
                  have HCJ := Lib.hid hcvj
                  have hjn : y * X + x ≤ 65536 := by have := HN.out; omega
                  have lR4 : R < wr.heap.size := by
                    have := (HC.out wr (Below.refl _ _)).1.1.lt
                    exact this
                  clear hg0 hg1 hg2 hg3 hG hr hok hP1 hcvj q1 q2 q3 ha0 ha1 haX ha2 ha3 hX1 hZy hzz hp0 hp1 hp2 hp3 hw hnP hj hj1 hj2
                  go_wp2_with fail
                  go_cut [32, 33] from 166 to 193 (fun s32 _ wx => ∃ g : Nat, s32 = .pointer (some ⟨g, 0, none⟩) ∧ Hid (Whole wx g 52 #[.int .i64 r.x0.m, .int .i64 r.x0.s, .int .i64 r.y0.m, .int .i64 r.y0.s, .int .i64 r.x1.m, .int .i64 r.x1.s, .int .i64 r.y1.m, .int .i64 r.y1.s] ∧ Below wr.heap.size wr wx))
                  case first =>
                    have hS := HC.out wr.drew (Below.refl _ _).drew
                    refine wp_region_C (fun v => (PAt v R (o + a0 * 4) p0 ∧ PAt v R (o + a1 * 4) p1 ∧ PAt v R (o + a2 * 4) p2 ∧ PAt v R (o + a3 * 4) p3) ∧ Below wr.heap.size wr v) (by kernel_rfl) ?_
                    refine wpAnyC_take (i := 0) (v := .slice (some ⟨R, o, none⟩) nP c8) rfl (by kernel_rfl) (fun _ _ _ h => h) (Or.inl ⟨by rfl, ?y1⟩) hS ?r1
                    case y1 => intro wq _; go_simp; all_goals (first | with_reducible rfl | (simp only []; done) | (simp []; done) | (simp; omega) | skip)
                    try simp only [Act.put, List.setIfInBounds_toArray, List.set_cons_zero, List.set_cons_succ]
                    refine wpAnyC_take (i := 1) (v := .int .i64 (a0 : Int)) rfl (by kernel_rfl) (fun _ _ _ h => h) (Or.inl ⟨by rfl, ?y2⟩) hS ?r2
                    case y2 => intro wq _; go_simp; all_goals (first | with_reducible rfl | (simp only []; done) | (simp []; done) | (simp; omega) | skip)
                    try simp only [Act.put, List.setIfInBounds_toArray, List.set_cons_zero, List.set_cons_succ]
                    refine wpAnyC_take (i := 2) (v := .pointer (some ⟨R, o + a0 * 4, none⟩)) rfl (by kernel_rfl) (fun _ _ _ h => h) (Or.inl ⟨by rfl, ?y3⟩) hS ?r3
                    case y3 => intro wq _; go_simp; all_goals (first | with_reducible rfl | (simp only []; done) | (simp []; done) | (simp; omega) | skip)
                    try simp only [Act.put, List.setIfInBounds_toArray, List.set_cons_zero, List.set_cons_succ]
                    refine wpAnyC_take (i := 3) (v := ?v4) rfl (by kernel_rfl) (fun _ _ _ h => h) (Or.inl ⟨by rfl, ?y4⟩) hS ?r4
                    case y4 => rintro wq ⟨⟨⟨s0, s1, s2, s3⟩, ⟨t0', t1, t2, t3⟩, ⟨w0, w1', w2, w3⟩, ⟨z0, z1, z2, z3⟩⟩, -⟩; go_simp; all_goals (first | with_reducible rfl | (simp only []; done) | (simp []; done) | (simp; omega) | skip)
                    try simp only [Act.put, List.setIfInBounds_toArray, List.set_cons_zero, List.set_cons_succ]
                    refine wpAnyC_take (i := 4) (v := .slice (some ⟨R, o, none⟩) nP c8) rfl (by kernel_rfl) (fun _ _ _ h => h) (Or.inl ⟨by rfl, ?y5⟩) hS ?r5
                    case y5 => intro wq _; go_simp; all_goals (first | with_reducible rfl | (simp only []; done) | (simp []; done) | (simp; omega) | skip)
                    try simp only [Act.put, List.setIfInBounds_toArray, List.set_cons_zero, List.set_cons_succ]
                    refine wpAnyC_take (i := 5) (v := .int .i64 (a0 : Int)) rfl (by kernel_rfl) (fun _ _ _ h => h) (Or.inl ⟨by rfl, ?y6⟩) hS ?r6
                    case y6 => intro wq _; go_simp; all_goals (first | with_reducible rfl | (simp only []; done) | (simp []; done) | (simp; omega) | skip)
                    try simp only [Act.put, List.setIfInBounds_toArray, List.set_cons_zero, List.set_cons_succ]
                    refine wpAnyC_take (i := 6) (v := .int .i64 (a1 : Int)) rfl (by kernel_rfl) (fun _ _ _ h => h) (Or.inl ⟨by rfl, ?y7⟩) hS ?r7
                    case y7 => intro wq _; go_simp; all_goals (first | with_reducible rfl | (simp only []; done) | (simp []; done) | (simp; omega) | skip)
                    try simp only [Act.put, List.setIfInBounds_toArray, List.set_cons_zero, List.set_cons_succ]
                    refine wpAnyC_take (i := 7) (v := .pointer (some ⟨R, o + a1 * 4, none⟩)) rfl (by kernel_rfl) (fun _ _ _ h => h) (Or.inl ⟨by rfl, ?y8⟩) hS ?r8
                    case y8 => intro wq _; go_simp; all_goals (first | with_reducible rfl | (simp only []; done) | (simp []; done) | (simp; omega) | skip)
                    try simp only [Act.put, List.setIfInBounds_toArray, List.set_cons_zero, List.set_cons_succ]
                    refine wpAnyC_take (i := 8) (v := ?v9) rfl (by kernel_rfl) (fun _ _ _ h => h) (Or.inl ⟨by rfl, ?y9⟩) hS ?r9
                    case y9 => rintro wq ⟨⟨⟨s0, s1, s2, s3⟩, ⟨t0', t1, t2, t3⟩, ⟨w0, w1', w2, w3⟩, ⟨z0, z1, z2, z3⟩⟩, -⟩; go_simp; all_goals (first | with_reducible rfl | (simp only []; done) | (simp []; done) | (simp; omega) | skip)
                    try simp only [Act.put, List.setIfInBounds_toArray, List.set_cons_zero, List.set_cons_succ]
                    refine wpAnyC_take (i := 9) (v := .slice (some ⟨R, o, none⟩) nP c8) rfl (by kernel_rfl) (fun _ _ _ h => h) (Or.inl ⟨by rfl, ?y10⟩) hS ?r10
                    case y10 => intro wq _; go_simp; all_goals (first | with_reducible rfl | (simp only []; done) | (simp []; done) | (simp; omega) | skip)
                    try simp only [Act.put, List.setIfInBounds_toArray, List.set_cons_zero, List.set_cons_succ]
                    refine wpAnyC_take (i := 10) (v := .int .i64 (a0 : Int)) rfl (by kernel_rfl) (fun _ _ _ h => h) (Or.inl ⟨by rfl, ?y11⟩) hS ?r11
                    case y11 => intro wq _; go_simp; all_goals (first | with_reducible rfl | (simp only []; done) | (simp []; done) | (simp; omega) | skip)
                    try simp only [Act.put, List.setIfInBounds_toArray, List.set_cons_zero, List.set_cons_succ]
                    refine wpAnyC_take (i := 11) (v := .int .i64 (X : Int)) rfl (by kernel_rfl) (fun _ _ _ h => h) (Or.inl ⟨by rfl, ?y12⟩) hS ?r12
                    case y12 => intro wq _; go_simp; all_goals (first | with_reducible rfl | (simp only []; done) | (simp []; done) | (simp; omega) | skip)
                    try simp only [Act.put, List.setIfInBounds_toArray, List.set_cons_zero, List.set_cons_succ]
                    refine wpAnyC_take (i := 12) (v := .int .i64 (aX : Int)) rfl (by kernel_rfl) (fun _ _ _ h => h) (Or.inl ⟨by rfl, ?y13⟩) hS ?r13
                    case y13 => intro wq _; go_simp; all_goals (first | with_reducible rfl | (simp only []; done) | (simp []; done) | (simp; omega) | skip)
                    try simp only [Act.put, List.setIfInBounds_toArray, List.set_cons_zero, List.set_cons_succ]
                    refine wpAnyC_take (i := 13) (v := .int .i64 (a2 : Int)) rfl (by kernel_rfl) (fun _ _ _ h => h) (Or.inl ⟨by rfl, ?y14⟩) hS ?r14
                    case y14 => intro wq _; go_simp; all_goals (first | with_reducible rfl | (simp only []; done) | (simp []; done) | (simp; omega) | skip)
                    try simp only [Act.put, List.setIfInBounds_toArray, List.set_cons_zero, List.set_cons_succ]
                    refine wpAnyC_take (i := 14) (v := .pointer (some ⟨R, o + a2 * 4, none⟩)) rfl (by kernel_rfl) (fun _ _ _ h => h) (Or.inl ⟨by rfl, ?y15⟩) hS ?r15
                    case y15 => intro wq _; go_simp; all_goals (first | with_reducible rfl | (simp only []; done) | (simp []; done) | (simp; omega) | skip)
                    try simp only [Act.put, List.setIfInBounds_toArray, List.set_cons_zero, List.set_cons_succ]
                    refine wpAnyC_take (i := 15) (v := ?v16) rfl (by kernel_rfl) (fun _ _ _ h => h) (Or.inl ⟨by rfl, ?y16⟩) hS ?r16
                    case y16 => rintro wq ⟨⟨⟨s0, s1, s2, s3⟩, ⟨t0', t1, t2, t3⟩, ⟨w0, w1', w2, w3⟩, ⟨z0, z1, z2, z3⟩⟩, -⟩; go_simp; all_goals (first | with_reducible rfl | (simp only []; done) | (simp []; done) | (simp; omega) | skip)
                    try simp only [Act.put, List.setIfInBounds_toArray, List.set_cons_zero, List.set_cons_succ]
                    refine wpAnyC_take (i := 16) (v := .slice (some ⟨R, o, none⟩) nP c8) rfl (by kernel_rfl) (fun _ _ _ h => h) (Or.inl ⟨by rfl, ?y17⟩) hS ?r17
                    case y17 => intro wq _; go_simp; all_goals (first | with_reducible rfl | (simp only []; done) | (simp []; done) | (simp; omega) | skip)
                    try simp only [Act.put, List.setIfInBounds_toArray, List.set_cons_zero, List.set_cons_succ]
                    refine wpAnyC_take (i := 17) (v := .int .i64 (a0 : Int)) rfl (by kernel_rfl) (fun _ _ _ h => h) (Or.inl ⟨by rfl, ?y18⟩) hS ?r18
                    case y18 => intro wq _; go_simp; all_goals (first | with_reducible rfl | (simp only []; done) | (simp []; done) | (simp; omega) | skip)
                    try simp only [Act.put, List.setIfInBounds_toArray, List.set_cons_zero, List.set_cons_succ]
                    refine wpAnyC_take (i := 18) (v := .int .i64 (X : Int)) rfl (by kernel_rfl) (fun _ _ _ h => h) (Or.inl ⟨by rfl, ?y19⟩) hS ?r19
                    case y19 => intro wq _; go_simp; all_goals (first | with_reducible rfl | (simp only []; done) | (simp []; done) | (simp; omega) | skip)
                    try simp only [Act.put, List.setIfInBounds_toArray, List.set_cons_zero, List.set_cons_succ]
                    refine wpAnyC_take (i := 19) (v := .int .i64 (aX : Int)) rfl (by kernel_rfl) (fun _ _ _ h => h) (Or.inl ⟨by rfl, ?y20⟩) hS ?r20
                    case y20 => intro wq _; go_simp; all_goals (first | with_reducible rfl | (simp only []; done) | (simp []; done) | (simp; omega) | skip)
                    try simp only [Act.put, List.setIfInBounds_toArray, List.set_cons_zero, List.set_cons_succ]
                    refine wpAnyC_take (i := 20) (v := .int .i64 (a3 : Int)) rfl (by kernel_rfl) (fun _ _ _ h => h) (Or.inl ⟨by rfl, ?y21⟩) hS ?r21
                    case y21 => intro wq _; go_simp; all_goals (first | with_reducible rfl | (simp only []; done) | (simp []; done) | (simp; omega) | skip)
                    try simp only [Act.put, List.setIfInBounds_toArray, List.set_cons_zero, List.set_cons_succ]
                    refine wpAnyC_take (i := 21) (v := .pointer (some ⟨R, o + a3 * 4, none⟩)) rfl (by kernel_rfl) (fun _ _ _ h => h) (Or.inl ⟨by rfl, ?y22⟩) hS ?r22
                    case y22 => intro wq _; go_simp; all_goals (first | with_reducible rfl | (simp only []; done) | (simp []; done) | (simp; omega) | skip)
                    try simp only [Act.put, List.setIfInBounds_toArray, List.set_cons_zero, List.set_cons_succ]
                    refine wpAnyC_take (i := 22) (v := ?v23) rfl (by kernel_rfl) (fun _ _ _ h => h) (Or.inl ⟨by rfl, ?y23⟩) hS ?r23
                    case y23 => rintro wq ⟨⟨⟨s0, s1, s2, s3⟩, ⟨t0', t1, t2, t3⟩, ⟨w0, w1', w2, w3⟩, ⟨z0, z1, z2, z3⟩⟩, -⟩; go_simp; all_goals (first | with_reducible rfl | (simp only []; done) | (simp []; done) | (simp; omega) | skip)
                    try simp only [Act.put, List.setIfInBounds_toArray, List.set_cons_zero, List.set_cons_succ]
                    refine wpAnyC_two (i := 23) (j := 28) (by kernel_rfl) rfl rfl (fun K hK => ?_) (fun K hK => ?_)
                    · go_simp
                      go_wp2_with fail
                      have hbA : Below wr.heap.size wr (wr.alloc (.cells #[.int .i64 p0.x.m, .int .i64 p0.x.s, .int .i64 p0.y.m, .int .i64 p0.y.s, .int .i64 p1.x.m, .int .i64 p1.x.s, .int .i64 p1.y.m, .int .i64 p1.y.s, .int .i64 p2.x.m, .int .i64 p2.x.s, .int .i64 p2.y.m, .int .i64 p2.y.s, .int .i64 p3.x.m, .int .i64 p3.x.s, .int .i64 p3.y.m, .int .i64 p3.y.s] 78)).drew := ((Below.refl _ _).alloc (Nat.le_refl _) _).drew
                      have HPA : Hid (Whole (wr.alloc (.cells #[.int .i64 p0.x.m, .int .i64 p0.x.s, .int .i64 p0.y.m, .int .i64 p0.y.s, .int .i64 p1.x.m, .int .i64 p1.x.s, .int .i64 p1.y.m, .int .i64 p1.y.s, .int .i64 p2.x.m, .int .i64 p2.x.s, .int .i64 p2.y.m, .int .i64 p2.y.s, .int .i64 p3.x.m, .int .i64 p3.x.s, .int .i64 p3.y.m, .int .i64 p3.y.s] 78)).drew wr.heap.size 78 #[.int .i64 p0.x.m, .int .i64 p0.x.s, .int .i64 p0.y.m, .int .i64 p0.y.s, .int .i64 p1.x.m, .int .i64 p1.x.s, .int .i64 p1.y.m, .int .i64 p1.y.s, .int .i64 p2.x.m, .int .i64 p2.x.s, .int .i64 p2.y.m, .int .i64 p2.y.s, .int .i64 p3.x.m, .int .i64 p3.x.s, .int .i64 p3.y.m, .int .i64 p3.y.s]) := Lib.hid (Whole.made wr 78 _)
                      have hS := HC.out _ hbA
                      refine hK.out _ _ ⟨hS, ?_⟩
                      clear hK K
                      try simp only [Act.put, List.setIfInBounds_toArray, List.set_cons_zero, List.set_cons_succ]
                      refine wpAnyC_two (i := 24) (j := 28) (by kernel_rfl) rfl rfl (fun K hK => ?_) (fun K hK => ?_)
                      · go_simp
                        go_at_call 45
                        refine (HOF.out _ _ HPA.out).mono ?_
                        rintro e V1 ⟨rfl, kk⟩
                        have hbv : Below wr.heap.size wr V1 := (hbA).trans (kk.mono (hbA).size)
                        have hS := HC.out _ hbv
                        clear kk
                        go_wp2_with fail
                        refine hK.out _ _ ⟨hS, ?_⟩
                        clear hK K
                        try simp only [Act.put, List.setIfInBounds_toArray, List.set_cons_zero, List.set_cons_succ]
                        refine wpAnyC_take (i := 25) (v := ?v24) rfl (by kernel_rfl) (fun _ _ _ h => h) (Or.inl ⟨by rfl, ?y24⟩) hS ?r24
                        case y24 => intro wq _; go_simp; all_goals (first | with_reducible rfl | (simp only []; done) | (simp []; done) | (simp; omega) | skip)
                        try simp only [Act.put, List.setIfInBounds_toArray, List.set_cons_zero, List.set_cons_succ]
                        refine wpAnyC_take (i := 26) (v := ?v25) rfl (by kernel_rfl) (fun _ _ _ h => h) (Or.inl ⟨by rfl, ?y25⟩) hS ?r25
                        case y25 => intro wq _; go_simp; all_goals (first | with_reducible rfl | (simp only []; done) | (simp []; done) | (simp; omega) | skip)
                        try simp only [Act.put, List.setIfInBounds_toArray, List.set_cons_zero, List.set_cons_succ]
                        refine wpAnyC_take (i := 27) (v := ?v26) rfl (by kernel_rfl) (fun _ _ _ h => h) (Or.inl ⟨by rfl, ?y26⟩) hS ?r26
                        case y26 => intro wq _; go_simp; all_goals (first | with_reducible rfl | (simp only []; done) | (simp []; done) | (simp; omega) | skip)
                        try simp only [Act.put, List.setIfInBounds_toArray, List.set_cons_zero, List.set_cons_succ]
                        refine wpAnyC_one (j := 28) (by kernel_rfl) rfl (fun K hK => ?_)
                        go_simp
                        go_wp2_with fail
                        have hbB : Below wr.heap.size wr (V1.alloc (.cells #[.int .i64 0, .int .i64 0, .int .i64 0, .int .i64 0, .int .i64 0, .int .i64 0, .int .i64 0, .int .i64 0] 52)) := hbv.alloc hbv.size _
                        have hS := HC.out _ hbB
                        refine hK.out _ _ ⟨hS, ?_⟩
                        clear hK K
                        try simp only [Act.put, List.setIfInBounds_toArray, List.set_cons_zero, List.set_cons_succ]
                        refine wpAnyC_one (j := 29) (by kernel_rfl) rfl (fun K hK => ?_)
                        have hz8 := Whole.made V1 52 #[.int .i64 0, .int .i64 0, .int .i64 0, .int .i64 0, .int .i64 0, .int .i64 0, .int .i64 0, .int .i64 0]
                        obtain ⟨⟨i0, i1, i2, i3, i4, i5, i6, i7⟩, i8⟩ := eight_facts (b := BV.zero) hz8
                        have fz := hz8.thawed
                        go_simp
                        go_wp2_with fail
                        have hst := (And.intro (Whole.made V1 52 #[.int .i64 r.x0.m, .int .i64 r.x0.s, .int .i64 r.y0.m, .int .i64 r.y0.s, .int .i64 r.x1.m, .int .i64 r.x1.s, .int .i64 r.y1.m, .int .i64 r.y1.s]) (hbv.alloc hbv.size (.cells #[.int .i64 r.x0.m, .int .i64 r.x0.s, .int .i64 r.y0.m, .int .i64 r.y0.s, .int .i64 r.x1.m, .int .i64 r.x1.s, .int .i64 r.y1.m, .int .i64 r.y1.s] 52)))
                        have HST := Lib.hid hst
                        have hS := HC.out _ hst.2
                        refine hK.out _ _ ⟨hS, ?_⟩
                        clear hK K hst
                        try simp only [Act.put, List.setIfInBounds_toArray, List.set_cons_zero, List.set_cons_succ]
                        refine wpAnyC_take (i := 30) (v := ?v27) rfl (by kernel_rfl) (fun _ _ _ h => h) (Or.inl ⟨by rfl, ?y27⟩) hS ?r27
                        case y27 => intro wq _; go_simp; all_goals (first | with_reducible rfl | (simp only []; done) | (simp []; done) | (simp; omega) | skip)
                        try simp only [Act.put, List.setIfInBounds_toArray, List.set_cons_zero, List.set_cons_succ]
                        refine wpAnyC_done (by kernel_rfl) ?_ _
                        go_wp2_with fail
                        go_meet
                        exact ⟨_, rfl, HST⟩
                      · go_simp
                        go_wp2_with fail
                        have hbB : Below wr.heap.size wr ((wr.alloc (.cells #[.int .i64 p0.x.m, .int .i64 p0.x.s, .int .i64 p0.y.m, .int .i64 p0.y.s, .int .i64 p1.x.m, .int .i64 p1.x.s, .int .i64 p1.y.m, .int .i64 p1.y.s, .int .i64 p2.x.m, .int .i64 p2.x.s, .int .i64 p2.y.m, .int .i64 p2.y.s, .int .i64 p3.x.m, .int .i64 p3.x.s, .int .i64 p3.y.m, .int .i64 p3.y.s] 78)).alloc (.cells #[.int .i64 0, .int .i64 0, .int .i64 0, .int .i64 0, .int .i64 0, .int .i64 0, .int .i64 0, .int .i64 0] 52)).drew := (((Below.refl _ _).alloc (Nat.le_refl _) _).alloc (by simp) _).drew
                        have HPB : Hid (Whole ((wr.alloc (.cells #[.int .i64 p0.x.m, .int .i64 p0.x.s, .int .i64 p0.y.m, .int .i64 p0.y.s, .int .i64 p1.x.m, .int .i64 p1.x.s, .int .i64 p1.y.m, .int .i64 p1.y.s, .int .i64 p2.x.m, .int .i64 p2.x.s, .int .i64 p2.y.m, .int .i64 p2.y.s, .int .i64 p3.x.m, .int .i64 p3.x.s, .int .i64 p3.y.m, .int .i64 p3.y.s] 78)).alloc (.cells #[.int .i64 0, .int .i64 0, .int .i64 0, .int .i64 0, .int .i64 0, .int .i64 0, .int .i64 0, .int .i64 0] 52)).drew wr.heap.size 78 #[.int .i64 p0.x.m, .int .i64 p0.x.s, .int .i64 p0.y.m, .int .i64 p0.y.s, .int .i64 p1.x.m, .int .i64 p1.x.s, .int .i64 p1.y.m, .int .i64 p1.y.s, .int .i64 p2.x.m, .int .i64 p2.x.s, .int .i64 p2.y.m, .int .i64 p2.y.s, .int .i64 p3.x.m, .int .i64 p3.x.s, .int .i64 p3.y.m, .int .i64 p3.y.s] ∧ Whole ((wr.alloc (.cells #[.int .i64 p0.x.m, .int .i64 p0.x.s, .int .i64 p0.y.m, .int .i64 p0.y.s, .int .i64 p1.x.m, .int .i64 p1.x.s, .int .i64 p1.y.m, .int .i64 p1.y.s, .int .i64 p2.x.m, .int .i64 p2.x.s, .int .i64 p2.y.m, .int .i64 p2.y.s, .int .i64 p3.x.m, .int .i64 p3.x.s, .int .i64 p3.y.m, .int .i64 p3.y.s] 78)).alloc (.cells #[.int .i64 0, .int .i64 0, .int .i64 0, .int .i64 0, .int .i64 0, .int .i64 0, .int .i64 0, .int .i64 0] 52)).drew (wr.heap.size + 1) 52 #[.int .i64 0, .int .i64 0, .int .i64 0, .int .i64 0, .int .i64 0, .int .i64 0, .int .i64 0, .int .i64 0]) := Lib.hid ⟨(Whole.made wr 78 _).old _, by
                          have := Whole.made (wr.alloc (.cells #[.int .i64 p0.x.m, .int .i64 p0.x.s, .int .i64 p0.y.m, .int .i64 p0.y.s, .int .i64 p1.x.m, .int .i64 p1.x.s, .int .i64 p1.y.m, .int .i64 p1.y.s, .int .i64 p2.x.m, .int .i64 p2.x.s, .int .i64 p2.y.m, .int .i64 p2.y.s, .int .i64 p3.x.m, .int .i64 p3.x.s, .int .i64 p3.y.m, .int .i64 p3.y.s] 78)) 52 #[.int .i64 0, .int .i64 0, .int .i64 0, .int .i64 0, .int .i64 0, .int .i64 0, .int .i64 0, .int .i64 0]
                          rwa [World.size_alloc] at this⟩
                        have hS := HC.out _ hbB
                        refine hK.out _ _ ⟨hS, ?_⟩
                        clear hK K
                        try simp only [Act.put, List.setIfInBounds_toArray, List.set_cons_zero, List.set_cons_succ]
                        refine wpAnyC_one (j := 24) (by kernel_rfl) rfl (fun K hK => ?_)
                        go_simp
                        go_at_call 45
                        refine (HOF.out _ _ HPB.out.1).mono ?_
                        rintro e V1 ⟨rfl, kk⟩
                        have hbv : Below wr.heap.size wr V1 := (hbB).trans (kk.mono (hbB).size)
                        have hzb := HPB.out.2.here kk
                        have hS := HC.out _ hbv
                        clear kk
                        go_wp2_with fail
                        refine hK.out _ _ ⟨hS, ?_⟩
                        clear hK K
                        try simp only [Act.put, List.setIfInBounds_toArray, List.set_cons_zero, List.set_cons_succ]
                        refine wpAnyC_take (i := 25) (v := ?v28) rfl (by kernel_rfl) (fun _ _ _ h => h) (Or.inl ⟨by rfl, ?y28⟩) hS ?r28
                        case y28 => intro wq _; go_simp; all_goals (first | with_reducible rfl | (simp only []; done) | (simp []; done) | (simp; omega) | skip)
                        try simp only [Act.put, List.setIfInBounds_toArray, List.set_cons_zero, List.set_cons_succ]
                        refine wpAnyC_take (i := 26) (v := ?v29) rfl (by kernel_rfl) (fun _ _ _ h => h) (Or.inl ⟨by rfl, ?y29⟩) hS ?r29
                        case y29 => intro wq _; go_simp; all_goals (first | with_reducible rfl | (simp only []; done) | (simp []; done) | (simp; omega) | skip)
                        try simp only [Act.put, List.setIfInBounds_toArray, List.set_cons_zero, List.set_cons_succ]
                        refine wpAnyC_take (i := 27) (v := ?v30) rfl (by kernel_rfl) (fun _ _ _ h => h) (Or.inl ⟨by rfl, ?y30⟩) hS ?r30
                        case y30 => intro wq _; go_simp; all_goals (first | with_reducible rfl | (simp only []; done) | (simp []; done) | (simp; omega) | skip)
                        try simp only [Act.put, List.setIfInBounds_toArray, List.set_cons_zero, List.set_cons_succ]
                        refine wpAnyC_one (j := 29) (by kernel_rfl) rfl (fun K hK => ?_)
                        have hz8 := hzb
                        obtain ⟨⟨i0, i1, i2, i3, i4, i5, i6, i7⟩, i8⟩ := eight_facts (b := BV.zero) hz8
                        have fz := hz8.thawed
                        go_simp
                        go_wp2_with fail
                        have hst := bx_store (b := r) hzb hbv (by omega)
                        have HST := Lib.hid hst
                        have hS := HC.out _ hst.2
                        refine hK.out _ _ ⟨hS, ?_⟩
                        clear hK K hst
                        try simp only [Act.put, List.setIfInBounds_toArray, List.set_cons_zero, List.set_cons_succ]
                        refine wpAnyC_take (i := 30) (v := ?v31) rfl (by kernel_rfl) (fun _ _ _ h => h) (Or.inl ⟨by rfl, ?y31⟩) hS ?r31
                        case y31 => intro wq _; go_simp; all_goals (first | with_reducible rfl | (simp only []; done) | (simp []; done) | (simp; omega) | skip)
                        try simp only [Act.put, List.setIfInBounds_toArray, List.set_cons_zero, List.set_cons_succ]
                        refine wpAnyC_done (by kernel_rfl) ?_ _
                        go_wp2_with fail
                        go_meet
                        exact ⟨_, rfl, HST⟩
                    · go_simp
                      go_wp2_with fail
                      have hbA : Below wr.heap.size wr (wr.alloc (.cells #[.int .i64 0, .int .i64 0, .int .i64 0, .int .i64 0, .int .i64 0, .int .i64 0, .int .i64 0, .int .i64 0] 52)).drew := ((Below.refl _ _).alloc (Nat.le_refl _) _).drew
                      have hS := HC.out _ hbA
                      refine hK.out _ _ ⟨hS, ?_⟩
                      clear hK K
                      try simp only [Act.put, List.setIfInBounds_toArray, List.set_cons_zero, List.set_cons_succ]
                      refine wpAnyC_one (j := 23) (by kernel_rfl) rfl (fun K hK => ?_)
                      go_simp
                      go_wp2_with fail
                      have hbB : Below wr.heap.size wr ((wr.alloc (.cells #[.int .i64 0, .int .i64 0, .int .i64 0, .int .i64 0, .int .i64 0, .int .i64 0, .int .i64 0, .int .i64 0] 52)).alloc (.cells #[.int .i64 p0.x.m, .int .i64 p0.x.s, .int .i64 p0.y.m, .int .i64 p0.y.s, .int .i64 p1.x.m, .int .i64 p1.x.s, .int .i64 p1.y.m, .int .i64 p1.y.s, .int .i64 p2.x.m, .int .i64 p2.x.s, .int .i64 p2.y.m, .int .i64 p2.y.s, .int .i64 p3.x.m, .int .i64 p3.x.s, .int .i64 p3.y.m, .int .i64 p3.y.s] 78)).drew := (((Below.refl _ _).alloc (Nat.le_refl _) _).alloc (by simp) _).drew
                      have HPB : Hid (Whole ((wr.alloc (.cells #[.int .i64 0, .int .i64 0, .int .i64 0, .int .i64 0, .int .i64 0, .int .i64 0, .int .i64 0, .int .i64 0] 52)).alloc (.cells #[.int .i64 p0.x.m, .int .i64 p0.x.s, .int .i64 p0.y.m, .int .i64 p0.y.s, .int .i64 p1.x.m, .int .i64 p1.x.s, .int .i64 p1.y.m, .int .i64 p1.y.s, .int .i64 p2.x.m, .int .i64 p2.x.s, .int .i64 p2.y.m, .int .i64 p2.y.s, .int .i64 p3.x.m, .int .i64 p3.x.s, .int .i64 p3.y.m, .int .i64 p3.y.s] 78)).drew (wr.heap.size + 1) 78 #[.int .i64 p0.x.m, .int .i64 p0.x.s, .int .i64 p0.y.m, .int .i64 p0.y.s, .int .i64 p1.x.m, .int .i64 p1.x.s, .int .i64 p1.y.m, .int .i64 p1.y.s, .int .i64 p2.x.m, .int .i64 p2.x.s, .int .i64 p2.y.m, .int .i64 p2.y.s, .int .i64 p3.x.m, .int .i64 p3.x.s, .int .i64 p3.y.m, .int .i64 p3.y.s] ∧ Whole ((wr.alloc (.cells #[.int .i64 0, .int .i64 0, .int .i64 0, .int .i64 0, .int .i64 0, .int .i64 0, .int .i64 0, .int .i64 0] 52)).alloc (.cells #[.int .i64 p0.x.m, .int .i64 p0.x.s, .int .i64 p0.y.m, .int .i64 p0.y.s, .int .i64 p1.x.m, .int .i64 p1.x.s, .int .i64 p1.y.m, .int .i64 p1.y.s, .int .i64 p2.x.m, .int .i64 p2.x.s, .int .i64 p2.y.m, .int .i64 p2.y.s, .int .i64 p3.x.m, .int .i64 p3.x.s, .int .i64 p3.y.m, .int .i64 p3.y.s] 78)).drew wr.heap.size 52 #[.int .i64 0, .int .i64 0, .int .i64 0, .int .i64 0, .int .i64 0, .int .i64 0, .int .i64 0, .int .i64 0]) := Lib.hid ⟨by
                        have := Whole.made (wr.alloc (.cells #[.int .i64 0, .int .i64 0, .int .i64 0, .int .i64 0, .int .i64 0, .int .i64 0, .int .i64 0, .int .i64 0] 52)) 78 #[.int .i64 p0.x.m, .int .i64 p0.x.s, .int .i64 p0.y.m, .int .i64 p0.y.s, .int .i64 p1.x.m, .int .i64 p1.x.s, .int .i64 p1.y.m, .int .i64 p1.y.s, .int .i64 p2.x.m, .int .i64 p2.x.s, .int .i64 p2.y.m, .int .i64 p2.y.s, .int .i64 p3.x.m, .int .i64 p3.x.s, .int .i64 p3.y.m, .int .i64 p3.y.s]
                        rwa [World.size_alloc] at this, (Whole.made wr 52 _).old _⟩
                      have hS := HC.out _ hbB
                      refine hK.out _ _ ⟨hS, ?_⟩
                      clear hK K
                      try simp only [Act.put, List.setIfInBounds_toArray, List.set_cons_zero, List.set_cons_succ]
                      refine wpAnyC_one (j := 24) (by kernel_rfl) rfl (fun K hK => ?_)
                      go_simp
                      go_at_call 45
                      refine (HOF.out _ _ HPB.out.1).mono ?_
                      rintro e V1 ⟨rfl, kk⟩
                      have hbv : Below wr.heap.size wr V1 := (hbB).trans (kk.mono (hbB).size)
                      have hzb := HPB.out.2.here kk
                      have hS := HC.out _ hbv
                      clear kk
                      go_wp2_with fail
                      refine hK.out _ _ ⟨hS, ?_⟩
                      clear hK K
                      try simp only [Act.put, List.setIfInBounds_toArray, List.set_cons_zero, List.set_cons_succ]
                      refine wpAnyC_take (i := 25) (v := ?v32) rfl (by kernel_rfl) (fun _ _ _ h => h) (Or.inl ⟨by rfl, ?y32⟩) hS ?r32
                      case y32 => intro wq _; go_simp; all_goals (first | with_reducible rfl | (simp only []; done) | (simp []; done) | (simp; omega) | skip)
                      try simp only [Act.put, List.setIfInBounds_toArray, List.set_cons_zero, List.set_cons_succ]
                      refine wpAnyC_take (i := 26) (v := ?v33) rfl (by kernel_rfl) (fun _ _ _ h => h) (Or.inl ⟨by rfl, ?y33⟩) hS ?r33
                      case y33 => intro wq _; go_simp; all_goals (first | with_reducible rfl | (simp only []; done) | (simp []; done) | (simp; omega) | skip)
                      try simp only [Act.put, List.setIfInBounds_toArray, List.set_cons_zero, List.set_cons_succ]
                      refine wpAnyC_take (i := 27) (v := ?v34) rfl (by kernel_rfl) (fun _ _ _ h => h) (Or.inl ⟨by rfl, ?y34⟩) hS ?r34
                      case y34 => intro wq _; go_simp; all_goals (first | with_reducible rfl | (simp only []; done) | (simp []; done) | (simp; omega) | skip)
                      try simp only [Act.put, List.setIfInBounds_toArray, List.set_cons_zero, List.set_cons_succ]
                      refine wpAnyC_one (j := 29) (by kernel_rfl) rfl (fun K hK => ?_)
                      have hz8 := hzb
                      obtain ⟨⟨i0, i1, i2, i3, i4, i5, i6, i7⟩, i8⟩ := eight_facts (b := BV.zero) hz8
                      have fz := hz8.thawed
                      go_simp
                      go_wp2_with fail
                      have hst := bx_store (b := r) hzb hbv (Nat.le_refl _)
                      have HST := Lib.hid hst
                      have hS := HC.out _ hst.2
                      refine hK.out _ _ ⟨hS, ?_⟩
                      clear hK K hst
                      try simp only [Act.put, List.setIfInBounds_toArray, List.set_cons_zero, List.set_cons_succ]
                      refine wpAnyC_take (i := 30) (v := ?v35) rfl (by kernel_rfl) (fun _ _ _ h => h) (Or.inl ⟨by rfl, ?y35⟩) hS ?r35
                      case y35 => intro wq _; go_simp; all_goals (first | with_reducible rfl | (simp only []; done) | (simp []; done) | (simp; omega) | skip)
                      try simp only [Act.put, List.setIfInBounds_toArray, List.set_cons_zero, List.set_cons_succ]
                      refine wpAnyC_done (by kernel_rfl) ?_ _
                      go_wp2_with fail
                      go_meet
                      exact ⟨_, rfl, HST⟩
                  case rest =>
                    obtain ⟨g, rfl, H32⟩ := hcut
                    have HR5 := Lib.hid (And.intro (own_later HR.out.1 H32.out.2) (HR.out.2.trans (H32.out.2.mono HR.out.2.size)))
                    have HRW := Lib.hid H32.out.1
                    generalize wc = W5 at *
                    clear H32 HR HC HOF u1 u2 u3 u4 u5 u6 u7 u8 u9 m0 m1 m2 m3 m4 m5 m6 m7 l3
                    go_wp2_with fail
                    go_loopw [34, 35] (fun s34 s35 wr => ∃ i : Nat, i ≤ k ∧ s35 = .int .i64 (i : Int) ∧ s34 = .bool ((L.take i).any (meetsB r)) ∧ Hid (Below W5.heap.size W5 wr)) (fun _ s35 _ => k - (intOf s35).toNat)
                    case atStart => exact ⟨0, by omega, rfl, rfl, Lib.hid (Below.refl _ _)⟩
                    case round =>
                      obtain ⟨i, hi, rfl, rfl, HV⟩ := hrel
                      have hw4 : Below W4.heap.size W4 wr := HR5.out.2.trans (HV.out.mono HR5.out.2.size)
                      by_cases hli : i < k
                      · have d4 : decide ((i : Int) < (k : Int)) = true := decide_eq_true (by omega)
                        obtain ⟨b, hb⟩ : ∃ b, L[i]? = some b := ⟨_, List.getElem?_eq_getElem (by rw [HFA4.out.len]; exact hli)⟩
                        obtain ⟨R2, o2, eA5, hR2, hcell⟩ := (HFA4.out.below hw4).at_ (by omega)
                        subst eA5
                        obtain ⟨E, hE⟩ := meets_is r b
                        obtain ⟨is, his⟩ : ∃ is, meetsB r b = is := ⟨_, rfl⟩
                        obtain ⟨T, hT⟩ : ∃ T, (L.take i).any (meetsB r) = T := ⟨_, rfl⟩
                        have HAN := Lib.hid (show (L.take (i + 1)).any (meetsB r) = (T || is) by
                          rw [List.take_add_one, hb, List.any_append, hT, ← his]
                          simp)
                        rw [his] at hE
                        rw [hT]
                        have HMT := Lib.hid (fun w => refmeets_any r b w is E hE)
                        unfold BV.val at HMT
                        have b0 : (0 : Int) ≤ (i : Int) := by omega
                        have b1 : (i : Int) < (k : Int) := by omega
                        have HC : Hid (∀ v, Below wr.heap.size wr v → (fun v => ((v.cell? ⟨g, 0, none⟩ = some (.int .i64 r.x0.m) ∧ v.cell? ⟨g, 1, none⟩ = some (.int .i64 r.x0.s) ∧ v.cell? ⟨g, 2, none⟩ = some (.int .i64 r.y0.m) ∧ v.cell? ⟨g, 3, none⟩ = some (.int .i64 r.y0.s) ∧ v.cell? ⟨g, 4, none⟩ = some (.int .i64 r.x1.m) ∧ v.cell? ⟨g, 5, none⟩ = some (.int .i64 r.x1.s) ∧ v.cell? ⟨g, 6, none⟩ = some (.int .i64 r.y1.m) ∧ v.cell? ⟨g, 7, none⟩ = some (.int .i64 r.y1.s)) ∧ BxAt v R2 (o2 + i * 8) b) ∧ Below wr.heap.size wr v) v) := Lib.hid (fun v hv => ⟨⟨(eight_facts ((HRW.out.here HV.out).here hv)).1, fun j u hu => (hv.cell (p := ⟨R2, o2 + i * 8 + j, none⟩) hR2).trans (hcell i b hb j u hu)⟩, hv⟩)
                        have hS := HC.out wr.drew (Below.refl _ _).drew
                        have lg := (HRW.out.here HV.out).lt
                        clear hcell hb his hT hE hw4
                        go_wp2_with fail
                        refine wp_region_C (fun v => ((v.cell? ⟨g, 0, none⟩ = some (.int .i64 r.x0.m) ∧ v.cell? ⟨g, 1, none⟩ = some (.int .i64 r.x0.s) ∧ v.cell? ⟨g, 2, none⟩ = some (.int .i64 r.y0.m) ∧ v.cell? ⟨g, 3, none⟩ = some (.int .i64 r.y0.s) ∧ v.cell? ⟨g, 4, none⟩ = some (.int .i64 r.x1.m) ∧ v.cell? ⟨g, 5, none⟩ = some (.int .i64 r.x1.s) ∧ v.cell? ⟨g, 6, none⟩ = some (.int .i64 r.y1.m) ∧ v.cell? ⟨g, 7, none⟩ = some (.int .i64 r.y1.s)) ∧ BxAt v R2 (o2 + i * 8) b) ∧ Below wr.heap.size wr v) (by kernel_rfl) ?_
                        refine wpAnyC_take (i := 0) (v := ?v36) rfl (by kernel_rfl) (fun _ _ _ h => h) (Or.inl ⟨by rfl, ?y36⟩) hS ?r36
                        case y36 => rintro wq ⟨⟨⟨s0, s1, s2, s3, s4, s5, s6, s7⟩, -⟩, -⟩; go_simp; all_goals (first | with_reducible rfl | (simp only []; done) | (simp []; done) | (simp; omega) | skip)
                        try simp only [Act.put, List.setIfInBounds_toArray, List.set_cons_zero, List.set_cons_succ]
                        refine wpAnyC_take (i := 1) (v := .slice (some ⟨R2, o2, none⟩) k c5) rfl (by kernel_rfl) (fun _ _ _ h => h) (Or.inl ⟨by rfl, ?y37⟩) hS ?r37
                        case y37 => intro wq _; go_simp; all_goals (first | with_reducible rfl | (simp only []; done) | (simp []; done) | (simp; omega) | skip)
                        try simp only [Act.put, List.setIfInBounds_toArray, List.set_cons_zero, List.set_cons_succ]
                        refine wpAnyC_take (i := 2) (v := .int .i64 (i : Int)) rfl (by kernel_rfl) (fun _ _ _ h => h) (Or.inl ⟨by rfl, ?y38⟩) hS ?r38
                        case y38 => intro wq _; go_simp; all_goals (first | with_reducible rfl | (simp only []; done) | (simp []; done) | (simp; omega) | skip)
                        try simp only [Act.put, List.setIfInBounds_toArray, List.set_cons_zero, List.set_cons_succ]
                        refine wpAnyC_take (i := 3) (v := .pointer (some ⟨R2, o2 + i * 8, none⟩)) rfl (by kernel_rfl) (fun _ _ _ h => h) (Or.inl ⟨by rfl, ?y39⟩) hS ?r39
                        case y39 => intro wq _; go_simp; all_goals (first | with_reducible rfl | (simp only []; done) | (simp []; done) | (simp; omega) | skip)
                        try simp only [Act.put, List.setIfInBounds_toArray, List.set_cons_zero, List.set_cons_succ]
                        refine wpAnyC_take (i := 4) (v := ?v40) rfl (by kernel_rfl) (fun _ _ _ h => h) (Or.inl ⟨by rfl, ?y40⟩) hS ?r40
                        case y40 => rintro wq ⟨⟨-, hbx⟩, -⟩; obtain ⟨s0, s1, s2, s3, s4, s5, s6, s7⟩ := hbx.cells; go_simp; all_goals (first | with_reducible rfl | (simp only []; done) | (simp []; done) | (simp; omega) | skip)
                        try simp only [Act.put, List.setIfInBounds_toArray, List.set_cons_zero, List.set_cons_succ]
                        refine wpAnyC_one (j := 5) (by kernel_rfl) rfl (fun K hK => ?_)
                        go_simp
                        go_at_call 46
                        refine (HMT.out _).mono ?_
                        rintro e V1 ⟨rfl, kk⟩
                        have hbv : Below wr.heap.size wr V1 := (Below.refl wr.heap.size wr).drew.trans kk
                        have hS := HC.out _ hbv
                        clear kk
                        go_wp2_with fail
                        refine hK.out _ _ ⟨hS, ?_⟩
                        clear hK K
                        try simp only [Act.put, List.setIfInBounds_toArray, List.set_cons_zero, List.set_cons_succ]
                        refine wpAnyC_take (i := 6) (v := ?v41) rfl (by kernel_rfl) (fun _ _ _ h => h) (Or.inl ⟨by rfl, ?y41⟩) hS ?r41
                        case y41 => intro wq _; go_simp; all_goals (first | with_reducible rfl | (simp only []; done) | (simp []; done) | (simp; omega) | skip)
                        try simp only [Act.put, List.setIfInBounds_toArray, List.set_cons_zero, List.set_cons_succ]
                        refine wpAnyC_take (i := 7) (v := ?v42) rfl (by kernel_rfl) (fun _ _ _ h => h) (Or.inl ⟨by rfl, ?y42⟩) hS ?r42
                        case y42 => intro wq _; go_simp; all_goals (first | with_reducible rfl | (simp only []; done) | (simp []; done) | (simp; omega) | skip)
                        try simp only [Act.put, List.setIfInBounds_toArray, List.set_cons_zero, List.set_cons_succ]
                        refine wpAnyC_take (i := 8) (v := ?v43) rfl (by kernel_rfl) (fun _ _ _ h => h) (Or.inl ⟨by rfl, ?y43⟩) hS ?r43
                        case y43 => intro wq _; go_simp; all_goals (first | with_reducible rfl | (simp only []; done) | (simp []; done) | (simp; omega) | skip)
                        try simp only [Act.put, List.setIfInBounds_toArray, List.set_cons_zero, List.set_cons_succ]
                        refine wpAnyC_take (i := 9) (v := ?v44) rfl (by kernel_rfl) (fun _ _ _ h => h) (Or.inl ⟨by rfl, ?y44⟩) hS ?r44
                        case y44 => intro wq _; go_simp; all_goals (first | with_reducible rfl | (simp only []; done) | (simp []; done) | (simp; omega) | skip)
                        try simp only [Act.put, List.setIfInBounds_toArray, List.set_cons_zero, List.set_cons_succ]
                        refine wpAnyC_take (i := 10) (v := ?v45) rfl (by kernel_rfl) (fun _ _ _ h => h) (Or.inl ⟨by rfl, ?y45⟩) hS ?r45
                        case y45 => intro wq _; go_simp; all_goals (first | with_reducible rfl | (simp only []; done) | (simp []; done) | (simp; omega) | skip)
                        try simp only [Act.put, List.setIfInBounds_toArray, List.set_cons_zero, List.set_cons_succ]
                        refine wpAnyC_done (by kernel_rfl) ?_ _
                        have HV2 := Lib.hid (HV.out.trans (hbv.mono HV.out.size))
                        clear hS HC HMT
                        cases T
                        all_goals
                          go_wp2_with fail
                          go_roundw
                          case rel => exact ⟨i + 1, by omega, by go_num, by rw [HAN.out]; rfl, HV2⟩
                          case measure => simp [intOf]; omega
                      · obtain rfl : i = k := by omega
                        have d4 : decide ((i : Int) < (i : Int)) = false := by simp
                        rw [List.take_of_length_le (by rw [HFA4.out.len]; exact Nat.le_refl _)]
                        obtain ⟨T, hT⟩ : ∃ T, L.any (meetsB r) = T := ⟨_, rfl⟩
                        have HCT := Lib.hid (HCJ.out.trans hT)
                        rw [hT]
                        have HOW := Lib.hid (own_later HR5.out.1 HV.out)
                        have HBW := Lib.hid hw4
                        obtain ⟨i0, hi0, hz0, hz1, hz2⟩ := info_bl
                        obtain ⟨jj, hjj⟩ : ∃ jj, y * X + x = jj := ⟨_, rfl⟩
                        have HJJ := Lib.hid hjj
                        rw [hjj] at HOW HCT hjn
                        rw [hjj]
                        clear hjj hT hw4
                        go_wp2_with (at_builtin; refine wpList_append_own _ rfl _ _ 26 rfl W4.heap.size 4 i0 (.bool false) 1 1 Try.underlying26 hi0 hz0 hz1 hz2 rfl (by decide) _ _ _ rfl (HOW.out.alloc _) ⟨wr.heap.size, 0, none⟩ 1 1 [.bool T] rfl rfl (World.news_of_block (cs := #[.bool T]) (t := 4) (fr := (0, 0)) (heap_alloc_new _ _)) ?s1 ?s2 ?s3 ?s4 ?_)
                        case s1 => simp [Value.oneCell']
                        case s2 => unfold maxLen; omega
                        case s3 => omega
                        case s4 => have := HBW.out.size; simp; omega
                        intro v' w6 hown' hgrow _
                        have hown2 : w6.ownsRow W4.heap.size 4 1 v' (jj + 1) (bls ((List.range (jj + 1)).map cv)) := by
                          rw [List.range_succ, List.map_append, show bls ((List.range jj).map cv ++ [jj].map cv) = bls ((List.range jj).map cv) ++ [.bool T] by unfold bls; rw [List.map_append]; simp [HCT.out]]
                          exact hown'
                        have hb6 : Below W4.heap.size W4 w6 := (HBW.out.alloc HBW.out.size _).grown hgrow (by have := HBW.out.size; simp; omega) (fun j e => (own_lt HOW.out e).1)
                        have HO6 := Lib.hid (And.intro hown2 hb6)
                        clear hown' hgrow hown2 hb6
                        go_wp2_with fail
                        go_roundw
                        case rel => exact ⟨x + 1, by omega, by go_num, by rw [← Nat.add_assoc, HJJ.out]; exact HO6⟩
                        case measure => simp [intOf]; omega
                · obtain rfl : x = X := by omega
                  have d3 : decide ((x : Int) < (x : Int)) = false := by simp
                  have e1 : y * x + x = (y + 1) * x := (Nat.succ_mul ..).symm
                  rw [e1] at HR ⊢
                  clear e1
                  go_wp2_with fail
                  go_roundw
                  case rel => exact ⟨y + 1, by omega, by go_num, HR⟩
                  case measure => simp [intOf]; omega
            · obtain rfl : y = Z := by omega
              have d2 : decide ((y : Int) < (y : Int)) = false := by simp
              obtain ⟨A11, c11, e11, h11⟩ := BoolsAt.of_own HQ.out.1
              injection e11 with e11 _ e12
              subst e11 e12
              have HF5 := Lib.hid (HF4.out.trans (HQ.out.2.mono HF4.out.size))
              have HBL := Lib.hid h11
              clear h11
              go_wp2_with fail
              go_ret2
              refine ⟨_, _, _, by rw [HE2.out]; rfl, .inr ⟨HE2.out, X, y, rfl, rfl, by rw [Nat.mul_comm], ?_⟩, HF5.out⟩
              rw [HN.out, HCVE.out.1, HCVE.out.2, ← HN.out, Nat.mul_comm X y]
              exact HBL.out
end Go.Proofs.Ytmleoagdelgddaa
/- raster: RasterCovers. -/
namespace Go.Proofs.Ytmleoagdelgddaa
open Go.RowKit Dec

theorem ans_both {m : MV} {W H : Int} {l : List BV} {w w1 w2 : World} {A A2 : Option Addr} {n c n2 c2 : Nat} (h : AnsC m W H l w1 A n c) (h1 : Below w1.heap.size w1 w) (k : AnsR m W H l w2 A2 n2 c2) (k1 : Below w2.heap.size w2 w) :
    ∃ bl, BoolsAt w A n c bl ∧ BoolsAt w A2 n2 c2 bl := by
  rcases h with ⟨h0, rfl, rfl, rfl⟩ | ⟨h0, X, Z, B, rfl, rfl, hX, hZ, hXZ, rfl, rfl, rfl, hw⟩
  · rcases k with ⟨-, rfl, rfl, rfl⟩ | ⟨k0, -⟩
    · exact ⟨[], ⟨rfl, Nat.le_refl _, by omega, fun h => absurd h (by omega)⟩, ⟨rfl, Nat.le_refl _, by omega, fun h => absurd h (by omega)⟩⟩
    · exact absurd k0 h0
  · rcases k with ⟨k0, -⟩ | ⟨-, X', Z', eX, eZ, rfl, kb⟩
    · exact absurd h0 k0
    · obtain rfl : X' = X := by omega
      obtain rfl : Z' = Z := by omega
      refine ⟨_, BoolsAt.whole (hw.here h1) (by simp) (by omega) (fun i x hx => ?_), kb.below k1⟩
      have hi : i < X' * Z' := by
        have := (List.getElem?_eq_some_iff.1 hx).1
        simpa using this
      rw [List.getElem?_map, List.getElem?_range hi, Option.map_some, Option.some.injEq] at hx
      rw [rowBl_at _ _ _ _ hi, decide_eq_true hi, Bool.true_and, hx]
set_option maxRecDepth 100000 in
set_option maxHeartbeats 8000000 in
theorem covers_law (m : MV) (W H : Int) (A : Option Addr) (n c : Nat) (l : List BV) (w : World) (h : BxsAt w A n c l) :
    Calls Try.prog 4 #[m.val, .int .i64 W, .int .i64 H, .slice A n c] w fun e w' => e = .returned (.bool true) ∧ Below w.heap.size w w' := by
  have HP := Lib.hid (fun w => pixels_any W H w)
  have HCV := Lib.hid (fun w h hn => covered_ans m W H A n c l w h hn)
  have HRV := Lib.hid (fun w h hn => rcovered_any m W H A n c l w h hn)
  have HH := Lib.hid h
  have HB0 := Lib.hid ((Below.refl w.heap.size w).alloc (Nat.le_refl _) (.cells #[.int .i64 m.a.m, .int .i64 m.a.s, .int .i64 m.b.m, .int .i64 m.b.s, .int .i64 m.c.m, .int .i64 m.c.s, .int .i64 m.d.m, .int .i64 m.d.s, .int .i64 m.e.m, .int .i64 m.e.s, .int .i64 m.f.m, .int .i64 m.f.s] 42))
  have HM0 := Lib.hid (Whole.made w 42 #[.int .i64 m.a.m, .int .i64 m.a.s, .int .i64 m.b.m, .int .i64 m.b.s, .int .i64 m.c.m, .int .i64 m.c.s, .int .i64 m.d.m, .int .i64 m.d.s, .int .i64 m.e.m, .int .i64 m.e.s, .int .i64 m.f.m, .int .i64 m.f.s])
  clear h
  unfold MV.val
  unfold RCovIs at HRV
  obtain ⟨E0, he0⟩ : ∃ E, covE m W H l = E := ⟨_, rfl⟩
  rw [he0] at HCV HRV
  clear he0
  by_cases h20 : 20 < n
  · have d1 : decide ((20 : Int) < (n : Int)) = true := decide_eq_true (by omega)
    go_enter Try.func4, Try.ntmps4
    go_wp2_with fail
    go_ret
    exact ⟨rfl, HB0.out⟩
  have d1 : decide ((20 : Int) < (n : Int)) = false := decide_eq_false (by omega)
  have hn20 : n ≤ 20 := by omega
  clear h20
  by_cases hbig : sizeB W H = true ∧ (30 < W ∨ 30 < H)
  · obtain ⟨hs, hb⟩ := hbig
    rw [hs] at HP
    clear hs
    by_cases h30 : 30 < W
    · have d2 : decide ((30 : Int) < W) = true := decide_eq_true h30
      clear hb h30
      go_enter Try.func4, Try.ntmps4
      go_wp2_with fail
      refine (HP.out _).mono ?_
      rintro e w1 ⟨rfl, rfl⟩
      go_wp2_with fail
      go_ret
      exact ⟨rfl, HB0.out⟩
    · have d2 : decide ((30 : Int) < W) = false := decide_eq_false h30
      have d3 : decide ((30 : Int) < H) = true := decide_eq_true (hb.resolve_left h30)
      clear hb h30
      go_enter Try.func4, Try.ntmps4
      go_wp2_with fail
      refine (HP.out _).mono ?_
      rintro e w1 ⟨rfl, rfl⟩
      go_wp2_with fail
      go_ret
      exact ⟨rfl, HB0.out⟩
  obtain ⟨s, hs⟩ : ∃ s, sizeB W H = s := ⟨_, rfl⟩
  rw [hs] at HP hbig
  have HG := Lib.hid hbig
  clear hbig hs
  go_enter Try.func4, Try.ntmps4
  go_upto_region 1 with fail
  go_cut [28] from 13 to 27 (fun s28 wx => s28 = .bool false ∧ wx = w.alloc (.cells #[.int .i64 m.a.m, .int .i64 m.a.s, .int .i64 m.b.m, .int .i64 m.b.s, .int .i64 m.c.m, .int .i64 m.c.s, .int .i64 m.d.m, .int .i64 m.d.s, .int .i64 m.e.m, .int .i64 m.e.s, .int .i64 m.f.m, .int .i64 m.f.s] 42))
  case first =>
    cases s
    · go_wp2_with fail
      refine (HP.out _).mono ?_
      rintro e w1 ⟨rfl, rfl⟩
      go_wp2_with fail
      go_meet
      exact ⟨rfl, rfl⟩
    · have d2 : decide ((30 : Int) < W) = false := decide_eq_false (fun k => HG.out ⟨rfl, .inl k⟩)
      have d3 : decide ((30 : Int) < H) = false := decide_eq_false (fun k => HG.out ⟨rfl, .inr k⟩)
      go_wp2_with fail
      refine (HP.out _).mono ?_
      rintro e w1 ⟨rfl, rfl⟩
      go_wp2_with fail
      go_meet
      exact ⟨rfl, rfl⟩
  case rest =>
    obtain ⟨rfl, rfl⟩ := hcut
    have cm := HM0.out.reads
    have lm := HM0.out.lt
    go_wp2_with fail
    refine (HCV.out _ (HH.out.below HB0.out) (by omega)).mono ?_
    rintro e w1 ⟨Aa, na, ca, rfl, hans, hb⟩
    have HA1 := Lib.hid hans
    have HB1 := Lib.hid (HB0.out.trans (hb.mono HB0.out.size))
    have HM1 := Lib.hid (HM0.out.here hb)
    clear hans hb cm lm
    have cm := HM1.out.reads
    have lm := HM1.out.lt
    go_wp2_with fail
    refine (HRV.out _ (HH.out.below HB1.out) (by omega)).mono ?_
    rintro e w2 ⟨Ac, nc, cc, rfl, hans, hb⟩
    have HA2 := Lib.hid (And.intro hb hans)
    have HB2 := Lib.hid (HB1.out.trans (hb.mono HB1.out.size))
    clear hans hb cm lm
    go_wp2_with fail
    refine (awake_any _).mono ?_
    rintro e w3 ⟨rfl, hb⟩
    have HB3 := Lib.hid (HB2.out.trans (hb.mono HB2.out.size))
    obtain ⟨bl, hl1, hl2⟩ := ans_both HA1.out (HA2.out.1.trans (hb.mono HA2.out.1.size)) HA2.out.2 hb
    have HBL := Lib.hid (And.intro hl1 hl2)
    clear hb hl1 hl2
    go_wp2_with fail
    refine (bools_same _ _ _ _ _ _ bl _ HBL.out.1 HBL.out.2).mono ?_
    rintro e w4 ⟨rfl, j, rfl⟩
    have HB4 := Lib.hid (bdrewNr HB3.out j)
    go_wp2_with fail
    go_ret
    exact ⟨rfl, HB4.out⟩
end Go.Proofs.Ytmleoagdelgddaa
