/- raster: RasterMore. Written by gen_more.py. -/
import Derived.Test.YtmleoagdelgddaaRasMa
import Derived.Test.YtmleoagdelgddaaRegionC
import Derived.BigQuiet
import Derived.Deep.QuietTactic
namespace Go.Proofs.Ytmleoagdelgddaa
open Go.RowKit Dec

theorem wpAnyC_two {P : Program} {ops : Array Oper} {Q : Exit → Act → World → Prop} {md : Region.Mode} {C : World → Prop} {i j : Nat} {fuel : Nat} {listed : Array Bool} {a : Act} {w : World} {oi oj : Oper} {ri rj : List Oper} (hr : Region.ready md ops listed = [i, j]) (hi : ops.toList.drop i = oi :: ri) (hj : ops.toList.drop j = oj :: rj)
    (h1 : ∀ K' : Act → World → Prop, Shut (∀ a w, (C w ∧ wpAnyC P md ops Q C fuel (listed.setIfInBounds i true) a w) → K' a w) → if Region.wanted oi (yielded ops a.tmps) = true then Oper.wp P oi a w K' Q else K' (a.put oi.dst undef) w)
    (h2 : ∀ K' : Act → World → Prop, Shut (∀ a w, (C w ∧ wpAnyC P md ops Q C fuel (listed.setIfInBounds j true) a w) → K' a w) → if Region.wanted oj (yielded ops a.tmps) = true then Oper.wp P oj a w K' Q else K' (a.put oj.dst undef) w) :
    wpAnyC P md ops Q C (fuel + 1) listed a w := by
  refine ⟨fun h0 => absurd (hr ▸ h0) (by simp), fun m hm => ?_⟩
  rw [hr] at hm
  rcases List.mem_cons.1 hm with rfl | hm
  · exact wpOp_step (at_of_drop hi) (fun K' hK => h1 K' (fun a w hS => hK a w hS))
  · obtain rfl : m = j := by simpa using hm
    exact wpOp_step (at_of_drop hj) (fun K' hK => h2 K' (fun a w hS => hK a w hS))
theorem one_bx {V : World} {q : Nat} {b : BV} (h : Whole V q 52 #[.int .i64 b.x0.m, .int .i64 b.x0.s, .int .i64 b.y0.m, .int .i64 b.y0.s, .int .i64 b.x1.m, .int .i64 b.x1.s, .int .i64 b.y1.m, .int .i64 b.y1.s]) : BxsAt V (some ⟨q, 0, none⟩) 1 1 [b] :=
  ⟨rfl, Nat.le_refl _, by decide, fun _ => ⟨_, 0, rfl, h.lt, fun i x hx j u hu => by
    obtain rfl : i = 0 := by
      have := (List.getElem?_eq_some_iff.1 hx).1
      simp at this
      omega
    simp at hx
    subst hx
    refine (h.reads _).trans ?_
    rw [show 0 + 0 * 8 + j = j by omega]
    have e : (bxV b).toArray[j]? = some u := by simpa using hu
    exact e⟩⟩
/-- The row of the regions, and the box of one more, each in a block of its own. -/
structure JQ (v0 V : World) (g q n : Nat) (v : Value) (l : List BV) (b : BV) : Prop where
  own : V.ownsRow g 52 8 v n (rowBx l)
  bx : Whole V q 52 #[.int .i64 b.x0.m, .int .i64 b.x0.s, .int .i64 b.y0.m, .int .i64 b.y0.s, .int .i64 b.x1.m, .int .i64 b.x1.s, .int .i64 b.y1.m, .int .i64 b.y1.s]
  ne : q ≠ g
  below : Below v0.heap.size v0 V
  lg : v0.heap.size ≤ g ∧ g ≤ V.heap.size
theorem own_ge {w : World} {g n : Nat} {v : Value} {xs : List Value} (h : w.ownsRow g 52 8 v n xs) {m : Nat} (hm : m ≤ g) : ∀ k, v.ownBlock = some k → m ≤ k := fun _ e => Nat.le_trans hm (own_lt h e).1
theorem own_empty {W : World} {g : Nat} (hg : Whole W g 52 #[]) : W.ownsRow g 52 8 (.slice (some ⟨g, 0, none⟩) 0 0) 0 (rowBx []) :=
  ⟨rfl, .inr ⟨g, 0, #[], rfl, Nat.le_refl _, hg, Nat.le_refl _, by unfold maxLen; omega, rfl, rfl⟩⟩
theorem grown_below {v0 V w' : World} {g : Nat} {row : Option Nat} (hb : Below v0.heap.size v0 V) (h : V.grownBy w' row) (hr : row = some g) (hg : v0.heap.size ≤ g) : Below v0.heap.size v0 w' :=
  hb.grown h hb.size (fun _ e => by rw [hr] at e; injection e with e; omega)
theorem rowBl_full {w : World} {B N : Nat} {cov : Nat → Bool} (h : Whole w B 4 (rowBl cov N N)) {i : Nat} (hi : i < N) : w.cell? ⟨B, i, none⟩ = some (.bool (cov i)) := by
  rw [h.reads, rowBl_at _ _ _ _ hi, decide_eq_true hi, Bool.true_and]
/-- The cells of the matrix and of the box. -/
def MCb (w v : World) (m : MV) (b : BV) : Prop := (v.cell? ⟨w.heap.size, 0, none⟩ = some (.int .i64 m.a.m) ∧ v.cell? ⟨w.heap.size, 1, none⟩ = some (.int .i64 m.a.s) ∧ v.cell? ⟨w.heap.size, 2, none⟩ = some (.int .i64 m.b.m) ∧ v.cell? ⟨w.heap.size, 3, none⟩ = some (.int .i64 m.b.s) ∧ v.cell? ⟨w.heap.size, 4, none⟩ = some (.int .i64 m.c.m) ∧ v.cell? ⟨w.heap.size, 5, none⟩ = some (.int .i64 m.c.s) ∧ v.cell? ⟨w.heap.size, 6, none⟩ = some (.int .i64 m.d.m) ∧ v.cell? ⟨w.heap.size, 7, none⟩ = some (.int .i64 m.d.s) ∧ v.cell? ⟨w.heap.size, 8, none⟩ = some (.int .i64 m.e.m) ∧ v.cell? ⟨w.heap.size, 9, none⟩ = some (.int .i64 m.e.s) ∧ v.cell? ⟨w.heap.size, 10, none⟩ = some (.int .i64 m.f.m) ∧ v.cell? ⟨w.heap.size, 11, none⟩ = some (.int .i64 m.f.s)) ∧ (v.cell? ⟨(w.heap.size + 1), 0, none⟩ = some (.int .i64 b.x0.m) ∧ v.cell? ⟨(w.heap.size + 1), 1, none⟩ = some (.int .i64 b.x0.s) ∧ v.cell? ⟨(w.heap.size + 1), 2, none⟩ = some (.int .i64 b.y0.m) ∧ v.cell? ⟨(w.heap.size + 1), 3, none⟩ = some (.int .i64 b.y0.s) ∧ v.cell? ⟨(w.heap.size + 1), 4, none⟩ = some (.int .i64 b.x1.m) ∧ v.cell? ⟨(w.heap.size + 1), 5, none⟩ = some (.int .i64 b.x1.s) ∧ v.cell? ⟨(w.heap.size + 1), 6, none⟩ = some (.int .i64 b.y1.m) ∧ v.cell? ⟨(w.heap.size + 1), 7, none⟩ = some (.int .i64 b.y1.s))
theorem mcb {w v : World} {m : MV} {b : BV} (h : Whole v w.heap.size 42 #[.int .i64 m.a.m, .int .i64 m.a.s, .int .i64 m.b.m, .int .i64 m.b.s, .int .i64 m.c.m, .int .i64 m.c.s, .int .i64 m.d.m, .int .i64 m.d.s, .int .i64 m.e.m, .int .i64 m.e.s, .int .i64 m.f.m, .int .i64 m.f.s]) (k : Whole v (w.heap.size + 1) 52 #[.int .i64 b.x0.m, .int .i64 b.x0.s, .int .i64 b.y0.m, .int .i64 b.y0.s, .int .i64 b.x1.m, .int .i64 b.x1.s, .int .i64 b.y1.m, .int .i64 b.y1.s]) : MCb w v m b :=
  ⟨⟨h.reads 0, h.reads 1, h.reads 2, h.reads 3, h.reads 4, h.reads 5, h.reads 6, h.reads 7, h.reads 8, h.reads 9, h.reads 10, h.reads 11⟩, k.reads 0, k.reads 1, k.reads 2, k.reads 3, k.reads 4, k.reads 5, k.reads 6, k.reads 7⟩
/-- What a call of Covered has answered. -/
def AnsC (m : MV) (W H : Int) (l : List BV) (w : World) (A : Option Addr) (n c : Nat) : Prop :=
  (covE m W H l ≠ 0 ∧ A = none ∧ n = 0 ∧ c = 0) ∨ (covE m W H l = 0 ∧ ∃ X Z B : Nat, W = (X : Int) ∧ H = (Z : Int) ∧ 1 ≤ X ∧ 1 ≤ Z ∧ X * Z ≤ 65536 ∧ A = some ⟨B, 0, none⟩ ∧ n = X * Z ∧ c = X * Z ∧
    Whole w B 4 (rowBl (cov (pF m X Z) ((Z + 1) * (X + 1)) X Z (l.map (bm · ((X * Z : Nat) : Int)))) (X * Z) (X * Z)))
theorem AnsC.later {m : MV} {W H : Int} {l : List BV} {w w' : World} {A : Option Addr} {n c : Nat} (h : AnsC m W H l w A n c) (hb : Below w.heap.size w w') : AnsC m W H l w' A n c := by
  rcases h with h | ⟨h0, X, Z, B, h1, h2, h3, h4, h5, h6, h7, h8, h9⟩
  · exact .inl h
  · exact .inr ⟨h0, X, Z, B, h1, h2, h3, h4, h5, h6, h7, h8, h9.here hb⟩
theorem covered_ans (m : MV) (W H : Int) (A : Option Addr) (n c : Nat) (l : List BV) (w : World) (h : BxsAt w A n c l) (hn : n ≤ 1000) :
    Calls Try.prog 22 #[.agg #[.int .i64 m.a.m, .int .i64 m.a.s, .int .i64 m.b.m, .int .i64 m.b.s, .int .i64 m.c.m, .int .i64 m.c.s, .int .i64 m.d.m, .int .i64 m.d.s, .int .i64 m.e.m, .int .i64 m.e.s, .int .i64 m.f.m, .int .i64 m.f.s], .int .i64 W, .int .i64 H, .slice A n c] w fun e w' => ∃ A' n' c', e = .returned (.tuple #[.slice A' n' c', .int .i64 (covE m W H l)]) ∧ AnsC m W H l w' A' n' c' ∧ Below w.heap.size w w' := by
  refine (covered_any m W H A n c l w h hn).mono ?_
  rintro e w' ⟨hb, ⟨hne, he⟩ | ⟨h0, X, Z, B, h1, h2, h3, h4, h5, he, hw⟩⟩
  · exact ⟨none, 0, 0, he, .inl ⟨hne, rfl, rfl, rfl⟩, hb⟩
  · exact ⟨_, _, _, by rw [h0]; exact he, .inr ⟨h0, X, Z, B, h1, h2, h3, h4, h5, rfl, rfl, rfl, hw⟩, hb⟩
theorem bxs_nil (w : World) : BxsAt w none 0 0 [] := ⟨rfl, Nat.le_refl _, by decide, fun h => absurd h (by omega)⟩
set_option maxRecDepth 100000 in
set_option maxHeartbeats 8000000 in
theorem more_law (m : MV) (W H : Int) (A : Option Addr) (n c : Nat) (l : List BV) (b : BV) (w : World) (h : BxsAt w A n c l) (hz : A = none → n = 0 ∧ c = 0) :
    Calls Try.prog 7 #[m.val, .int .i64 W, .int .i64 H, .slice A n c, b.val] w fun e w' => e = .returned (.bool true) ∧ Below w.heap.size w w' := by
  have HP := Lib.hid (fun w => pixels_any W H w)
  have HCV := Lib.hid (fun A n c l w h hn => covered_ans m W H A n c l w h hn)
  have HZ := Lib.hid hz
  have hl := h.len
  have HH := Lib.hid h
  have HB0 := Lib.hid (((Below.refl w.heap.size w).alloc (Nat.le_refl _) (.cells #[.int .i64 m.a.m, .int .i64 m.a.s, .int .i64 m.b.m, .int .i64 m.b.s, .int .i64 m.c.m, .int .i64 m.c.s, .int .i64 m.d.m, .int .i64 m.d.s, .int .i64 m.e.m, .int .i64 m.e.s, .int .i64 m.f.m, .int .i64 m.f.s] 42)).alloc (by simp) (.cells #[.int .i64 b.x0.m, .int .i64 b.x0.s, .int .i64 b.y0.m, .int .i64 b.y0.s, .int .i64 b.x1.m, .int .i64 b.x1.s, .int .i64 b.y1.m, .int .i64 b.y1.s] 52))
  have hB0 := Whole.made (w.alloc (.cells #[.int .i64 m.a.m, .int .i64 m.a.s, .int .i64 m.b.m, .int .i64 m.b.s, .int .i64 m.c.m, .int .i64 m.c.s, .int .i64 m.d.m, .int .i64 m.d.s, .int .i64 m.e.m, .int .i64 m.e.s, .int .i64 m.f.m, .int .i64 m.f.s] 42)) 52 #[.int .i64 b.x0.m, .int .i64 b.x0.s, .int .i64 b.y0.m, .int .i64 b.y0.s, .int .i64 b.x1.m, .int .i64 b.x1.s, .int .i64 b.y1.m, .int .i64 b.y1.s]
  simp only [World.size_alloc] at hB0
  have HM0 := Lib.hid (And.intro ((Whole.made w 42 #[.int .i64 m.a.m, .int .i64 m.a.s, .int .i64 m.b.m, .int .i64 m.b.s, .int .i64 m.c.m, .int .i64 m.c.s, .int .i64 m.d.m, .int .i64 m.d.s, .int .i64 m.e.m, .int .i64 m.e.s, .int .i64 m.f.m, .int .i64 m.f.s]).old (.cells #[.int .i64 b.x0.m, .int .i64 b.x0.s, .int .i64 b.y0.m, .int .i64 b.y0.s, .int .i64 b.x1.m, .int .i64 b.x1.s, .int .i64 b.y1.m, .int .i64 b.y1.s] 52)) hB0)
  clear hB0 h hz
  unfold MV.val BV.val
  obtain ⟨E0, he0⟩ : ∃ E, covE m W H l = E := ⟨_, rfl⟩
  obtain ⟨E1, he1⟩ : ∃ E, covE m W H (l ++ [b]) = E := ⟨_, rfl⟩
  obtain ⟨E2, he2⟩ : ∃ E, covE m W H [] = E := ⟨_, rfl⟩
  have HE := Lib.hid (And.intro he0 (And.intro he1 he2))
  clear he0 he1 he2
  by_cases h20 : 20 < n
  · have d1 : decide ((20 : Int) < (n : Int)) = true := decide_eq_true (by omega)
    go_enter Try.func7, Try.ntmps7
    go_wp2_with fail
    go_ret
    exact ⟨rfl, HB0.out⟩
  have d1 : decide ((20 : Int) < (n : Int)) = false := decide_eq_false (by omega)
  have hn20 : n ≤ 20 := by omega
  clear h20
  by_cases hbig : sizeB W H = true ∧ (30 < W ∨ 30 < H)
  · obtain ⟨hs, hb⟩ := hbig
    rw [hs] at HP
    clear hs
    by_cases h30 : 30 < W
    · have d2 : decide ((30 : Int) < W) = true := decide_eq_true h30
      clear hb h30
      go_enter Try.func7, Try.ntmps7
      go_wp2_with fail
      refine (HP.out _).mono ?_
      rintro e w1 ⟨rfl, rfl⟩
      go_wp2_with fail
      go_ret
      exact ⟨rfl, HB0.out⟩
    · have d2 : decide ((30 : Int) < W) = false := decide_eq_false h30
      have d3 : decide ((30 : Int) < H) = true := decide_eq_true (hb.resolve_left h30)
      clear hb h30
      go_enter Try.func7, Try.ntmps7
      go_wp2_with fail
      refine (HP.out _).mono ?_
      rintro e w1 ⟨rfl, rfl⟩
      go_wp2_with fail
      go_ret
      exact ⟨rfl, HB0.out⟩
  obtain ⟨s, hs⟩ : ∃ s, sizeB W H = s := ⟨_, rfl⟩
  rw [hs] at HP hbig
  have HG := Lib.hid hbig
  clear hbig hs
  go_enter Try.func7, Try.ntmps7
  go_upto_region 1 with fail
  go_cut [33] from 18 to 32 (fun s33 wx => s33 = .bool false ∧ wx = (w.alloc (.cells #[.int .i64 m.a.m, .int .i64 m.a.s, .int .i64 m.b.m, .int .i64 m.b.s, .int .i64 m.c.m, .int .i64 m.c.s, .int .i64 m.d.m, .int .i64 m.d.s, .int .i64 m.e.m, .int .i64 m.e.s, .int .i64 m.f.m, .int .i64 m.f.s] 42)).alloc (.cells #[.int .i64 b.x0.m, .int .i64 b.x0.s, .int .i64 b.y0.m, .int .i64 b.y0.s, .int .i64 b.x1.m, .int .i64 b.x1.s, .int .i64 b.y1.m, .int .i64 b.y1.s] 52))
  case first =>
    cases s
    · go_wp2_with fail
      refine (HP.out _).mono ?_
      rintro e w1 ⟨rfl, rfl⟩
      go_wp2_with fail
      go_meet
      exact ⟨rfl, rfl⟩
    · have d2 : decide ((30 : Int) < W) = false := decide_eq_false (fun k => HG.out ⟨rfl, .inl k⟩)
      have d3 : decide ((30 : Int) < H) = false := decide_eq_false (fun k => HG.out ⟨rfl, .inr k⟩)
      go_wp2_with fail
      refine (HP.out _).mono ?_
      rintro e w1 ⟨rfl, rfl⟩
      go_wp2_with fail
      go_meet
      exact ⟨rfl, rfl⟩
  case rest =>
    obtain ⟨rfl, rfl⟩ := hcut
    have bxL := HH.out.below HB0.out
    have cm := HM0.out.1.reads
    have lm := HM0.out.1.lt
    go_wp2_with fail
    refine (HCV.out _ _ _ _ _ bxL (by omega)).mono ?_
    rw [HE.out.1]
    rintro e w1 ⟨Aa, na, ca, rfl, hans, hb⟩
    have HA1 := Lib.hid hans
    have HB1 := Lib.hid (HB0.out.trans (hb.mono HB0.out.size))
    have HM1 := Lib.hid (And.intro (HM0.out.1.here hb) (HM0.out.2.here hb))
    clear hans hb bxL cm lm
    go_wp2_with fail
    go_cut [13, 14] from 42 to 54 (fun s13 s14 wx => ∃ A' n' c', s13 = .slice A' n' c' ∧ s14 = .int .i64 E1 ∧ Hid (AnsC m W H (l ++ [b]) wx A' n' c' ∧ Below w1.heap.size w1 wx))
    case first =>
        have S0 : Hid (∀ v, Below w1.heap.size w1 v → MCb w v m b ∧ Below w1.heap.size w1 v) := Lib.hid (fun v hv => ⟨mcb (HM1.out.1.here hv) (HM1.out.2.here hv), hv⟩)
        have hS := S0.out w1.drew (Below.refl _ _).drew
        have hL := HH.out.below HB1.out
        have HL := Lib.hid hL
        clear hL
        refine wp_region_C (fun v => MCb w v m b ∧ Below w1.heap.size w1 v) (by kernel_rfl) ?_
        refine wpAnyC_take (i := 0) (v := ?v1) rfl (by kernel_rfl) (fun _ _ _ h => h) (Or.inl ⟨by rfl, ?y1⟩) hS ?r1
        case y1 => rintro wq ⟨⟨cm, cb⟩, -⟩; obtain ⟨m0, m1, m2, m3, m4, m5, m6, m7, m8, m9, m10, m11⟩ := cm; obtain ⟨b0, b1, b2, b3, b4, b5, b6, b7⟩ := cb; go_simp; try with_reducible rfl
        try simp only [Act.put, List.setIfInBounds_toArray, List.set_cons_zero, List.set_cons_succ]
        refine wpAnyC_take (i := 1) (v := ?v2) rfl (by kernel_rfl) (fun _ _ _ h => h) (Or.inl ⟨by rfl, ?y2⟩) hS ?r2
        case y2 => intro wq _; go_simp; all_goals (first | with_reducible rfl | (simp only []; done) | (simp []; done) | (simp; omega) | skip)
        try simp only [Act.put, List.setIfInBounds_toArray, List.set_cons_zero, List.set_cons_succ]
        refine wpAnyC_take (i := 2) (v := ?v3) rfl (by kernel_rfl) (fun _ _ _ h => h) (Or.inl ⟨by rfl, ?y3⟩) hS ?r3
        case y3 => intro wq _; go_simp; all_goals (first | with_reducible rfl | (simp only []; done) | (simp []; done) | (simp; omega) | skip)
        try simp only [Act.put, List.setIfInBounds_toArray, List.set_cons_zero, List.set_cons_succ]
        refine wpAnyC_take (i := 4) (v := ?v4) rfl (by kernel_rfl) (fun _ _ _ h => h) (Or.inl ⟨by rfl, ?y4⟩) hS ?r4
        case y4 => intro wq _; go_simp; all_goals (first | with_reducible rfl | (simp only []; done) | (simp []; done) | (simp; omega) | skip)
        try simp only [Act.put, List.setIfInBounds_toArray, List.set_cons_zero, List.set_cons_succ]
        refine wpAnyC_take (i := 6) (v := ?v5) rfl (by kernel_rfl) (fun _ _ _ h => h) (Or.inl ⟨by rfl, ?y5⟩) hS ?r5
        case y5 => rintro wq ⟨⟨cm, cb⟩, -⟩; obtain ⟨m0, m1, m2, m3, m4, m5, m6, m7, m8, m9, m10, m11⟩ := cm; obtain ⟨b0, b1, b2, b3, b4, b5, b6, b7⟩ := cb; go_simp; try with_reducible rfl
        try simp only [Act.put, List.setIfInBounds_toArray, List.set_cons_zero, List.set_cons_succ]
        refine wpAnyC_two (i := 3) (j := 7) (by kernel_rfl) rfl rfl (fun K hK => ?_) (fun K hK => ?_)
        · go_simp
          go_wp2_with fail
          have hbA : Below w1.heap.size w1 (w1.alloc (.cells #[] 52)).drew := ((Below.refl _ _).alloc (Nat.le_refl _) _).drew
          have hS := S0.out _ hbA
          have HE0 : Hid (Whole (w1.alloc (.cells #[] 52)).drew w1.heap.size 52 #[]) := Lib.hid (Whole.made w1 52 #[])
          refine hK.out _ _ ⟨hS, ?_⟩
          clear hK K
          try simp only [Act.put, List.setIfInBounds_toArray, List.set_cons_zero, List.set_cons_succ]
          refine wpAnyC_two (i := 5) (j := 7) (by kernel_rfl) rfl rfl (fun K hK => ?_) (fun K hK => ?_)
          · refine Eq.mpr (if_pos rfl) ?_
            refine wp_app_bx (.tmp 46) (.tmp 47) rfl (w1.heap.size) 0 n c 0 n A _ [] l l (Nat.zero_add n) rfl rfl (own_empty HE0.out) (by first | (simp; done) | (simp; omega)) rfl (HL.out.below hbA) HZ.out (by omega) (by omega) ?_
            intro A' c' V2 hown hgrow
            have hb9 : Below w1.heap.size w1 V2 := (hbA).grown hgrow (hbA).size (own_ge (own_empty HE0.out) (by first | exact Nat.le_refl _ | omega))
            have hS := S0.out _ hb9
            refine hK.out _ _ ⟨hS, ?_⟩
            clear hK K
            try simp only [Act.put, List.setIfInBounds_toArray, List.set_cons_zero, List.set_cons_succ]
            refine wpAnyC_one (j := 7) (by kernel_rfl) rfl (fun K hK => ?_)
            go_simp
            go_wp2_with fail
            have hbB : Below w1.heap.size w1 (V2.alloc (.cells #[.int .i64 b.x0.m, .int .i64 b.x0.s, .int .i64 b.y0.m, .int .i64 b.y0.s, .int .i64 b.x1.m, .int .i64 b.x1.s, .int .i64 b.y1.m, .int .i64 b.y1.s] 52)) := hb9.alloc hb9.size _
            have l9 := hgrow.size
            simp only [World.size_alloc, World.size_drew] at l9
            have HJ : Hid (JQ w1 (V2.alloc (.cells #[.int .i64 b.x0.m, .int .i64 b.x0.s, .int .i64 b.y0.m, .int .i64 b.y0.s, .int .i64 b.x1.m, .int .i64 b.x1.s, .int .i64 b.y1.m, .int .i64 b.y1.s] 52)) w1.heap.size V2.heap.size n (.slice A' n c') l b) := Lib.hid ⟨hown.alloc _, Whole.made V2 _ _, by omega, hbB, ⟨Nat.le_refl _, by simp; omega⟩⟩
            have hS := S0.out _ hbB
            clear hown hgrow hb9 hbB HE0 hbA
            refine hK.out _ _ ⟨hS, ?_⟩
            clear hK K
            try simp only [Act.put, List.setIfInBounds_toArray, List.set_cons_zero, List.set_cons_succ]
            obtain ⟨i0, hi, hz0, hz1, hz2⟩ := info_bx
            refine wpAnyC_one (j := 8) (by kernel_rfl) rfl (fun K hK => ?_)
            refine Eq.mpr (if_pos rfl) ?_
            refine wp_app_bx (.tmp 48) (.tmp 50) rfl _ n 1 1 _ (n + 1) _ _ l [b] (l ++ [b]) rfl rfl rfl HJ.out.own HJ.out.lg.2 rfl (one_bx HJ.out.bx) (fun k => by cases k) (by omega) (by omega) ?_
            intro A3 c3 V3 hown hgrow
            have hb3 := HJ.out.below.grown hgrow HJ.out.below.size (own_ge HJ.out.own HJ.out.lg.1)
            have hS := S0.out V3 hb3
            obtain ⟨A5, c5, e5, h5⟩ := BxsAt.of_own hown
            injection e5 with e5 _ e6
            subst e5 e6
            have H5 := Lib.hid (And.intro h5 hb3)
            clear hown hgrow hb3 h5 HJ
            refine hK.out _ _ ⟨hS, ?_⟩
            clear hK K
            try simp only [Act.put, List.setIfInBounds_toArray, List.set_cons_zero, List.set_cons_succ]
            refine wpAnyC_one (j := 9) (by kernel_rfl) rfl (fun K hK => ?_)
            go_simp
            go_at_call 22
            refine (HCV.out _ _ _ _ _ H5.out.1 (by omega)).mono ?_
            rw [HE.out.2.1]
            rintro e V6 ⟨A6, n6, c6, rfl, hans, hb⟩
            have hb6 := H5.out.2.trans (hb.mono H5.out.2.size)
            have hS := S0.out V6 hb6
            have H6 := Lib.hid (And.intro hans hb6)
            clear hans hb hb6 H5
            go_wp2_with fail
            refine hK.out _ _ ⟨hS, ?_⟩
            clear hK K
            try simp only [Act.put, List.setIfInBounds_toArray, List.set_cons_zero, List.set_cons_succ]
            refine wpAnyC_take (i := 10) (v := ?v6) rfl (by kernel_rfl) (fun _ _ _ h => h) (Or.inl ⟨by rfl, ?y6⟩) hS ?r6
            case y6 => intro wq _; go_simp; all_goals (first | with_reducible rfl | (simp only []; done) | (simp []; done) | (simp; omega) | skip)
            try simp only [Act.put, List.setIfInBounds_toArray, List.set_cons_zero, List.set_cons_succ]
            refine wpAnyC_take (i := 11) (v := ?v7) rfl (by kernel_rfl) (fun _ _ _ h => h) (Or.inl ⟨by rfl, ?y7⟩) hS ?r7
            case y7 => intro wq _; go_simp; all_goals (first | with_reducible rfl | (simp only []; done) | (simp []; done) | (simp; omega) | skip)
            try simp only [Act.put, List.setIfInBounds_toArray, List.set_cons_zero, List.set_cons_succ]
            refine wpAnyC_take (i := 12) (v := ?v8) rfl (by kernel_rfl) (fun _ _ _ h => h) (Or.inl ⟨by rfl, ?y8⟩) hS ?r8
            case y8 => intro wq _; go_simp; all_goals (first | with_reducible rfl | (simp only []; done) | (simp []; done) | (simp; omega) | skip)
            try simp only [Act.put, List.setIfInBounds_toArray, List.set_cons_zero, List.set_cons_succ]
            refine wpAnyC_take (i := 13) (v := ?v9) rfl (by kernel_rfl) (fun _ _ _ h => h) (Or.inl ⟨by rfl, ?y9⟩) hS ?r9
            case y9 => intro wq _; go_simp; all_goals (first | with_reducible rfl | (simp only []; done) | (simp []; done) | (simp; omega) | skip)
            try simp only [Act.put, List.setIfInBounds_toArray, List.set_cons_zero, List.set_cons_succ]
            refine wpAnyC_take (i := 14) (v := ?v10) rfl (by kernel_rfl) (fun _ _ _ h => h) (Or.inl ⟨by rfl, ?y10⟩) hS ?r10
            case y10 => intro wq _; go_simp; all_goals (first | with_reducible rfl | (simp only []; done) | (simp []; done) | (simp; omega) | skip)
            try simp only [Act.put, List.setIfInBounds_toArray, List.set_cons_zero, List.set_cons_succ]
            refine wpAnyC_done (by kernel_rfl) ?_ _
            go_wp2_with fail
            go_meet
            exact ⟨A6, n6, c6, rfl, rfl, H6⟩
          · go_simp
            go_wp2_with fail
            have hbB : Below w1.heap.size w1 ((w1.alloc (.cells #[] 52)).alloc (.cells #[.int .i64 b.x0.m, .int .i64 b.x0.s, .int .i64 b.y0.m, .int .i64 b.y0.s, .int .i64 b.x1.m, .int .i64 b.x1.s, .int .i64 b.y1.m, .int .i64 b.y1.s] 52)).drew := (((Below.refl _ _).alloc (Nat.le_refl _) _).alloc (by simp) _).drew
            have HE1 : Hid (Whole ((w1.alloc (.cells #[] 52)).alloc (.cells #[.int .i64 b.x0.m, .int .i64 b.x0.s, .int .i64 b.y0.m, .int .i64 b.y0.s, .int .i64 b.x1.m, .int .i64 b.x1.s, .int .i64 b.y1.m, .int .i64 b.y1.s] 52)).drew w1.heap.size 52 #[] ∧ Whole ((w1.alloc (.cells #[] 52)).alloc (.cells #[.int .i64 b.x0.m, .int .i64 b.x0.s, .int .i64 b.y0.m, .int .i64 b.y0.s, .int .i64 b.x1.m, .int .i64 b.x1.s, .int .i64 b.y1.m, .int .i64 b.y1.s] 52)).drew (w1.heap.size + 1) 52 #[.int .i64 b.x0.m, .int .i64 b.x0.s, .int .i64 b.y0.m, .int .i64 b.y0.s, .int .i64 b.x1.m, .int .i64 b.x1.s, .int .i64 b.y1.m, .int .i64 b.y1.s]) := Lib.hid ⟨(Whole.made w1 52 #[]).old _, by
              have := Whole.made (w1.alloc (.cells #[] 52)) 52 #[.int .i64 b.x0.m, .int .i64 b.x0.s, .int .i64 b.y0.m, .int .i64 b.y0.s, .int .i64 b.x1.m, .int .i64 b.x1.s, .int .i64 b.y1.m, .int .i64 b.y1.s]
              rwa [World.size_alloc] at this⟩
            have hS := S0.out _ hbB
            refine hK.out _ _ ⟨hS, ?_⟩
            clear hK K HE0 hbA
            try simp only [Act.put, List.setIfInBounds_toArray, List.set_cons_zero, List.set_cons_succ]
            refine wpAnyC_one (j := 5) (by kernel_rfl) rfl (fun K hK => ?_)
            refine Eq.mpr (if_pos rfl) ?_
            refine wp_app_bx (.tmp 46) (.tmp 47) rfl (w1.heap.size) 0 n c 0 n A _ [] l l (Nat.zero_add n) rfl rfl (own_empty HE1.out.1) (by first | (simp; done) | (simp; omega)) rfl (HL.out.below hbB) HZ.out (by omega) (by omega) ?_
            intro A' c' V2 hown hgrow
            have hb9 : Below w1.heap.size w1 V2 := (hbB).grown hgrow (hbB).size (own_ge (own_empty HE1.out.1) (by first | exact Nat.le_refl _ | omega))
            have l9 := hgrow.size
            simp only [World.size_alloc, World.size_drew] at l9
            have HJ : Hid (JQ w1 V2 w1.heap.size (w1.heap.size + 1) n (.slice A' n c') l b) := Lib.hid ⟨hown, HE1.out.2.kept hgrow (fun e => by have e : some (w1.heap.size + 1) = some w1.heap.size := e; injection e with e; omega), by omega, hb9, ⟨Nat.le_refl _, by omega⟩⟩
            have hS := S0.out _ hb9
            clear hown hgrow hb9 hbB HE1
            refine hK.out _ _ ⟨hS, ?_⟩
            clear hK K
            try simp only [Act.put, List.setIfInBounds_toArray, List.set_cons_zero, List.set_cons_succ]
            obtain ⟨i0, hi, hz0, hz1, hz2⟩ := info_bx
            refine wpAnyC_one (j := 8) (by kernel_rfl) rfl (fun K hK => ?_)
            refine Eq.mpr (if_pos rfl) ?_
            refine wp_app_bx (.tmp 48) (.tmp 50) rfl _ n 1 1 _ (n + 1) _ _ l [b] (l ++ [b]) rfl rfl rfl HJ.out.own HJ.out.lg.2 rfl (one_bx HJ.out.bx) (fun k => by cases k) (by omega) (by omega) ?_
            intro A3 c3 V3 hown hgrow
            have hb3 := HJ.out.below.grown hgrow HJ.out.below.size (own_ge HJ.out.own HJ.out.lg.1)
            have hS := S0.out V3 hb3
            obtain ⟨A5, c5, e5, h5⟩ := BxsAt.of_own hown
            injection e5 with e5 _ e6
            subst e5 e6
            have H5 := Lib.hid (And.intro h5 hb3)
            clear hown hgrow hb3 h5 HJ
            refine hK.out _ _ ⟨hS, ?_⟩
            clear hK K
            try simp only [Act.put, List.setIfInBounds_toArray, List.set_cons_zero, List.set_cons_succ]
            refine wpAnyC_one (j := 9) (by kernel_rfl) rfl (fun K hK => ?_)
            go_simp
            go_at_call 22
            refine (HCV.out _ _ _ _ _ H5.out.1 (by omega)).mono ?_
            rw [HE.out.2.1]
            rintro e V6 ⟨A6, n6, c6, rfl, hans, hb⟩
            have hb6 := H5.out.2.trans (hb.mono H5.out.2.size)
            have hS := S0.out V6 hb6
            have H6 := Lib.hid (And.intro hans hb6)
            clear hans hb hb6 H5
            go_wp2_with fail
            refine hK.out _ _ ⟨hS, ?_⟩
            clear hK K
            try simp only [Act.put, List.setIfInBounds_toArray, List.set_cons_zero, List.set_cons_succ]
            refine wpAnyC_take (i := 10) (v := ?v11) rfl (by kernel_rfl) (fun _ _ _ h => h) (Or.inl ⟨by rfl, ?y11⟩) hS ?r11
            case y11 => intro wq _; go_simp; all_goals (first | with_reducible rfl | (simp only []; done) | (simp []; done) | (simp; omega) | skip)
            try simp only [Act.put, List.setIfInBounds_toArray, List.set_cons_zero, List.set_cons_succ]
            refine wpAnyC_take (i := 11) (v := ?v12) rfl (by kernel_rfl) (fun _ _ _ h => h) (Or.inl ⟨by rfl, ?y12⟩) hS ?r12
            case y12 => intro wq _; go_simp; all_goals (first | with_reducible rfl | (simp only []; done) | (simp []; done) | (simp; omega) | skip)
            try simp only [Act.put, List.setIfInBounds_toArray, List.set_cons_zero, List.set_cons_succ]
            refine wpAnyC_take (i := 12) (v := ?v13) rfl (by kernel_rfl) (fun _ _ _ h => h) (Or.inl ⟨by rfl, ?y13⟩) hS ?r13
            case y13 => intro wq _; go_simp; all_goals (first | with_reducible rfl | (simp only []; done) | (simp []; done) | (simp; omega) | skip)
            try simp only [Act.put, List.setIfInBounds_toArray, List.set_cons_zero, List.set_cons_succ]
            refine wpAnyC_take (i := 13) (v := ?v14) rfl (by kernel_rfl) (fun _ _ _ h => h) (Or.inl ⟨by rfl, ?y14⟩) hS ?r14
            case y14 => intro wq _; go_simp; all_goals (first | with_reducible rfl | (simp only []; done) | (simp []; done) | (simp; omega) | skip)
            try simp only [Act.put, List.setIfInBounds_toArray, List.set_cons_zero, List.set_cons_succ]
            refine wpAnyC_take (i := 14) (v := ?v15) rfl (by kernel_rfl) (fun _ _ _ h => h) (Or.inl ⟨by rfl, ?y15⟩) hS ?r15
            case y15 => intro wq _; go_simp; all_goals (first | with_reducible rfl | (simp only []; done) | (simp []; done) | (simp; omega) | skip)
            try simp only [Act.put, List.setIfInBounds_toArray, List.set_cons_zero, List.set_cons_succ]
            refine wpAnyC_done (by kernel_rfl) ?_ _
            go_wp2_with fail
            go_meet
            exact ⟨A6, n6, c6, rfl, rfl, H6⟩
        · go_simp
          go_wp2_with fail
          have hbA : Below w1.heap.size w1 (w1.alloc (.cells #[.int .i64 b.x0.m, .int .i64 b.x0.s, .int .i64 b.y0.m, .int .i64 b.y0.s, .int .i64 b.x1.m, .int .i64 b.x1.s, .int .i64 b.y1.m, .int .i64 b.y1.s] 52)).drew := ((Below.refl _ _).alloc (Nat.le_refl _) _).drew
          have hS := S0.out _ hbA
          refine hK.out _ _ ⟨hS, ?_⟩
          clear hK K
          try simp only [Act.put, List.setIfInBounds_toArray, List.set_cons_zero, List.set_cons_succ]
          refine wpAnyC_one (j := 3) (by kernel_rfl) rfl (fun K hK => ?_)
          go_simp
          go_wp2_with fail
          have hbB : Below w1.heap.size w1 ((w1.alloc (.cells #[.int .i64 b.x0.m, .int .i64 b.x0.s, .int .i64 b.y0.m, .int .i64 b.y0.s, .int .i64 b.x1.m, .int .i64 b.x1.s, .int .i64 b.y1.m, .int .i64 b.y1.s] 52)).alloc (.cells #[] 52)).drew := (((Below.refl _ _).alloc (Nat.le_refl _) _).alloc (by simp) _).drew
          have HE1 : Hid (Whole ((w1.alloc (.cells #[.int .i64 b.x0.m, .int .i64 b.x0.s, .int .i64 b.y0.m, .int .i64 b.y0.s, .int .i64 b.x1.m, .int .i64 b.x1.s, .int .i64 b.y1.m, .int .i64 b.y1.s] 52)).alloc (.cells #[] 52)).drew (w1.heap.size + 1) 52 #[] ∧ Whole ((w1.alloc (.cells #[.int .i64 b.x0.m, .int .i64 b.x0.s, .int .i64 b.y0.m, .int .i64 b.y0.s, .int .i64 b.x1.m, .int .i64 b.x1.s, .int .i64 b.y1.m, .int .i64 b.y1.s] 52)).alloc (.cells #[] 52)).drew w1.heap.size 52 #[.int .i64 b.x0.m, .int .i64 b.x0.s, .int .i64 b.y0.m, .int .i64 b.y0.s, .int .i64 b.x1.m, .int .i64 b.x1.s, .int .i64 b.y1.m, .int .i64 b.y1.s]) := Lib.hid ⟨by
            have := Whole.made (w1.alloc (.cells #[.int .i64 b.x0.m, .int .i64 b.x0.s, .int .i64 b.y0.m, .int .i64 b.y0.s, .int .i64 b.x1.m, .int .i64 b.x1.s, .int .i64 b.y1.m, .int .i64 b.y1.s] 52)) 52 #[]
            rwa [World.size_alloc] at this, (Whole.made w1 52 #[.int .i64 b.x0.m, .int .i64 b.x0.s, .int .i64 b.y0.m, .int .i64 b.y0.s, .int .i64 b.x1.m, .int .i64 b.x1.s, .int .i64 b.y1.m, .int .i64 b.y1.s]).old _⟩
          have hS := S0.out _ hbB
          refine hK.out _ _ ⟨hS, ?_⟩
          clear hK K hbA
          try simp only [Act.put, List.setIfInBounds_toArray, List.set_cons_zero, List.set_cons_succ]
          refine wpAnyC_one (j := 5) (by kernel_rfl) rfl (fun K hK => ?_)
          refine Eq.mpr (if_pos rfl) ?_
          refine wp_app_bx (.tmp 46) (.tmp 47) rfl (w1.heap.size + 1) 0 n c 0 n A _ [] l l (Nat.zero_add n) rfl rfl (own_empty HE1.out.1) (by first | (simp; done) | (simp; omega)) rfl (HL.out.below hbB) HZ.out (by omega) (by omega) ?_
          intro A' c' V2 hown hgrow
          have hb9 : Below w1.heap.size w1 V2 := (hbB).grown hgrow (hbB).size (own_ge (own_empty HE1.out.1) (by first | exact Nat.le_refl _ | omega))
          have l9 := hgrow.size
          simp only [World.size_alloc, World.size_drew] at l9
          have HJ : Hid (JQ w1 V2 (w1.heap.size + 1) w1.heap.size n (.slice A' n c') l b) := Lib.hid ⟨hown, HE1.out.2.kept hgrow (fun e => by have e : some w1.heap.size = some (w1.heap.size + 1) := e; injection e with e; omega), by omega, hb9, ⟨by omega, by omega⟩⟩
          have hS := S0.out _ hb9
          clear hown hgrow hb9 hbB HE1
          refine hK.out _ _ ⟨hS, ?_⟩
          clear hK K
          try simp only [Act.put, List.setIfInBounds_toArray, List.set_cons_zero, List.set_cons_succ]
          obtain ⟨i0, hi, hz0, hz1, hz2⟩ := info_bx
          refine wpAnyC_one (j := 8) (by kernel_rfl) rfl (fun K hK => ?_)
          refine Eq.mpr (if_pos rfl) ?_
          refine wp_app_bx (.tmp 48) (.tmp 50) rfl _ n 1 1 _ (n + 1) _ _ l [b] (l ++ [b]) rfl rfl rfl HJ.out.own HJ.out.lg.2 rfl (one_bx HJ.out.bx) (fun k => by cases k) (by omega) (by omega) ?_
          intro A3 c3 V3 hown hgrow
          have hb3 := HJ.out.below.grown hgrow HJ.out.below.size (own_ge HJ.out.own HJ.out.lg.1)
          have hS := S0.out V3 hb3
          obtain ⟨A5, c5, e5, h5⟩ := BxsAt.of_own hown
          injection e5 with e5 _ e6
          subst e5 e6
          have H5 := Lib.hid (And.intro h5 hb3)
          clear hown hgrow hb3 h5 HJ
          refine hK.out _ _ ⟨hS, ?_⟩
          clear hK K
          try simp only [Act.put, List.setIfInBounds_toArray, List.set_cons_zero, List.set_cons_succ]
          refine wpAnyC_one (j := 9) (by kernel_rfl) rfl (fun K hK => ?_)
          go_simp
          go_at_call 22
          refine (HCV.out _ _ _ _ _ H5.out.1 (by omega)).mono ?_
          rw [HE.out.2.1]
          rintro e V6 ⟨A6, n6, c6, rfl, hans, hb⟩
          have hb6 := H5.out.2.trans (hb.mono H5.out.2.size)
          have hS := S0.out V6 hb6
          have H6 := Lib.hid (And.intro hans hb6)
          clear hans hb hb6 H5
          go_wp2_with fail
          refine hK.out _ _ ⟨hS, ?_⟩
          clear hK K
          try simp only [Act.put, List.setIfInBounds_toArray, List.set_cons_zero, List.set_cons_succ]
          refine wpAnyC_take (i := 10) (v := ?v16) rfl (by kernel_rfl) (fun _ _ _ h => h) (Or.inl ⟨by rfl, ?y16⟩) hS ?r16
          case y16 => intro wq _; go_simp; all_goals (first | with_reducible rfl | (simp only []; done) | (simp []; done) | (simp; omega) | skip)
          try simp only [Act.put, List.setIfInBounds_toArray, List.set_cons_zero, List.set_cons_succ]
          refine wpAnyC_take (i := 11) (v := ?v17) rfl (by kernel_rfl) (fun _ _ _ h => h) (Or.inl ⟨by rfl, ?y17⟩) hS ?r17
          case y17 => intro wq _; go_simp; all_goals (first | with_reducible rfl | (simp only []; done) | (simp []; done) | (simp; omega) | skip)
          try simp only [Act.put, List.setIfInBounds_toArray, List.set_cons_zero, List.set_cons_succ]
          refine wpAnyC_take (i := 12) (v := ?v18) rfl (by kernel_rfl) (fun _ _ _ h => h) (Or.inl ⟨by rfl, ?y18⟩) hS ?r18
          case y18 => intro wq _; go_simp; all_goals (first | with_reducible rfl | (simp only []; done) | (simp []; done) | (simp; omega) | skip)
          try simp only [Act.put, List.setIfInBounds_toArray, List.set_cons_zero, List.set_cons_succ]
          refine wpAnyC_take (i := 13) (v := ?v19) rfl (by kernel_rfl) (fun _ _ _ h => h) (Or.inl ⟨by rfl, ?y19⟩) hS ?r19
          case y19 => intro wq _; go_simp; all_goals (first | with_reducible rfl | (simp only []; done) | (simp []; done) | (simp; omega) | skip)
          try simp only [Act.put, List.setIfInBounds_toArray, List.set_cons_zero, List.set_cons_succ]
          refine wpAnyC_take (i := 14) (v := ?v20) rfl (by kernel_rfl) (fun _ _ _ h => h) (Or.inl ⟨by rfl, ?y20⟩) hS ?r20
          case y20 => intro wq _; go_simp; all_goals (first | with_reducible rfl | (simp only []; done) | (simp []; done) | (simp; omega) | skip)
          try simp only [Act.put, List.setIfInBounds_toArray, List.set_cons_zero, List.set_cons_succ]
          refine wpAnyC_done (by kernel_rfl) ?_ _
          go_wp2_with fail
          go_meet
          exact ⟨A6, n6, c6, rfl, rfl, H6⟩
    case rest =>
      obtain ⟨A', n', c', rfl, rfl, H2⟩ := hcut
      have HB2 := Lib.hid (HB1.out.trans (H2.out.2.mono HB1.out.size))
      have HA2 := Lib.hid (And.intro (HA1.out.later H2.out.2) H2.out.1)
      have HM2 := Lib.hid (HM1.out.1.here H2.out.2)
      have cm := HM2.out.reads
      have lm := HM2.out.lt
      clear H2
      go_wp2_with fail
      refine (HCV.out _ _ _ _ _ (bxs_nil _) (by omega)).mono ?_
      rw [HE.out.2.2]
      rintro e w3 ⟨Ac, nc, cc, rfl, hans, hb⟩
      have HA3 := Lib.hid (And.intro (HA2.out.1.later hb) (And.intro (HA2.out.2.later hb) hans))
      have HB3 := Lib.hid (HB2.out.trans (hb.mono HB2.out.size))
      clear hans hb cm lm
      by_cases hz : E0 = 0
      · have hz' := HE.out.1.trans hz
        have hE2 : E2 = 0 := HE.out.2.2 ▸ covE_none hz'
        subst hz hE2
        obtain ⟨-, X, Z, B, rfl, rfl, hX, hZ, hXZ, rfl, rfl, rfl, hwA⟩ := HA3.out.1.resolve_left (fun k => k.1 hz')
        obtain ⟨-, X', Z', B2, eX, eZ, -, -, -, rfl, rfl, rfl, hwC⟩ := HA3.out.2.2.resolve_left (fun k => k.1 HE.out.2.2)
        obtain rfl : X' = X := by omega
        obtain rfl : Z' = Z := by omega
        clear eX eZ
        have lA := hwA.lt
        have lC := hwC.lt
        have hcA : ∀ v, Below w3.heap.size w3 v → ∀ i < X' * Z', v.cell? ⟨B, i, none⟩ = some (.bool (cov (pF m X' Z') ((Z' + 1) * (X' + 1)) X' Z' (l.map (bm · ((X' * Z' : Nat) : Int))) i)) ∧ v.cell? ⟨B2, i, none⟩ = some (.bool false) := fun v hv i hi => ⟨rowBl_full (hwA.here hv) hi, rowBl_full (hwC.here hv) hi⟩
        have hQ : E1 ≠ 0 ∨ (E1 = 0 ∧ ∃ B1, A' = some ⟨B1, 0, none⟩ ∧ n' = X' * Z' ∧ c' = X' * Z' ∧ B1 < w3.heap.size ∧ ∀ v, Below w3.heap.size w3 v → ∀ i < X' * Z', ∃ r, v.cell? ⟨B1, i, none⟩ = some (.bool r) ∧ (cov (pF m X' Z') ((Z' + 1) * (X' + 1)) X' Z' (l.map (bm · ((X' * Z' : Nat) : Int))) i = true → r = true)) := by
          by_cases hz1 : E1 = 0
          · refine .inr ⟨hz1, ?_⟩
            obtain ⟨-, X, Z, B1, eX, eZ, -, -, -, rfl, rfl, rfl, hwB⟩ := HA3.out.2.1.resolve_left (fun k => k.1 (HE.out.2.1.trans hz1))
            obtain rfl : X = X' := by omega
            obtain rfl : Z = Z' := by omega
            refine ⟨B1, rfl, rfl, rfl, hwB.lt, fun v hv i hi => ⟨_, rowBl_full (hwB.here hv) hi, fun hr => ?_⟩⟩
            rw [List.map_append]
            exact cov_more hr
          · exact .inl hz1
        generalize cov (pF m X' Z') ((Z' + 1) * (X' + 1)) X' Z' (l.map (bm · ((X' * Z' : Nat) : Int))) = F at hcA hQ
        obtain ⟨N, hN⟩ : ∃ N, X' * Z' = N := ⟨_, rfl⟩
        have hmul : IntKind.i64.wrap ((X' : Int) * (Z' : Int)) = (N : Int) := by rw [← Int.natCast_mul, hN, IntKind.wrap_i64]; omega
        rw [hN] at hcA hQ hXZ
        rw [hN]
        have HCA := Lib.hid hcA
        clear hcA hN hwA hwC HA3 HE hX hZ HA2 HA1 hz'
        rcases hQ with hne | ⟨rfl, B1, rfl, en, ec, lB1, hcB⟩
        · have z1 : (E1 == 0) = false := by simpa using hne
          clear hne
          go_wp2_with fail
          go_loopw [17] (fun i wr => ∃ k : Nat, i = .int .i64 (k : Int) ∧ k ≤ N ∧ Hid (Below w3.heap.size w3 wr)) (fun i _ => N - (intOf i).toNat)
          case atStart => exact ⟨0, rfl, by omega, Lib.hid (Below.refl _ _)⟩
          case round =>
            obtain ⟨k, rfl, hk, HR⟩ := hrel
            have sR := HR.out.size
            by_cases hlt : k < N
            · have d2 : decide ((k : Int) < (N : Int)) = true := decide_eq_true (by omega)
              obtain ⟨c0, c2⟩ := HCA.out wr HR.out k hlt
              have b0 : (0 : Int) ≤ (k : Int) := by omega
              have b1 : (k : Int) < (N : Int) := by omega
              go_wp2_with fail
              go_roundw
              case rel => exact ⟨k + 1, by go_num, by omega, HR⟩
              case measure => simp [intOf]; omega
            · obtain rfl : k = N := by omega
              have d2 : decide ((k : Int) < (k : Int)) = false := by simp
              go_wp2_with fail
              refine (awake_any _).mono ?_
              rintro e w4 ⟨rfl, hb⟩
              have HB4 := Lib.hid (HB3.out.trans ((HR.out.trans (hb.mono HR.out.size)).mono HB3.out.size))
              clear hb
              go_wp2_with fail
              go_ret
              exact ⟨rfl, HB4.out⟩
        · have HCB := Lib.hid hcB
          clear hcB
          rw [en, ec]
          clear en ec
          go_wp2_with fail
          go_loopw [17] (fun i wr => ∃ k : Nat, i = .int .i64 (k : Int) ∧ k ≤ N ∧ Hid (Below w3.heap.size w3 wr)) (fun i _ => N - (intOf i).toNat)
          case atStart => exact ⟨0, rfl, by omega, Lib.hid (Below.refl _ _)⟩
          case round =>
            obtain ⟨k, rfl, hk, HR⟩ := hrel
            have sR := HR.out.size
            by_cases hlt : k < N
            · have d2 : decide ((k : Int) < (N : Int)) = true := decide_eq_true (by omega)
              obtain ⟨c0, c2⟩ := HCA.out wr HR.out k hlt
              obtain ⟨r, c1, hr⟩ := HCB.out wr HR.out k hlt
              have b0 : (0 : Int) ≤ (k : Int) := by omega
              have b1 : (k : Int) < (N : Int) := by omega
              cases hF : F k
              · rw [hF] at c0
                clear hr hF
                go_wp2_with fail
                go_roundw
                case rel => exact ⟨k + 1, by go_num, by omega, HR⟩
                case measure => simp [intOf]; omega
              · obtain rfl := hr hF
                rw [hF] at c0
                clear hr hF
                go_wp2_with fail
                go_roundw
                case rel => exact ⟨k + 1, by go_num, by omega, HR⟩
                case measure => simp [intOf]; omega
            · obtain rfl : k = N := by omega
              have d2 : decide ((k : Int) < (k : Int)) = false := by simp
              go_wp2_with fail
              refine (awake_any _).mono ?_
              rintro e w4 ⟨rfl, hb⟩
              have HB4 := Lib.hid (HB3.out.trans ((HR.out.trans (hb.mono HR.out.size)).mono HB3.out.size))
              clear hb
              go_wp2_with fail
              go_ret
              exact ⟨rfl, HB4.out⟩
      · have z1 : (E0 != 0) = true := by simpa using hz
        have hz1 : E1 ≠ 0 := HE.out.2.1 ▸ covE_more (HE.out.1 ▸ hz)
        have z2 : (E1 != 0) = true := by simpa using hz1
        obtain ⟨-, rfl, rfl, rfl⟩ : covE m W H l ≠ 0 ∧ Aa = none ∧ na = 0 ∧ ca = 0 := by
          rcases HA3.out.1 with k | k
          · exact k
          · exact absurd (HE.out.1.symm.trans k.1) hz
        clear hz hz1
        go_wp2_with fail
        refine (awake_any _).mono ?_
        rintro e w4 ⟨rfl, hb⟩
        have HB4 := Lib.hid (HB3.out.trans (hb.mono HB3.out.size))
        clear hb
        go_wp2_with fail
        go_ret
        exact ⟨rfl, HB4.out⟩
end Go.Proofs.Ytmleoagdelgddaa
