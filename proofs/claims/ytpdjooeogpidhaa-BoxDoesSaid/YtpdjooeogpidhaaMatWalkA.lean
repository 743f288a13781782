/- The walks of matrix's checkNumbers, sum and what sum hands back. -/
import Derived.Test.YtpdjooeogpidhaaMatMath
import Derived.Test.YtpdjooeogpidhaaDecMul
import Derived.Deep.RegionHeld3
import Derived.StillTailTactics
namespace Go.Proofs.Ytpdjooeogpidhaa
open Go.RowKit Dec

/-- A decimal's two cells in memory, from cell o on. -/
def At (w : World) (B o : Nat) (d : DV) : Prop := w.cell? ⟨B, o, none⟩ = some (.int .i64 d.m) ∧ w.cell? ⟨B, o + 1, none⟩ = some (.int .i64 d.s)
theorem At.later {w w' : World} {B o : Nat} {d : DV} (h : At w B o d) (hb : Below w.heap.size w w') : At w' B o d := ⟨cell_later hb h.1, cell_later hb h.2⟩
theorem At.lt {w : World} {B o : Nat} {d : DV} (h : At w B o d) : B < w.heap.size := World.block_lt_of_cell? _ _ h.1

/-- A decimal's variable. -/
def Var (w : World) (B : Nat) (d : DV) : Prop := w.cell? ⟨B, 0, none⟩ = some (.int .i64 d.m) ∧ w.cell? ⟨B, 1, none⟩ = some (.int .i64 d.s)
theorem Var.later {w w' : World} {B : Nat} {d : DV} (h : Var w B d) (hb : Below w.heap.size w w') : Var w' B d := ⟨cell_later hb h.1, cell_later hb h.2⟩
theorem Var.lt {w : World} {B : Nat} {d : DV} (h : Var w B d) : B < w.heap.size := World.block_lt_of_cell? _ _ h.1
theorem Var.old {w : World} {B : Nat} {d : DV} (h : Var w B d) (o : Obj) : Var (w.alloc o) B d := h.later ((Below.refl _ _).alloc (Nat.le_refl _) o)
theorem Var.new (w : World) (d : DV) (T : Nat) : Var (w.alloc (.cells #[.int .i64 d.m, .int .i64 d.s] T)) w.heap.size d := ⟨by rw [World.cell?_alloc_new]; rfl, by rw [World.cell?_alloc_new]; rfl⟩

theorem check_any (d : DV) (w : World) (E : Int) (h : (d.Ok ∧ E = 0) ∨ (¬ d.Ok ∧ E = 1)) :
    Calls Try.prog 33 #[.agg #[.int .i64 d.m, .int .i64 d.s]] w fun e w' => e = .returned (.int .i64 E) ∧ Below w.heap.size w w' := by
  rcases h with ⟨h, rfl⟩ | ⟨h, rfl⟩
  · exact check_ok _ _ _ h
  · exact check_bad _ _ _ h

theorem pre_succ {P : Nat → Prop} {k : Nat} (h : ∀ i < k, P i) (hk : P k) : ∀ i < k + 1, P i := fun i hi => by
  rcases Nat.lt_or_ge i k with h' | h'
  · exact h i h'
  · obtain rfl : i = k := by omega
    exact hk

/-- A decimal and an error are handed back; what there was stays. -/
def IsD (r : DV) (E : Int) (w : World) (e : Ending) (w' : World) : Prop := e = .returned (.tuple #[.agg #[.int .i64 r.m, .int .i64 r.s], .int .i64 E]) ∧ Below w.heap.size w w'
theorem mul_tells (a b r : DV) (E : Int) (w : World) (ha : a.Ok) (hb : b.Ok) (h : Tells (a.v * b.v) 18 r E) :
    Calls Try.prog 46 #[.agg #[.int .i64 a.m, .int .i64 a.s], .agg #[.int .i64 b.m, .int .i64 b.s]] w (IsD r E w) := by
  refine (mul_ok _ _ _ _ w ha hb).mono ?_
  rintro e w' ⟨M, S, E', he, hd, hk⟩
  obtain ⟨rfl, rfl, rfl⟩ := hd.unique h
  exact ⟨he, hk⟩
theorem add_tells (a b r : DV) (E : Int) (w : World) (ha : a.Ok) (hb : b.Ok) (h : Tells (a.v + b.v) 9 r E) :
    Calls Try.prog 47 #[.agg #[.int .i64 a.m, .int .i64 a.s], .agg #[.int .i64 b.m, .int .i64 b.s]] w (IsD r E w) := by
  refine (add_ok _ _ _ _ w ha hb).mono ?_
  rintro e w' ⟨M, S, E', he, hd, hk⟩
  obtain ⟨rfl, rfl, rfl⟩ := hd.unique h
  exact ⟨he, hk⟩

/-- What checkNumbers answers of the first numbers. -/
def Fine (D : Nat → DV) (n : Nat) (E : Int) : Prop := (E = 0 ∧ ∀ i < n, (D i).Ok) ∨ (E = 1 ∧ ∃ i < n, ¬ (D i).Ok)

set_option maxHeartbeats 1000000 in
theorem checkNumbers_any (n : Nat) (D : Nat → DV) (R : Nat) (w : World) (E : Int) (hn : n ≤ 100) (hD : Hid (∀ i < n, At w R (i * 2) (D i))) (hok : Hid (Fine D n E)) :
    Calls Try.prog 27 #[.slice (some ⟨R, 0, none⟩) n n] w fun e w' => e = .returned (.int .i64 E) ∧ Below w.heap.size w w' := by
  go_enter Try.func27, Try.ntmps27
  go_wp2
  go_loopw [8] (fun i wr => ∃ k : Nat, k ≤ n ∧ i = .int .i64 k ∧ Hid (∀ i < k, (D i).Ok) ∧ Below w.heap.size w wr) (fun i _ => n - (intOf i).toNat)
  case atStart => exact ⟨0, Nat.zero_le _, rfl, fun i hi => absurd hi (by omega), Below.refl _ _⟩
  case round =>
    obtain ⟨k, hk, rfl, hpre, hb⟩ := hrel
    by_cases hlt : k < n
    · have hd := Lib.hid ((hD.out k hlt).later hb)
      obtain ⟨hd0, hd1⟩ := id hd.out
      by_cases ho : (D k).Ok
      · have HO := Lib.hid ho
        clear ho
        go_wp2_with fail
        refine (check_any (D k) _ 0 (.inl ⟨HO.out, rfl⟩)).mono ?_
        rintro e w1 ⟨rfl, b1⟩
        have hb1 := (hb.alloc hb.size (.cells #[.int .i64 (D k).m, .int .i64 (D k).s] 23)).trans (b1.mono (by simp; have := hb.size; omega))
        go_wp2
        go_roundw
        case rel => exact ⟨k + 1, by omega, by go_num, pre_succ hpre.out HO.out, hb1⟩
        case measure => simp [intOf]; omega
      · have HO := Lib.hid ho
        clear ho
        obtain rfl : E = 1 := by
          rcases hok.out with ⟨-, h⟩ | ⟨h, -⟩
          · exact absurd (h k hlt) HO.out
          · exact h
        go_wp2_with fail
        refine (check_any (D k) _ 1 (.inr ⟨HO.out, rfl⟩)).mono ?_
        rintro e w1 ⟨rfl, b1⟩
        have hb1 := (hb.alloc hb.size (.cells #[.int .i64 (D k).m, .int .i64 (D k).s] 23)).trans (b1.mono (by simp; have := hb.size; omega))
        go_wp2
        go_ret
        exact ⟨rfl, hb1⟩
    · obtain rfl : E = 0 := by
        rcases hok.out with ⟨h, -⟩ | ⟨-, i, hi, h⟩
        · exact h
        · exact absurd (hpre.out i (by omega)) h
      go_wp2
      go_ret
      exact ⟨rfl, hb⟩

/-- The five variables that a made element has caught, from block B on. -/
def Caught (w : World) (B : Nat) (a b c d l : DV) : Prop := Var w B a ∧ Var w (B + 1) b ∧ Var w (B + 2) c ∧ Var w (B + 3) d ∧ Var w (B + 4) l
theorem Caught.later {w w' : World} {B : Nat} {a b c d l : DV} (h : Caught w B a b c d l) (hb : Below w.heap.size w w') : Caught w' B a b c d l :=
  ⟨h.1.later hb, h.2.1.later hb, h.2.2.1.later hb, h.2.2.2.1.later hb, h.2.2.2.2.later hb⟩
/-- An element, as a value. -/
abbrev elemV (B : Nat) : Value := .func (.func 45) #[] #[.pointer (some ⟨B, 0, none⟩), .pointer (some ⟨B + 1, 0, none⟩), .pointer (some ⟨B + 2, 0, none⟩), .pointer (some ⟨B + 3, 0, none⟩), .pointer (some ⟨B + 4, 0, none⟩)]

theorem sum_any (a b c d l : DV) (w : World) :
    Calls Try.prog 29 #[.agg #[.int .i64 a.m, .int .i64 a.s], .agg #[.int .i64 b.m, .int .i64 b.s], .agg #[.int .i64 c.m, .int .i64 c.s], .agg #[.int .i64 d.m, .int .i64 d.s], .agg #[.int .i64 l.m, .int .i64 l.s]] w
      fun e w' => ∃ B, e = .returned (elemV B) ∧ Caught w' B a b c d l ∧ Below w.heap.size w w' := by
  have hmf : ∀ (fn : Fn) (first cap : Array Value) (w : World), (Instr.makeFunc fn first cap).run Try.prog w = .ok (.func fn first cap) w := fun _ _ _ _ => rfl
  go_enter Try.func29, Try.ntmps29
  go_wp2
  go_ret
  have v0 := ((((Var.new w a 23).old (.cells #[.int .i64 b.m, .int .i64 b.s] 23)).old (.cells #[.int .i64 c.m, .int .i64 c.s] 23)).old (.cells #[.int .i64 d.m, .int .i64 d.s] 23)).old (.cells #[.int .i64 l.m, .int .i64 l.s] 23)
  have v1 := (((Var.new (w.alloc (.cells #[.int .i64 a.m, .int .i64 a.s] 23)) b 23).old (.cells #[.int .i64 c.m, .int .i64 c.s] 23)).old (.cells #[.int .i64 d.m, .int .i64 d.s] 23)).old (.cells #[.int .i64 l.m, .int .i64 l.s] 23)
  have v2 := ((Var.new ((w.alloc (.cells #[.int .i64 a.m, .int .i64 a.s] 23)).alloc (.cells #[.int .i64 b.m, .int .i64 b.s] 23)) c 23).old (.cells #[.int .i64 d.m, .int .i64 d.s] 23)).old (.cells #[.int .i64 l.m, .int .i64 l.s] 23)
  have v3 := (Var.new (((w.alloc (.cells #[.int .i64 a.m, .int .i64 a.s] 23)).alloc (.cells #[.int .i64 b.m, .int .i64 b.s] 23)).alloc (.cells #[.int .i64 c.m, .int .i64 c.s] 23)) d 23).old (.cells #[.int .i64 l.m, .int .i64 l.s] 23)
  have v4 := Var.new ((((w.alloc (.cells #[.int .i64 a.m, .int .i64 a.s] 23)).alloc (.cells #[.int .i64 b.m, .int .i64 b.s] 23)).alloc (.cells #[.int .i64 c.m, .int .i64 c.s] 23)).alloc (.cells #[.int .i64 d.m, .int .i64 d.s] 23)) l 23
  simp only [World.size_alloc] at v1 v2 v3 v4
  exact ⟨w.heap.size, rfl, ⟨v0, v1, v2, v3, v4⟩, (((((Below.refl _ _).alloc (Nat.le_refl _) _).alloc (by simp) _).alloc (by simp; omega) _).alloc (by simp; omega) _).alloc (by simp; omega) _⟩

theorem elem_any (B : Nat) (a b c d l r : DV) (E : Int) (w : World) (hc : Caught w B a b c d l) (ha : a.Ok) (hb : b.Ok) (hcc : c.Ok) (hd : d.Ok) (hl : l.Ok) (h : SumIs a b c d l r E) :
    Calls Try.prog 45 #[.pointer (some ⟨B, 0, none⟩), .pointer (some ⟨B + 1, 0, none⟩), .pointer (some ⟨B + 2, 0, none⟩), .pointer (some ⟨B + 3, 0, none⟩), .pointer (some ⟨B + 4, 0, none⟩)] w
      fun e w' => e = .returned (.tuple #[.agg #[.int .i64 r.m, .int .i64 r.s], .int .i64 E]) ∧ Below w.heap.size w w' := by
  have HC := Lib.hid hc
  have Ha := Lib.hid ha
  have Hb := Lib.hid hb
  have Hcc := Lib.hid hcc
  have Hd := Lib.hid hd
  have Hl := Lib.hid hl
  obtain ⟨p, q, t, e1, e2, e3, h1, h2, h3, h⟩ := h
  have H1 := Lib.hid h1
  have H2 := Lib.hid h2
  have H3 := Lib.hid h3
  obtain ⟨⟨ca0, ca1⟩, ⟨cb0, cb1⟩, ⟨cc0, cc1⟩, ⟨cd0, cd1⟩, ⟨cl0, cl1⟩⟩ := id hc
  have la := hc.1.lt
  have lb := hc.2.1.lt
  have lc := hc.2.2.1.lt
  have ld := hc.2.2.2.1.lt
  have ll := hc.2.2.2.2.lt
  clear hc ha hb hcc hd hl h1 h2 h3
  rcases h with ⟨rfl, rfl, rfl⟩ | ⟨rfl, rfl, rfl, rfl⟩ | ⟨rfl, rfl, rfl, rfl, rfl⟩ | ⟨rfl, rfl, rfl, h⟩
  · go_enter Try.func45, Try.ntmps45
    go_wp2_with fail
    refine (mul_tells a b p 5 _ Ha.out Hb.out H1.out).mono ?_
    rintro e w1 ⟨rfl, hb⟩
    clear ca0 ca1 cb0 cb1 cc0 cc1 cd0 cd1 cl0 cl1 la lb lc ld ll
    have HC := Lib.hid ((HC.out.later ((Below.refl _ _).alloc (Nat.le_refl _) (.cells #[.int .i64 0, .int .i64 0] 23))).later hb)
    obtain ⟨⟨ca0, ca1⟩, ⟨cb0, cb1⟩, ⟨cc0, cc1⟩, ⟨cd0, cd1⟩, ⟨cl0, cl1⟩⟩ := id HC.out
    have la := HC.out.1.lt
    have lb := HC.out.2.1.lt
    have lc := HC.out.2.2.1.lt
    have ld := HC.out.2.2.2.1.lt
    have ll := HC.out.2.2.2.2.lt
    obtain ⟨hc, hf⟩ := bcell hb
    have hz := hb.size
    simp at hz
    have lr : w.heap.size < w1.heap.size := by omega
    go_wp2
    exact bodyPost_ret (v := .tuple #[.agg #[.int .i64 DV.zero.m, .int .i64 DV.zero.s], .int .i64 5]) (by simp [results, Try.results45, go_sem, hc, lr, DV.zero]) rfl ⟨rfl, (((((Below.refl _ _).alloc (Nat.le_refl _) _).trans (hb.mono (by simp))).setCell (Nat.le_refl _) _).setCell (Nat.le_refl _) _).alloc (by simp; omega) _⟩
  · go_enter Try.func45, Try.ntmps45
    go_wp2_with fail
    refine (mul_tells a b p 0 _ Ha.out Hb.out H1.out).mono ?_
    rintro e w1 ⟨rfl, hb⟩
    clear ca0 ca1 cb0 cb1 cc0 cc1 cd0 cd1 cl0 cl1 la lb lc ld ll
    have HC := Lib.hid ((HC.out.later ((Below.refl _ _).alloc (Nat.le_refl _) (.cells #[.int .i64 0, .int .i64 0] 23))).later hb)
    obtain ⟨⟨ca0, ca1⟩, ⟨cb0, cb1⟩, ⟨cc0, cc1⟩, ⟨cd0, cd1⟩, ⟨cl0, cl1⟩⟩ := id HC.out
    have la := HC.out.1.lt
    have lb := HC.out.2.1.lt
    have lc := HC.out.2.2.1.lt
    have ld := HC.out.2.2.2.1.lt
    have ll := HC.out.2.2.2.2.lt
    obtain ⟨hc, hf⟩ := bcell hb
    have hz := hb.size
    simp at hz
    have lr : w.heap.size < w1.heap.size := by omega
    go_wp2_with fail
    refine (mul_tells c d q 5 _ Hcc.out Hd.out H2.out).mono ?_
    rintro e w2 ⟨rfl, hk⟩
    have vp := (Var.new w1 p 23).later hk
    have lp := vp.lt
    obtain ⟨vp0, vp1⟩ := id vp
    clear ca0 ca1 cb0 cb1 cc0 cc1 cd0 cd1 cl0 cl1 la lb lc ld ll
    have HC := Lib.hid ((HC.out.later ((Below.refl _ _).alloc (Nat.le_refl _) (.cells #[.int .i64 p.m, .int .i64 p.s] 23))).later hk)
    obtain ⟨⟨ca0, ca1⟩, ⟨cb0, cb1⟩, ⟨cc0, cc1⟩, ⟨cd0, cd1⟩, ⟨cl0, cl1⟩⟩ := id HC.out
    have la := HC.out.1.lt
    have lb := HC.out.2.1.lt
    have lc := HC.out.2.2.1.lt
    have ld := HC.out.2.2.2.1.lt
    have ll := HC.out.2.2.2.2.lt
    have hb := (hb.alloc hb.size (.cells #[.int .i64 p.m, .int .i64 p.s] 23)).trans (hk.mono (by simp; have := hb.size; simp at this; omega))
    clear hc hf hz hk lr
    obtain ⟨hc, hf⟩ := bcell hb
    have hz := hb.size
    simp at hz
    have lr : w.heap.size < w2.heap.size := by omega
    go_wp2
    exact bodyPost_ret (v := .tuple #[.agg #[.int .i64 DV.zero.m, .int .i64 DV.zero.s], .int .i64 5]) (by simp [results, Try.results45, go_sem, hc, lr, DV.zero]) rfl ⟨rfl, (((((Below.refl _ _).alloc (Nat.le_refl _) _).trans (hb.mono (by simp))).setCell (Nat.le_refl _) _).setCell (Nat.le_refl _) _).alloc (by simp; omega) _⟩
  · have Hp := Lib.hid H1.out.ok.1
    have Hq := Lib.hid H2.out.ok.1
    go_enter Try.func45, Try.ntmps45
    go_wp2_with fail
    refine (mul_tells a b p 0 _ Ha.out Hb.out H1.out).mono ?_
    rintro e w1 ⟨rfl, hb⟩
    clear ca0 ca1 cb0 cb1 cc0 cc1 cd0 cd1 cl0 cl1 la lb lc ld ll
    have HC := Lib.hid ((HC.out.later ((Below.refl _ _).alloc (Nat.le_refl _) (.cells #[.int .i64 0, .int .i64 0] 23))).later hb)
    obtain ⟨⟨ca0, ca1⟩, ⟨cb0, cb1⟩, ⟨cc0, cc1⟩, ⟨cd0, cd1⟩, ⟨cl0, cl1⟩⟩ := id HC.out
    have la := HC.out.1.lt
    have lb := HC.out.2.1.lt
    have lc := HC.out.2.2.1.lt
    have ld := HC.out.2.2.2.1.lt
    have ll := HC.out.2.2.2.2.lt
    obtain ⟨hc, hf⟩ := bcell hb
    have hz := hb.size
    simp at hz
    have lr : w.heap.size < w1.heap.size := by omega
    go_wp2_with fail
    refine (mul_tells c d q 0 _ Hcc.out Hd.out H2.out).mono ?_
    rintro e w2 ⟨rfl, hk⟩
    have vp := (Var.new w1 p 23).later hk
    have lp := vp.lt
    obtain ⟨vp0, vp1⟩ := id vp
    clear ca0 ca1 cb0 cb1 cc0 cc1 cd0 cd1 cl0 cl1 la lb lc ld ll
    have HC := Lib.hid ((HC.out.later ((Below.refl _ _).alloc (Nat.le_refl _) (.cells #[.int .i64 p.m, .int .i64 p.s] 23))).later hk)
    obtain ⟨⟨ca0, ca1⟩, ⟨cb0, cb1⟩, ⟨cc0, cc1⟩, ⟨cd0, cd1⟩, ⟨cl0, cl1⟩⟩ := id HC.out
    have la := HC.out.1.lt
    have lb := HC.out.2.1.lt
    have lc := HC.out.2.2.1.lt
    have ld := HC.out.2.2.2.1.lt
    have ll := HC.out.2.2.2.2.lt
    have hb := (hb.alloc hb.size (.cells #[.int .i64 p.m, .int .i64 p.s] 23)).trans (hk.mono (by simp; have := hb.size; simp at this; omega))
    clear hc hf hz hk lr
    obtain ⟨hc, hf⟩ := bcell hb
    have hz := hb.size
    simp at hz
    have lr : w.heap.size < w2.heap.size := by omega
    go_wp2_with fail
    refine (add_tells p q t 5 _ Hp.out Hq.out H3.out).mono ?_
    rintro e w3 ⟨rfl, hk⟩
    have vq := (Var.new w2 q 23).later hk
    have lq := vq.lt
    obtain ⟨vq0, vq1⟩ := id vq
    have vp := (vp.old (.cells #[.int .i64 q.m, .int .i64 q.s] 23)).later hk
    have lp := vp.lt
    obtain ⟨vp0, vp1⟩ := id vp
    clear ca0 ca1 cb0 cb1 cc0 cc1 cd0 cd1 cl0 cl1 la lb lc ld ll
    have HC := Lib.hid ((HC.out.later ((Below.refl _ _).alloc (Nat.le_refl _) (.cells #[.int .i64 q.m, .int .i64 q.s] 23))).later hk)
    obtain ⟨⟨ca0, ca1⟩, ⟨cb0, cb1⟩, ⟨cc0, cc1⟩, ⟨cd0, cd1⟩, ⟨cl0, cl1⟩⟩ := id HC.out
    have la := HC.out.1.lt
    have lb := HC.out.2.1.lt
    have lc := HC.out.2.2.1.lt
    have ld := HC.out.2.2.2.1.lt
    have ll := HC.out.2.2.2.2.lt
    have hb := (hb.alloc hb.size (.cells #[.int .i64 q.m, .int .i64 q.s] 23)).trans (hk.mono (by simp; have := hb.size; simp at this; omega))
    clear hc hf hz hk lr
    obtain ⟨hc, hf⟩ := bcell hb
    have hz := hb.size
    simp at hz
    have lr : w.heap.size < w3.heap.size := by omega
    go_wp2
    exact bodyPost_ret (v := .tuple #[.agg #[.int .i64 DV.zero.m, .int .i64 DV.zero.s], .int .i64 5]) (by simp [results, Try.results45, go_sem, hc, lr, DV.zero]) rfl ⟨rfl, (((((Below.refl _ _).alloc (Nat.le_refl _) _).trans (hb.mono (by simp))).setCell (Nat.le_refl _) _).setCell (Nat.le_refl _) _).alloc (by simp; omega) _⟩
  · have H4 := Lib.hid h
    clear h
    have Hp := Lib.hid H1.out.ok.1
    have Hq := Lib.hid H2.out.ok.1
    have Ht := Lib.hid H3.out.ok.1
    go_enter Try.func45, Try.ntmps45
    go_wp2_with fail
    refine (mul_tells a b p 0 _ Ha.out Hb.out H1.out).mono ?_
    rintro e w1 ⟨rfl, hb⟩
    clear ca0 ca1 cb0 cb1 cc0 cc1 cd0 cd1 cl0 cl1 la lb lc ld ll
    have HC := Lib.hid ((HC.out.later ((Below.refl _ _).alloc (Nat.le_refl _) (.cells #[.int .i64 0, .int .i64 0] 23))).later hb)
    obtain ⟨⟨ca0, ca1⟩, ⟨cb0, cb1⟩, ⟨cc0, cc1⟩, ⟨cd0, cd1⟩, ⟨cl0, cl1⟩⟩ := id HC.out
    have la := HC.out.1.lt
    have lb := HC.out.2.1.lt
    have lc := HC.out.2.2.1.lt
    have ld := HC.out.2.2.2.1.lt
    have ll := HC.out.2.2.2.2.lt
    obtain ⟨hc, hf⟩ := bcell hb
    have hz := hb.size
    simp at hz
    have lr : w.heap.size < w1.heap.size := by omega
    go_wp2_with fail
    refine (mul_tells c d q 0 _ Hcc.out Hd.out H2.out).mono ?_
    rintro e w2 ⟨rfl, hk⟩
    have vp := (Var.new w1 p 23).later hk
    have lp := vp.lt
    obtain ⟨vp0, vp1⟩ := id vp
    clear ca0 ca1 cb0 cb1 cc0 cc1 cd0 cd1 cl0 cl1 la lb lc ld ll
    have HC := Lib.hid ((HC.out.later ((Below.refl _ _).alloc (Nat.le_refl _) (.cells #[.int .i64 p.m, .int .i64 p.s] 23))).later hk)
    obtain ⟨⟨ca0, ca1⟩, ⟨cb0, cb1⟩, ⟨cc0, cc1⟩, ⟨cd0, cd1⟩, ⟨cl0, cl1⟩⟩ := id HC.out
    have la := HC.out.1.lt
    have lb := HC.out.2.1.lt
    have lc := HC.out.2.2.1.lt
    have ld := HC.out.2.2.2.1.lt
    have ll := HC.out.2.2.2.2.lt
    have hb := (hb.alloc hb.size (.cells #[.int .i64 p.m, .int .i64 p.s] 23)).trans (hk.mono (by simp; have := hb.size; simp at this; omega))
    clear hc hf hz hk lr
    obtain ⟨hc, hf⟩ := bcell hb
    have hz := hb.size
    simp at hz
    have lr : w.heap.size < w2.heap.size := by omega
    go_wp2_with fail
    refine (add_tells p q t 0 _ Hp.out Hq.out H3.out).mono ?_
    rintro e w3 ⟨rfl, hk⟩
    have vq := (Var.new w2 q 23).later hk
    have lq := vq.lt
    obtain ⟨vq0, vq1⟩ := id vq
    have vp := (vp.old (.cells #[.int .i64 q.m, .int .i64 q.s] 23)).later hk
    have lp := vp.lt
    obtain ⟨vp0, vp1⟩ := id vp
    clear ca0 ca1 cb0 cb1 cc0 cc1 cd0 cd1 cl0 cl1 la lb lc ld ll
    have HC := Lib.hid ((HC.out.later ((Below.refl _ _).alloc (Nat.le_refl _) (.cells #[.int .i64 q.m, .int .i64 q.s] 23))).later hk)
    obtain ⟨⟨ca0, ca1⟩, ⟨cb0, cb1⟩, ⟨cc0, cc1⟩, ⟨cd0, cd1⟩, ⟨cl0, cl1⟩⟩ := id HC.out
    have la := HC.out.1.lt
    have lb := HC.out.2.1.lt
    have lc := HC.out.2.2.1.lt
    have ld := HC.out.2.2.2.1.lt
    have ll := HC.out.2.2.2.2.lt
    have hb := (hb.alloc hb.size (.cells #[.int .i64 q.m, .int .i64 q.s] 23)).trans (hk.mono (by simp; have := hb.size; simp at this; omega))
    clear hc hf hz hk lr
    obtain ⟨hc, hf⟩ := bcell hb
    have hz := hb.size
    simp at hz
    have lr : w.heap.size < w3.heap.size := by omega
    go_wp2_with fail
    refine (add_tells t l r E _ Ht.out Hl.out H4.out).mono ?_
    rintro e w4 ⟨rfl, hk⟩
    have vt := (Var.new w3 t 23).later hk
    have lt := vt.lt
    obtain ⟨vt0, vt1⟩ := id vt
    have vp := (vp.old (.cells #[.int .i64 t.m, .int .i64 t.s] 23)).later hk
    have lp := vp.lt
    obtain ⟨vp0, vp1⟩ := id vp
    have vq := (vq.old (.cells #[.int .i64 t.m, .int .i64 t.s] 23)).later hk
    have lq := vq.lt
    obtain ⟨vq0, vq1⟩ := id vq
    clear ca0 ca1 cb0 cb1 cc0 cc1 cd0 cd1 cl0 cl1 la lb lc ld ll
    have HC := Lib.hid ((HC.out.later ((Below.refl _ _).alloc (Nat.le_refl _) (.cells #[.int .i64 t.m, .int .i64 t.s] 23))).later hk)
    obtain ⟨⟨ca0, ca1⟩, ⟨cb0, cb1⟩, ⟨cc0, cc1⟩, ⟨cd0, cd1⟩, ⟨cl0, cl1⟩⟩ := id HC.out
    have la := HC.out.1.lt
    have lb := HC.out.2.1.lt
    have lc := HC.out.2.2.1.lt
    have ld := HC.out.2.2.2.1.lt
    have ll := HC.out.2.2.2.2.lt
    have hb := (hb.alloc hb.size (.cells #[.int .i64 t.m, .int .i64 t.s] 23)).trans (hk.mono (by simp; have := hb.size; simp at this; omega))
    clear hc hf hz hk lr
    obtain ⟨hc, hf⟩ := bcell hb
    have hz := hb.size
    simp at hz
    have lr : w.heap.size < w4.heap.size := by omega
    go_wp2
    exact bodyPost_ret (v := .tuple #[.agg #[.int .i64 r.m, .int .i64 r.s], .int .i64 E]) (by simp [results, Try.results45, go_sem, hc]) rfl ⟨rfl, ((((Below.refl _ _).alloc (Nat.le_refl _) _).trans (hb.mono (by simp))).setCell (Nat.le_refl _) _).setCell (Nat.le_refl _) _⟩
end Go.Proofs.Ytpdjooeogpidhaa
