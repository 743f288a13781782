/- What a layout foretells: walked. -/
import Derived.Test.YtjligbfijjejmaaPredF
namespace Go.Proofs.Ytjligbfijjejmaa
open Go.RowKit

theorem bdrewN {B : Nat} {a w : World} (h : Below B a w) (n : Nat) : Below B a (w.drewN n) := h.trans ⟨rfl, rfl, rfl, Nat.le_refl _, fun _ _ => rfl⟩
theorem Bytes.byte_at {w : World} {A : Option Addr} {n c : Nat} {bs : List Nat} (h : Bytes w A n c bs) {R o : Nat} (hA : A = some ⟨R, o, none⟩) {i : Nat} (hi : i < n) : w.cell? ⟨R, o + i, none⟩ = some (.int .u8 (bs.getD i 0 : Nat)) := by
  obtain ⟨R', o', e, hR, hc⟩ := h.at_ (by omega)
  have e2 := hA.symm.trans e
  injection e2 with e2
  injection e2 with e3 e4
  subst e3 e4
  have hl := h.len
  exact hc i _ (by rw [List.getD_eq_getElem?_getD, List.getElem?_eq_getElem (by omega)]; rfl)
theorem Calls.quiet_flip {P : Program} {f : FuncId} {args : Array Value} {w : World} {n : Nat} {v : Value}
    (h : Calls P f args (w.drewN n) fun e w' => e = .returned v ∧ w.drewN n = w') : Calls P f args (w.drewN n) fun e w'' => e = .returned v ∧ ∃ m, w'' = w.drewN m :=
  h.mono fun _ _ ⟨he, hm⟩ => ⟨he, n, hm.symm⟩
/-- What a layout foretells of byte i of a row. -/
def ForeIs (p : PaV) (tag : Nat) (rb ub : List Nat) (i : Nat) (w : World) (e : Ending) (w' : World) : Prop :=
  e = .returned (.int .u8 (foreM tag (backM rb i p.s) (ub.getD i 0) (backM ub i p.s) : Nat)) ∧ Below w.heap.size w w'
set_option maxRecDepth 100000 in
set_option maxHeartbeats 2000000 in
theorem fore_p0 (p : PaV) (rb ub : List Nat) (A1 A2 : Option Addr) (n1 c1 n2 c2 i : Nat) (w : World) (H1 : Bytes w A1 n1 c1 rb) (H2 : Bytes w A2 n2 c2 ub) (h1 : i < n1) (h2 : i < n2) (hs : 1 ≤ p.s ∧ p.s ≤ 64) (hi9 : i ≤ 100000000) :
    Calls Try.prog 28 #[.agg #[.int .i64 1, .int .i64 p.n, .int .i64 p.s, fnV 34, fnV 38, fnV 35, fnV 36, fnV 37], .int .i64 0, .slice A1 n1 c1, .slice A2 n2 c2, .int .i64 i] w (ForeIs p 0 rb ub i w) := by
  obtain ⟨R1, o1, e1, hR1, -⟩ := H1.at_ (by omega)
  obtain ⟨R2, o2, e2, hR2, -⟩ := H2.at_ (by omega)
  have cu := H2.byte_at e2 h2
  have hu := getD_lt H2.byte i
  by_cases hi : i < p.s
  · have ha : backM rb i p.s = 0 := if_pos hi
    have hc : backM ub i p.s = 0 := if_pos hi
    unfold ForeIs
    rw [ha, hc]
    have g1 : decide (p.s ≤ i) = false := by simp; omega
    have HA := Lib.hid (show (0 : Nat) < 256 by decide)
    have HC := Lib.hid (show (0 : Nat) < 256 by decide)
    obtain ⟨u, hu'⟩ : ∃ u, ub.getD i 0 = u := ⟨_, rfl⟩
    rw [hu'] at cu hu ⊢
    have HU := Lib.hid hu
    subst e1 e2
    have cu' : (w.alloc (.cells #[.int .i64 1, .int .i64 p.n, .int .i64 p.s, fnV 34, fnV 38, fnV 35, fnV 36, fnV 37] 46)).cell? ⟨R2, o2 + i, none⟩ = some (.int .u8 (u : Nat)) := (World.cell?_alloc_lt _ _ _ (by simpa using hR2)).trans cu
    have hb : Below w.heap.size w (w.alloc (.cells #[.int .i64 1, .int .i64 p.n, .int .i64 p.s, fnV 34, fnV 38, fnV 35, fnV 36, fnV 37] 46)) := (Below.refl _ _).alloc (Nat.le_refl _) _
    have HB := Lib.hid hb
    have lt := (Whole.made w 46 #[.int .i64 1, .int .i64 p.n, .int .i64 p.s, fnV 34, fnV 38, fnV 35, fnV 36, fnV 37]).reads 3
    clear hb cu H1 H2 ha hc hi hu hu'
    go_enter Try.func28, Try.ntmps28
    go_upto_region 4 with fail
    generalize w.alloc (.cells #[.int .i64 1, .int .i64 p.n, .int .i64 p.s, fnV 34, fnV 38, fnV 35, fnV 36, fnV 37] 46) = W1 at *
    go_quiet ((go_at_call 34; exact Calls.quiet_flip (zero_any 0 u 0 _)))
    go_wp2
    go_ret
    exact ⟨rfl, bdrewN HB.out _⟩
  · have ha : backM rb i p.s = rb.getD (i - p.s) 0 := if_neg hi
    have hc : backM ub i p.s = ub.getD (i - p.s) 0 := if_neg hi
    unfold ForeIs
    rw [ha, hc]
    have g1 : decide (p.s ≤ i) = true := by simp; omega
    have ca := H1.byte_at e1 (i := i - p.s) (by omega)
    have cc := H2.byte_at e2 (i := i - p.s) (by omega)
    have la := getD_lt H1.byte (i - p.s)
    have lc := getD_lt H2.byte (i - p.s)
    obtain ⟨u, hu'⟩ : ∃ u, ub.getD i 0 = u := ⟨_, rfl⟩
    obtain ⟨x, hx'⟩ : ∃ x, rb.getD (i - p.s) 0 = x := ⟨_, rfl⟩
    obtain ⟨y, hy'⟩ : ∃ y, ub.getD (i - p.s) 0 = y := ⟨_, rfl⟩
    rw [hu'] at cu hu ⊢
    rw [hx'] at ca la ⊢
    rw [hy'] at cc lc ⊢
    obtain ⟨k, hk⟩ : ∃ k, i - p.s = k := ⟨_, rfl⟩
    rw [hk] at ca cc
    have hk1 : k < n1 := by omega
    have hk2 : k < n2 := by omega
    have q : IntKind.i64.wrap ((i : Int) - (p.s : Int)) = (k : Int) := by rw [IntWalk.i64_in _ (by omega)]; omega
    have HA := Lib.hid la
    have HC := Lib.hid lc
    have HU := Lib.hid hu
    subst e1 e2
    have cu' : (w.alloc (.cells #[.int .i64 1, .int .i64 p.n, .int .i64 p.s, fnV 34, fnV 38, fnV 35, fnV 36, fnV 37] 46)).cell? ⟨R2, o2 + i, none⟩ = some (.int .u8 (u : Nat)) := (World.cell?_alloc_lt _ _ _ (by simpa using hR2)).trans cu
    have ca' : (w.alloc (.cells #[.int .i64 1, .int .i64 p.n, .int .i64 p.s, fnV 34, fnV 38, fnV 35, fnV 36, fnV 37] 46)).cell? ⟨R1, o1 + k, none⟩ = some (.int .u8 (x : Nat)) := (World.cell?_alloc_lt _ _ _ (by simpa using hR1)).trans ca
    have cc' : (w.alloc (.cells #[.int .i64 1, .int .i64 p.n, .int .i64 p.s, fnV 34, fnV 38, fnV 35, fnV 36, fnV 37] 46)).cell? ⟨R2, o2 + k, none⟩ = some (.int .u8 (y : Nat)) := (World.cell?_alloc_lt _ _ _ (by simpa using hR2)).trans cc
    have lt := (Whole.made w 46 #[.int .i64 1, .int .i64 p.n, .int .i64 p.s, fnV 34, fnV 38, fnV 35, fnV 36, fnV 37]).reads 3
    have ls := (Whole.made w 46 #[.int .i64 1, .int .i64 p.n, .int .i64 p.s, fnV 34, fnV 38, fnV 35, fnV 36, fnV 37]).reads 2
    have hb : Below w.heap.size w (w.alloc (.cells #[.int .i64 1, .int .i64 p.n, .int .i64 p.s, fnV 34, fnV 38, fnV 35, fnV 36, fnV 37] 46)) := (Below.refl _ _).alloc (Nat.le_refl _) _
    have HB := Lib.hid hb
    have ll : w.heap.size < (w.alloc (.cells #[.int .i64 1, .int .i64 p.n, .int .i64 p.s, fnV 34, fnV 38, fnV 35, fnV 36, fnV 37] 46)).heap.size := by simp
    clear hb cu ca cc H1 H2 ha hc hi hu hu' hx' hy' hk la lc
    go_enter Try.func28, Try.ntmps28
    go_wp2_with fail
    go_upto_region 3 with fail
    generalize w.alloc (.cells #[.int .i64 1, .int .i64 p.n, .int .i64 p.s, fnV 34, fnV 38, fnV 35, fnV 36, fnV 37] 46) = W1 at *
    go_quiet (fail)
    go_upto_region 4 with fail
    have cu2 : (W1.drewN nq).cell? ⟨R2, o2 + i, none⟩ = some (.int .u8 (u : Nat)) := cu'
    have lt2 : (W1.drewN nq).cell? ⟨w.heap.size, 3, none⟩ = some (fnV 34) := lt
    have HB2 := Lib.hid (bdrewN HB.out nq)
    have ll2 : w.heap.size < (W1.drewN nq).heap.size := ll
    clear cu' ca' cc' lt ls HB ll
    generalize W1.drewN nq = W2 at *
    go_quiet ((go_at_call 34; exact Calls.quiet_flip (zero_any x u y _)))
    go_wp2
    go_ret
    exact ⟨rfl, bdrewN HB2.out _⟩
set_option maxRecDepth 100000 in
set_option maxHeartbeats 2000000 in
theorem fore_p1 (p : PaV) (rb ub : List Nat) (A1 A2 : Option Addr) (n1 c1 n2 c2 i : Nat) (w : World) (H1 : Bytes w A1 n1 c1 rb) (H2 : Bytes w A2 n2 c2 ub) (h1 : i < n1) (h2 : i < n2) (hs : 1 ≤ p.s ∧ p.s ≤ 64) (hi9 : i ≤ 100000000) :
    Calls Try.prog 28 #[.agg #[.int .i64 1, .int .i64 p.n, .int .i64 p.s, fnV 34, fnV 38, fnV 35, fnV 36, fnV 37], .int .i64 1, .slice A1 n1 c1, .slice A2 n2 c2, .int .i64 i] w (ForeIs p 1 rb ub i w) := by
  obtain ⟨R1, o1, e1, hR1, -⟩ := H1.at_ (by omega)
  obtain ⟨R2, o2, e2, hR2, -⟩ := H2.at_ (by omega)
  have cu := H2.byte_at e2 h2
  have hu := getD_lt H2.byte i
  by_cases hi : i < p.s
  · have ha : backM rb i p.s = 0 := if_pos hi
    have hc : backM ub i p.s = 0 := if_pos hi
    unfold ForeIs
    rw [ha, hc]
    have g1 : decide (p.s ≤ i) = false := by simp; omega
    have HA := Lib.hid (show (0 : Nat) < 256 by decide)
    have HC := Lib.hid (show (0 : Nat) < 256 by decide)
    obtain ⟨u, hu'⟩ : ∃ u, ub.getD i 0 = u := ⟨_, rfl⟩
    rw [hu'] at cu hu ⊢
    have HU := Lib.hid hu
    subst e1 e2
    have cu' : (w.alloc (.cells #[.int .i64 1, .int .i64 p.n, .int .i64 p.s, fnV 34, fnV 38, fnV 35, fnV 36, fnV 37] 46)).cell? ⟨R2, o2 + i, none⟩ = some (.int .u8 (u : Nat)) := (World.cell?_alloc_lt _ _ _ (by simpa using hR2)).trans cu
    have hb : Below w.heap.size w (w.alloc (.cells #[.int .i64 1, .int .i64 p.n, .int .i64 p.s, fnV 34, fnV 38, fnV 35, fnV 36, fnV 37] 46)) := (Below.refl _ _).alloc (Nat.le_refl _) _
    have HB := Lib.hid hb
    have lt := (Whole.made w 46 #[.int .i64 1, .int .i64 p.n, .int .i64 p.s, fnV 34, fnV 38, fnV 35, fnV 36, fnV 37]).reads 4
    clear hb cu H1 H2 ha hc hi hu hu'
    go_enter Try.func28, Try.ntmps28
    go_upto_region 4 with fail
    generalize w.alloc (.cells #[.int .i64 1, .int .i64 p.n, .int .i64 p.s, fnV 34, fnV 38, fnV 35, fnV 36, fnV 37] 46) = W1 at *
    go_quiet ((go_at_call 38; exact Calls.quiet_flip (before_any 0 u 0 _)))
    go_wp2
    go_ret
    exact ⟨rfl, bdrewN HB.out _⟩
  · have ha : backM rb i p.s = rb.getD (i - p.s) 0 := if_neg hi
    have hc : backM ub i p.s = ub.getD (i - p.s) 0 := if_neg hi
    unfold ForeIs
    rw [ha, hc]
    have g1 : decide (p.s ≤ i) = true := by simp; omega
    have ca := H1.byte_at e1 (i := i - p.s) (by omega)
    have cc := H2.byte_at e2 (i := i - p.s) (by omega)
    have la := getD_lt H1.byte (i - p.s)
    have lc := getD_lt H2.byte (i - p.s)
    obtain ⟨u, hu'⟩ : ∃ u, ub.getD i 0 = u := ⟨_, rfl⟩
    obtain ⟨x, hx'⟩ : ∃ x, rb.getD (i - p.s) 0 = x := ⟨_, rfl⟩
    obtain ⟨y, hy'⟩ : ∃ y, ub.getD (i - p.s) 0 = y := ⟨_, rfl⟩
    rw [hu'] at cu hu ⊢
    rw [hx'] at ca la ⊢
    rw [hy'] at cc lc ⊢
    obtain ⟨k, hk⟩ : ∃ k, i - p.s = k := ⟨_, rfl⟩
    rw [hk] at ca cc
    have hk1 : k < n1 := by omega
    have hk2 : k < n2 := by omega
    have q : IntKind.i64.wrap ((i : Int) - (p.s : Int)) = (k : Int) := by rw [IntWalk.i64_in _ (by omega)]; omega
    have HA := Lib.hid la
    have HC := Lib.hid lc
    have HU := Lib.hid hu
    subst e1 e2
    have cu' : (w.alloc (.cells #[.int .i64 1, .int .i64 p.n, .int .i64 p.s, fnV 34, fnV 38, fnV 35, fnV 36, fnV 37] 46)).cell? ⟨R2, o2 + i, none⟩ = some (.int .u8 (u : Nat)) := (World.cell?_alloc_lt _ _ _ (by simpa using hR2)).trans cu
    have ca' : (w.alloc (.cells #[.int .i64 1, .int .i64 p.n, .int .i64 p.s, fnV 34, fnV 38, fnV 35, fnV 36, fnV 37] 46)).cell? ⟨R1, o1 + k, none⟩ = some (.int .u8 (x : Nat)) := (World.cell?_alloc_lt _ _ _ (by simpa using hR1)).trans ca
    have cc' : (w.alloc (.cells #[.int .i64 1, .int .i64 p.n, .int .i64 p.s, fnV 34, fnV 38, fnV 35, fnV 36, fnV 37] 46)).cell? ⟨R2, o2 + k, none⟩ = some (.int .u8 (y : Nat)) := (World.cell?_alloc_lt _ _ _ (by simpa using hR2)).trans cc
    have lt := (Whole.made w 46 #[.int .i64 1, .int .i64 p.n, .int .i64 p.s, fnV 34, fnV 38, fnV 35, fnV 36, fnV 37]).reads 4
    have ls := (Whole.made w 46 #[.int .i64 1, .int .i64 p.n, .int .i64 p.s, fnV 34, fnV 38, fnV 35, fnV 36, fnV 37]).reads 2
    have hb : Below w.heap.size w (w.alloc (.cells #[.int .i64 1, .int .i64 p.n, .int .i64 p.s, fnV 34, fnV 38, fnV 35, fnV 36, fnV 37] 46)) := (Below.refl _ _).alloc (Nat.le_refl _) _
    have HB := Lib.hid hb
    have ll : w.heap.size < (w.alloc (.cells #[.int .i64 1, .int .i64 p.n, .int .i64 p.s, fnV 34, fnV 38, fnV 35, fnV 36, fnV 37] 46)).heap.size := by simp
    clear hb cu ca cc H1 H2 ha hc hi hu hu' hx' hy' hk la lc
    go_enter Try.func28, Try.ntmps28
    go_wp2_with fail
    go_upto_region 3 with fail
    generalize w.alloc (.cells #[.int .i64 1, .int .i64 p.n, .int .i64 p.s, fnV 34, fnV 38, fnV 35, fnV 36, fnV 37] 46) = W1 at *
    go_quiet (fail)
    go_upto_region 4 with fail
    have cu2 : (W1.drewN nq).cell? ⟨R2, o2 + i, none⟩ = some (.int .u8 (u : Nat)) := cu'
    have lt2 : (W1.drewN nq).cell? ⟨w.heap.size, 4, none⟩ = some (fnV 38) := lt
    have HB2 := Lib.hid (bdrewN HB.out nq)
    have ll2 : w.heap.size < (W1.drewN nq).heap.size := ll
    clear cu' ca' cc' lt ls HB ll
    generalize W1.drewN nq = W2 at *
    go_quiet ((go_at_call 38; exact Calls.quiet_flip (before_any x u y _)))
    go_wp2
    go_ret
    exact ⟨rfl, bdrewN HB2.out _⟩
set_option maxRecDepth 100000 in
set_option maxHeartbeats 2000000 in
theorem fore_p2 (p : PaV) (rb ub : List Nat) (A1 A2 : Option Addr) (n1 c1 n2 c2 i : Nat) (w : World) (H1 : Bytes w A1 n1 c1 rb) (H2 : Bytes w A2 n2 c2 ub) (h1 : i < n1) (h2 : i < n2) (hs : 1 ≤ p.s ∧ p.s ≤ 64) (hi9 : i ≤ 100000000) :
    Calls Try.prog 28 #[.agg #[.int .i64 1, .int .i64 p.n, .int .i64 p.s, fnV 34, fnV 38, fnV 35, fnV 36, fnV 37], .int .i64 2, .slice A1 n1 c1, .slice A2 n2 c2, .int .i64 i] w (ForeIs p 2 rb ub i w) := by
  obtain ⟨R1, o1, e1, hR1, -⟩ := H1.at_ (by omega)
  obtain ⟨R2, o2, e2, hR2, -⟩ := H2.at_ (by omega)
  have cu := H2.byte_at e2 h2
  have hu := getD_lt H2.byte i
  by_cases hi : i < p.s
  · have ha : backM rb i p.s = 0 := if_pos hi
    have hc : backM ub i p.s = 0 := if_pos hi
    unfold ForeIs
    rw [ha, hc]
    have g1 : decide (p.s ≤ i) = false := by simp; omega
    have HA := Lib.hid (show (0 : Nat) < 256 by decide)
    have HC := Lib.hid (show (0 : Nat) < 256 by decide)
    obtain ⟨u, hu'⟩ : ∃ u, ub.getD i 0 = u := ⟨_, rfl⟩
    rw [hu'] at cu hu ⊢
    have HU := Lib.hid hu
    subst e1 e2
    have cu' : (w.alloc (.cells #[.int .i64 1, .int .i64 p.n, .int .i64 p.s, fnV 34, fnV 38, fnV 35, fnV 36, fnV 37] 46)).cell? ⟨R2, o2 + i, none⟩ = some (.int .u8 (u : Nat)) := (World.cell?_alloc_lt _ _ _ (by simpa using hR2)).trans cu
    have hb : Below w.heap.size w (w.alloc (.cells #[.int .i64 1, .int .i64 p.n, .int .i64 p.s, fnV 34, fnV 38, fnV 35, fnV 36, fnV 37] 46)) := (Below.refl _ _).alloc (Nat.le_refl _) _
    have HB := Lib.hid hb
    have lt := (Whole.made w 46 #[.int .i64 1, .int .i64 p.n, .int .i64 p.s, fnV 34, fnV 38, fnV 35, fnV 36, fnV 37]).reads 5
    clear hb cu H1 H2 ha hc hi hu hu'
    go_enter Try.func28, Try.ntmps28
    go_upto_region 4 with fail
    generalize w.alloc (.cells #[.int .i64 1, .int .i64 p.n, .int .i64 p.s, fnV 34, fnV 38, fnV 35, fnV 36, fnV 37] 46) = W1 at *
    go_quiet ((go_at_call 35; exact Calls.quiet_flip (above_any 0 u 0 _)))
    go_wp2
    go_ret
    exact ⟨rfl, bdrewN HB.out _⟩
  · have ha : backM rb i p.s = rb.getD (i - p.s) 0 := if_neg hi
    have hc : backM ub i p.s = ub.getD (i - p.s) 0 := if_neg hi
    unfold ForeIs
    rw [ha, hc]
    have g1 : decide (p.s ≤ i) = true := by simp; omega
    have ca := H1.byte_at e1 (i := i - p.s) (by omega)
    have cc := H2.byte_at e2 (i := i - p.s) (by omega)
    have la := getD_lt H1.byte (i - p.s)
    have lc := getD_lt H2.byte (i - p.s)
    obtain ⟨u, hu'⟩ : ∃ u, ub.getD i 0 = u := ⟨_, rfl⟩
    obtain ⟨x, hx'⟩ : ∃ x, rb.getD (i - p.s) 0 = x := ⟨_, rfl⟩
    obtain ⟨y, hy'⟩ : ∃ y, ub.getD (i - p.s) 0 = y := ⟨_, rfl⟩
    rw [hu'] at cu hu ⊢
    rw [hx'] at ca la ⊢
    rw [hy'] at cc lc ⊢
    obtain ⟨k, hk⟩ : ∃ k, i - p.s = k := ⟨_, rfl⟩
    rw [hk] at ca cc
    have hk1 : k < n1 := by omega
    have hk2 : k < n2 := by omega
    have q : IntKind.i64.wrap ((i : Int) - (p.s : Int)) = (k : Int) := by rw [IntWalk.i64_in _ (by omega)]; omega
    have HA := Lib.hid la
    have HC := Lib.hid lc
    have HU := Lib.hid hu
    subst e1 e2
    have cu' : (w.alloc (.cells #[.int .i64 1, .int .i64 p.n, .int .i64 p.s, fnV 34, fnV 38, fnV 35, fnV 36, fnV 37] 46)).cell? ⟨R2, o2 + i, none⟩ = some (.int .u8 (u : Nat)) := (World.cell?_alloc_lt _ _ _ (by simpa using hR2)).trans cu
    have ca' : (w.alloc (.cells #[.int .i64 1, .int .i64 p.n, .int .i64 p.s, fnV 34, fnV 38, fnV 35, fnV 36, fnV 37] 46)).cell? ⟨R1, o1 + k, none⟩ = some (.int .u8 (x : Nat)) := (World.cell?_alloc_lt _ _ _ (by simpa using hR1)).trans ca
    have cc' : (w.alloc (.cells #[.int .i64 1, .int .i64 p.n, .int .i64 p.s, fnV 34, fnV 38, fnV 35, fnV 36, fnV 37] 46)).cell? ⟨R2, o2 + k, none⟩ = some (.int .u8 (y : Nat)) := (World.cell?_alloc_lt _ _ _ (by simpa using hR2)).trans cc
    have lt := (Whole.made w 46 #[.int .i64 1, .int .i64 p.n, .int .i64 p.s, fnV 34, fnV 38, fnV 35, fnV 36, fnV 37]).reads 5
    have ls := (Whole.made w 46 #[.int .i64 1, .int .i64 p.n, .int .i64 p.s, fnV 34, fnV 38, fnV 35, fnV 36, fnV 37]).reads 2
    have hb : Below w.heap.size w (w.alloc (.cells #[.int .i64 1, .int .i64 p.n, .int .i64 p.s, fnV 34, fnV 38, fnV 35, fnV 36, fnV 37] 46)) := (Below.refl _ _).alloc (Nat.le_refl _) _
    have HB := Lib.hid hb
    have ll : w.heap.size < (w.alloc (.cells #[.int .i64 1, .int .i64 p.n, .int .i64 p.s, fnV 34, fnV 38, fnV 35, fnV 36, fnV 37] 46)).heap.size := by simp
    clear hb cu ca cc H1 H2 ha hc hi hu hu' hx' hy' hk la lc
    go_enter Try.func28, Try.ntmps28
    go_wp2_with fail
    go_upto_region 3 with fail
    generalize w.alloc (.cells #[.int .i64 1, .int .i64 p.n, .int .i64 p.s, fnV 34, fnV 38, fnV 35, fnV 36, fnV 37] 46) = W1 at *
    go_quiet (fail)
    go_upto_region 4 with fail
    have cu2 : (W1.drewN nq).cell? ⟨R2, o2 + i, none⟩ = some (.int .u8 (u : Nat)) := cu'
    have lt2 : (W1.drewN nq).cell? ⟨w.heap.size, 5, none⟩ = some (fnV 35) := lt
    have HB2 := Lib.hid (bdrewN HB.out nq)
    have ll2 : w.heap.size < (W1.drewN nq).heap.size := ll
    clear cu' ca' cc' lt ls HB ll
    generalize W1.drewN nq = W2 at *
    go_quiet ((go_at_call 35; exact Calls.quiet_flip (above_any x u y _)))
    go_wp2
    go_ret
    exact ⟨rfl, bdrewN HB2.out _⟩
set_option maxRecDepth 100000 in
set_option maxHeartbeats 2000000 in
theorem fore_p3 (p : PaV) (rb ub : List Nat) (A1 A2 : Option Addr) (n1 c1 n2 c2 i : Nat) (w : World) (H1 : Bytes w A1 n1 c1 rb) (H2 : Bytes w A2 n2 c2 ub) (h1 : i < n1) (h2 : i < n2) (hs : 1 ≤ p.s ∧ p.s ≤ 64) (hi9 : i ≤ 100000000) :
    Calls Try.prog 28 #[.agg #[.int .i64 1, .int .i64 p.n, .int .i64 p.s, fnV 34, fnV 38, fnV 35, fnV 36, fnV 37], .int .i64 3, .slice A1 n1 c1, .slice A2 n2 c2, .int .i64 i] w (ForeIs p 3 rb ub i w) := by
  obtain ⟨R1, o1, e1, hR1, -⟩ := H1.at_ (by omega)
  obtain ⟨R2, o2, e2, hR2, -⟩ := H2.at_ (by omega)
  have cu := H2.byte_at e2 h2
  have hu := getD_lt H2.byte i
  by_cases hi : i < p.s
  · have ha : backM rb i p.s = 0 := if_pos hi
    have hc : backM ub i p.s = 0 := if_pos hi
    unfold ForeIs
    rw [ha, hc]
    have g1 : decide (p.s ≤ i) = false := by simp; omega
    have HA := Lib.hid (show (0 : Nat) < 256 by decide)
    have HC := Lib.hid (show (0 : Nat) < 256 by decide)
    obtain ⟨u, hu'⟩ : ∃ u, ub.getD i 0 = u := ⟨_, rfl⟩
    rw [hu'] at cu hu ⊢
    have HU := Lib.hid hu
    subst e1 e2
    have cu' : (w.alloc (.cells #[.int .i64 1, .int .i64 p.n, .int .i64 p.s, fnV 34, fnV 38, fnV 35, fnV 36, fnV 37] 46)).cell? ⟨R2, o2 + i, none⟩ = some (.int .u8 (u : Nat)) := (World.cell?_alloc_lt _ _ _ (by simpa using hR2)).trans cu
    have hb : Below w.heap.size w (w.alloc (.cells #[.int .i64 1, .int .i64 p.n, .int .i64 p.s, fnV 34, fnV 38, fnV 35, fnV 36, fnV 37] 46)) := (Below.refl _ _).alloc (Nat.le_refl _) _
    have HB := Lib.hid hb
    have lt := (Whole.made w 46 #[.int .i64 1, .int .i64 p.n, .int .i64 p.s, fnV 34, fnV 38, fnV 35, fnV 36, fnV 37]).reads 6
    clear hb cu H1 H2 ha hc hi hu hu'
    go_enter Try.func28, Try.ntmps28
    go_upto_region 4 with fail
    generalize w.alloc (.cells #[.int .i64 1, .int .i64 p.n, .int .i64 p.s, fnV 34, fnV 38, fnV 35, fnV 36, fnV 37] 46) = W1 at *
    go_quiet ((go_at_call 36; exact Calls.quiet_flip (average_any 0 u 0 _ HA.out HU.out)))
    go_wp2
    go_ret
    exact ⟨rfl, bdrewN HB.out _⟩
  · have ha : backM rb i p.s = rb.getD (i - p.s) 0 := if_neg hi
    have hc : backM ub i p.s = ub.getD (i - p.s) 0 := if_neg hi
    unfold ForeIs
    rw [ha, hc]
    have g1 : decide (p.s ≤ i) = true := by simp; omega
    have ca := H1.byte_at e1 (i := i - p.s) (by omega)
    have cc := H2.byte_at e2 (i := i - p.s) (by omega)
    have la := getD_lt H1.byte (i - p.s)
    have lc := getD_lt H2.byte (i - p.s)
    obtain ⟨u, hu'⟩ : ∃ u, ub.getD i 0 = u := ⟨_, rfl⟩
    obtain ⟨x, hx'⟩ : ∃ x, rb.getD (i - p.s) 0 = x := ⟨_, rfl⟩
    obtain ⟨y, hy'⟩ : ∃ y, ub.getD (i - p.s) 0 = y := ⟨_, rfl⟩
    rw [hu'] at cu hu ⊢
    rw [hx'] at ca la ⊢
    rw [hy'] at cc lc ⊢
    obtain ⟨k, hk⟩ : ∃ k, i - p.s = k := ⟨_, rfl⟩
    rw [hk] at ca cc
    have hk1 : k < n1 := by omega
    have hk2 : k < n2 := by omega
    have q : IntKind.i64.wrap ((i : Int) - (p.s : Int)) = (k : Int) := by rw [IntWalk.i64_in _ (by omega)]; omega
    have HA := Lib.hid la
    have HC := Lib.hid lc
    have HU := Lib.hid hu
    subst e1 e2
    have cu' : (w.alloc (.cells #[.int .i64 1, .int .i64 p.n, .int .i64 p.s, fnV 34, fnV 38, fnV 35, fnV 36, fnV 37] 46)).cell? ⟨R2, o2 + i, none⟩ = some (.int .u8 (u : Nat)) := (World.cell?_alloc_lt _ _ _ (by simpa using hR2)).trans cu
    have ca' : (w.alloc (.cells #[.int .i64 1, .int .i64 p.n, .int .i64 p.s, fnV 34, fnV 38, fnV 35, fnV 36, fnV 37] 46)).cell? ⟨R1, o1 + k, none⟩ = some (.int .u8 (x : Nat)) := (World.cell?_alloc_lt _ _ _ (by simpa using hR1)).trans ca
    have cc' : (w.alloc (.cells #[.int .i64 1, .int .i64 p.n, .int .i64 p.s, fnV 34, fnV 38, fnV 35, fnV 36, fnV 37] 46)).cell? ⟨R2, o2 + k, none⟩ = some (.int .u8 (y : Nat)) := (World.cell?_alloc_lt _ _ _ (by simpa using hR2)).trans cc
    have lt := (Whole.made w 46 #[.int .i64 1, .int .i64 p.n, .int .i64 p.s, fnV 34, fnV 38, fnV 35, fnV 36, fnV 37]).reads 6
    have ls := (Whole.made w 46 #[.int .i64 1, .int .i64 p.n, .int .i64 p.s, fnV 34, fnV 38, fnV 35, fnV 36, fnV 37]).reads 2
    have hb : Below w.heap.size w (w.alloc (.cells #[.int .i64 1, .int .i64 p.n, .int .i64 p.s, fnV 34, fnV 38, fnV 35, fnV 36, fnV 37] 46)) := (Below.refl _ _).alloc (Nat.le_refl _) _
    have HB := Lib.hid hb
    have ll : w.heap.size < (w.alloc (.cells #[.int .i64 1, .int .i64 p.n, .int .i64 p.s, fnV 34, fnV 38, fnV 35, fnV 36, fnV 37] 46)).heap.size := by simp
    clear hb cu ca cc H1 H2 ha hc hi hu hu' hx' hy' hk la lc
    go_enter Try.func28, Try.ntmps28
    go_wp2_with fail
    go_upto_region 3 with fail
    generalize w.alloc (.cells #[.int .i64 1, .int .i64 p.n, .int .i64 p.s, fnV 34, fnV 38, fnV 35, fnV 36, fnV 37] 46) = W1 at *
    go_quiet (fail)
    go_upto_region 4 with fail
    have cu2 : (W1.drewN nq).cell? ⟨R2, o2 + i, none⟩ = some (.int .u8 (u : Nat)) := cu'
    have lt2 : (W1.drewN nq).cell? ⟨w.heap.size, 6, none⟩ = some (fnV 36) := lt
    have HB2 := Lib.hid (bdrewN HB.out nq)
    have ll2 : w.heap.size < (W1.drewN nq).heap.size := ll
    clear cu' ca' cc' lt ls HB ll
    generalize W1.drewN nq = W2 at *
    go_quiet ((go_at_call 36; exact Calls.quiet_flip (average_any x u y _ HA.out HU.out)))
    go_wp2
    go_ret
    exact ⟨rfl, bdrewN HB2.out _⟩
set_option maxRecDepth 100000 in
set_option maxHeartbeats 2000000 in
theorem fore_p4 (p : PaV) (rb ub : List Nat) (A1 A2 : Option Addr) (n1 c1 n2 c2 i : Nat) (w : World) (H1 : Bytes w A1 n1 c1 rb) (H2 : Bytes w A2 n2 c2 ub) (h1 : i < n1) (h2 : i < n2) (hs : 1 ≤ p.s ∧ p.s ≤ 64) (hi9 : i ≤ 100000000) :
    Calls Try.prog 28 #[.agg #[.int .i64 1, .int .i64 p.n, .int .i64 p.s, fnV 34, fnV 38, fnV 35, fnV 36, fnV 37], .int .i64 4, .slice A1 n1 c1, .slice A2 n2 c2, .int .i64 i] w (ForeIs p 4 rb ub i w) := by
  obtain ⟨R1, o1, e1, hR1, -⟩ := H1.at_ (by omega)
  obtain ⟨R2, o2, e2, hR2, -⟩ := H2.at_ (by omega)
  have cu := H2.byte_at e2 h2
  have hu := getD_lt H2.byte i
  by_cases hi : i < p.s
  · have ha : backM rb i p.s = 0 := if_pos hi
    have hc : backM ub i p.s = 0 := if_pos hi
    unfold ForeIs
    rw [ha, hc]
    have g1 : decide (p.s ≤ i) = false := by simp; omega
    have HA := Lib.hid (show (0 : Nat) < 256 by decide)
    have HC := Lib.hid (show (0 : Nat) < 256 by decide)
    obtain ⟨u, hu'⟩ : ∃ u, ub.getD i 0 = u := ⟨_, rfl⟩
    rw [hu'] at cu hu ⊢
    have HU := Lib.hid hu
    subst e1 e2
    have cu' : (w.alloc (.cells #[.int .i64 1, .int .i64 p.n, .int .i64 p.s, fnV 34, fnV 38, fnV 35, fnV 36, fnV 37] 46)).cell? ⟨R2, o2 + i, none⟩ = some (.int .u8 (u : Nat)) := (World.cell?_alloc_lt _ _ _ (by simpa using hR2)).trans cu
    have hb : Below w.heap.size w (w.alloc (.cells #[.int .i64 1, .int .i64 p.n, .int .i64 p.s, fnV 34, fnV 38, fnV 35, fnV 36, fnV 37] 46)) := (Below.refl _ _).alloc (Nat.le_refl _) _
    have HB := Lib.hid hb
    have lt := (Whole.made w 46 #[.int .i64 1, .int .i64 p.n, .int .i64 p.s, fnV 34, fnV 38, fnV 35, fnV 36, fnV 37]).reads 7
    clear hb cu H1 H2 ha hc hi hu hu'
    go_enter Try.func28, Try.ntmps28
    go_upto_region 4 with fail
    generalize w.alloc (.cells #[.int .i64 1, .int .i64 p.n, .int .i64 p.s, fnV 34, fnV 38, fnV 35, fnV 36, fnV 37] 46) = W1 at *
    go_quiet ((go_at_call 37; exact Calls.quiet_flip (nearest_any 0 u 0 _ HA.out HU.out HC.out)))
    go_wp2
    go_ret
    exact ⟨rfl, bdrewN HB.out _⟩
  · have ha : backM rb i p.s = rb.getD (i - p.s) 0 := if_neg hi
    have hc : backM ub i p.s = ub.getD (i - p.s) 0 := if_neg hi
    unfold ForeIs
    rw [ha, hc]
    have g1 : decide (p.s ≤ i) = true := by simp; omega
    have ca := H1.byte_at e1 (i := i - p.s) (by omega)
    have cc := H2.byte_at e2 (i := i - p.s) (by omega)
    have la := getD_lt H1.byte (i - p.s)
    have lc := getD_lt H2.byte (i - p.s)
    obtain ⟨u, hu'⟩ : ∃ u, ub.getD i 0 = u := ⟨_, rfl⟩
    obtain ⟨x, hx'⟩ : ∃ x, rb.getD (i - p.s) 0 = x := ⟨_, rfl⟩
    obtain ⟨y, hy'⟩ : ∃ y, ub.getD (i - p.s) 0 = y := ⟨_, rfl⟩
    rw [hu'] at cu hu ⊢
    rw [hx'] at ca la ⊢
    rw [hy'] at cc lc ⊢
    obtain ⟨k, hk⟩ : ∃ k, i - p.s = k := ⟨_, rfl⟩
    rw [hk] at ca cc
    have hk1 : k < n1 := by omega
    have hk2 : k < n2 := by omega
    have q : IntKind.i64.wrap ((i : Int) - (p.s : Int)) = (k : Int) := by rw [IntWalk.i64_in _ (by omega)]; omega
    have HA := Lib.hid la
    have HC := Lib.hid lc
    have HU := Lib.hid hu
    subst e1 e2
    have cu' : (w.alloc (.cells #[.int .i64 1, .int .i64 p.n, .int .i64 p.s, fnV 34, fnV 38, fnV 35, fnV 36, fnV 37] 46)).cell? ⟨R2, o2 + i, none⟩ = some (.int .u8 (u : Nat)) := (World.cell?_alloc_lt _ _ _ (by simpa using hR2)).trans cu
    have ca' : (w.alloc (.cells #[.int .i64 1, .int .i64 p.n, .int .i64 p.s, fnV 34, fnV 38, fnV 35, fnV 36, fnV 37] 46)).cell? ⟨R1, o1 + k, none⟩ = some (.int .u8 (x : Nat)) := (World.cell?_alloc_lt _ _ _ (by simpa using hR1)).trans ca
    have cc' : (w.alloc (.cells #[.int .i64 1, .int .i64 p.n, .int .i64 p.s, fnV 34, fnV 38, fnV 35, fnV 36, fnV 37] 46)).cell? ⟨R2, o2 + k, none⟩ = some (.int .u8 (y : Nat)) := (World.cell?_alloc_lt _ _ _ (by simpa using hR2)).trans cc
    have lt := (Whole.made w 46 #[.int .i64 1, .int .i64 p.n, .int .i64 p.s, fnV 34, fnV 38, fnV 35, fnV 36, fnV 37]).reads 7
    have ls := (Whole.made w 46 #[.int .i64 1, .int .i64 p.n, .int .i64 p.s, fnV 34, fnV 38, fnV 35, fnV 36, fnV 37]).reads 2
    have hb : Below w.heap.size w (w.alloc (.cells #[.int .i64 1, .int .i64 p.n, .int .i64 p.s, fnV 34, fnV 38, fnV 35, fnV 36, fnV 37] 46)) := (Below.refl _ _).alloc (Nat.le_refl _) _
    have HB := Lib.hid hb
    have ll : w.heap.size < (w.alloc (.cells #[.int .i64 1, .int .i64 p.n, .int .i64 p.s, fnV 34, fnV 38, fnV 35, fnV 36, fnV 37] 46)).heap.size := by simp
    clear hb cu ca cc H1 H2 ha hc hi hu hu' hx' hy' hk la lc
    go_enter Try.func28, Try.ntmps28
    go_wp2_with fail
    go_upto_region 3 with fail
    generalize w.alloc (.cells #[.int .i64 1, .int .i64 p.n, .int .i64 p.s, fnV 34, fnV 38, fnV 35, fnV 36, fnV 37] 46) = W1 at *
    go_quiet (fail)
    go_upto_region 4 with fail
    have cu2 : (W1.drewN nq).cell? ⟨R2, o2 + i, none⟩ = some (.int .u8 (u : Nat)) := cu'
    have lt2 : (W1.drewN nq).cell? ⟨w.heap.size, 7, none⟩ = some (fnV 37) := lt
    have HB2 := Lib.hid (bdrewN HB.out nq)
    have ll2 : w.heap.size < (W1.drewN nq).heap.size := ll
    clear cu' ca' cc' lt ls HB ll
    generalize W1.drewN nq = W2 at *
    go_quiet ((go_at_call 37; exact Calls.quiet_flip (nearest_any x u y _ HA.out HU.out HC.out)))
    go_wp2
    go_ret
    exact ⟨rfl, bdrewN HB2.out _⟩
set_option maxRecDepth 100000 in
set_option maxHeartbeats 2000000 in
theorem fore_t1 (p : PaV) (rb ub : List Nat) (A1 A2 : Option Addr) (n1 c1 n2 c2 i : Nat) (w : World) (H1 : Bytes w A1 n1 c1 rb) (H2 : Bytes w A2 n2 c2 ub) (h1 : i < n1) (h2 : i < n2) (hs : 1 ≤ p.s ∧ p.s ≤ 64) (hi9 : i ≤ 100000000) :
    Calls Try.prog 28 #[.agg #[.int .i64 0, .int .i64 p.n, .int .i64 p.s, .nilFunc, fnV 38, .nilFunc, .nilFunc, .nilFunc], .int .i64 1, .slice A1 n1 c1, .slice A2 n2 c2, .int .i64 i] w (ForeIs p 1 rb ub i w) := by
  obtain ⟨R1, o1, e1, hR1, -⟩ := H1.at_ (by omega)
  obtain ⟨R2, o2, e2, hR2, -⟩ := H2.at_ (by omega)
  have cu := H2.byte_at e2 h2
  have hu := getD_lt H2.byte i
  by_cases hi : i < p.s
  · have ha : backM rb i p.s = 0 := if_pos hi
    have hc : backM ub i p.s = 0 := if_pos hi
    unfold ForeIs
    rw [ha, hc]
    have g1 : decide (p.s ≤ i) = false := by simp; omega
    have HA := Lib.hid (show (0 : Nat) < 256 by decide)
    have HC := Lib.hid (show (0 : Nat) < 256 by decide)
    obtain ⟨u, hu'⟩ : ∃ u, ub.getD i 0 = u := ⟨_, rfl⟩
    rw [hu'] at cu hu ⊢
    have HU := Lib.hid hu
    subst e1 e2
    have cu' : (w.alloc (.cells #[.int .i64 0, .int .i64 p.n, .int .i64 p.s, .nilFunc, fnV 38, .nilFunc, .nilFunc, .nilFunc] 46)).cell? ⟨R2, o2 + i, none⟩ = some (.int .u8 (u : Nat)) := (World.cell?_alloc_lt _ _ _ (by simpa using hR2)).trans cu
    have hb : Below w.heap.size w (w.alloc (.cells #[.int .i64 0, .int .i64 p.n, .int .i64 p.s, .nilFunc, fnV 38, .nilFunc, .nilFunc, .nilFunc] 46)) := (Below.refl _ _).alloc (Nat.le_refl _) _
    have HB := Lib.hid hb
    have lt := (Whole.made w 46 #[.int .i64 0, .int .i64 p.n, .int .i64 p.s, .nilFunc, fnV 38, .nilFunc, .nilFunc, .nilFunc]).reads 4
    clear hb cu H1 H2 ha hc hi hu hu'
    go_enter Try.func28, Try.ntmps28
    go_upto_region 4 with fail
    generalize w.alloc (.cells #[.int .i64 0, .int .i64 p.n, .int .i64 p.s, .nilFunc, fnV 38, .nilFunc, .nilFunc, .nilFunc] 46) = W1 at *
    go_quiet ((go_at_call 38; exact Calls.quiet_flip (before_any 0 u 0 _)))
    go_wp2
    go_ret
    exact ⟨rfl, bdrewN HB.out _⟩
  · have ha : backM rb i p.s = rb.getD (i - p.s) 0 := if_neg hi
    have hc : backM ub i p.s = ub.getD (i - p.s) 0 := if_neg hi
    unfold ForeIs
    rw [ha, hc]
    have g1 : decide (p.s ≤ i) = true := by simp; omega
    have ca := H1.byte_at e1 (i := i - p.s) (by omega)
    have cc := H2.byte_at e2 (i := i - p.s) (by omega)
    have la := getD_lt H1.byte (i - p.s)
    have lc := getD_lt H2.byte (i - p.s)
    obtain ⟨u, hu'⟩ : ∃ u, ub.getD i 0 = u := ⟨_, rfl⟩
    obtain ⟨x, hx'⟩ : ∃ x, rb.getD (i - p.s) 0 = x := ⟨_, rfl⟩
    obtain ⟨y, hy'⟩ : ∃ y, ub.getD (i - p.s) 0 = y := ⟨_, rfl⟩
    rw [hu'] at cu hu ⊢
    rw [hx'] at ca la ⊢
    rw [hy'] at cc lc ⊢
    obtain ⟨k, hk⟩ : ∃ k, i - p.s = k := ⟨_, rfl⟩
    rw [hk] at ca cc
    have hk1 : k < n1 := by omega
    have hk2 : k < n2 := by omega
    have q : IntKind.i64.wrap ((i : Int) - (p.s : Int)) = (k : Int) := by rw [IntWalk.i64_in _ (by omega)]; omega
    have HA := Lib.hid la
    have HC := Lib.hid lc
    have HU := Lib.hid hu
    subst e1 e2
    have cu' : (w.alloc (.cells #[.int .i64 0, .int .i64 p.n, .int .i64 p.s, .nilFunc, fnV 38, .nilFunc, .nilFunc, .nilFunc] 46)).cell? ⟨R2, o2 + i, none⟩ = some (.int .u8 (u : Nat)) := (World.cell?_alloc_lt _ _ _ (by simpa using hR2)).trans cu
    have ca' : (w.alloc (.cells #[.int .i64 0, .int .i64 p.n, .int .i64 p.s, .nilFunc, fnV 38, .nilFunc, .nilFunc, .nilFunc] 46)).cell? ⟨R1, o1 + k, none⟩ = some (.int .u8 (x : Nat)) := (World.cell?_alloc_lt _ _ _ (by simpa using hR1)).trans ca
    have cc' : (w.alloc (.cells #[.int .i64 0, .int .i64 p.n, .int .i64 p.s, .nilFunc, fnV 38, .nilFunc, .nilFunc, .nilFunc] 46)).cell? ⟨R2, o2 + k, none⟩ = some (.int .u8 (y : Nat)) := (World.cell?_alloc_lt _ _ _ (by simpa using hR2)).trans cc
    have lt := (Whole.made w 46 #[.int .i64 0, .int .i64 p.n, .int .i64 p.s, .nilFunc, fnV 38, .nilFunc, .nilFunc, .nilFunc]).reads 4
    have ls := (Whole.made w 46 #[.int .i64 0, .int .i64 p.n, .int .i64 p.s, .nilFunc, fnV 38, .nilFunc, .nilFunc, .nilFunc]).reads 2
    have hb : Below w.heap.size w (w.alloc (.cells #[.int .i64 0, .int .i64 p.n, .int .i64 p.s, .nilFunc, fnV 38, .nilFunc, .nilFunc, .nilFunc] 46)) := (Below.refl _ _).alloc (Nat.le_refl _) _
    have HB := Lib.hid hb
    have ll : w.heap.size < (w.alloc (.cells #[.int .i64 0, .int .i64 p.n, .int .i64 p.s, .nilFunc, fnV 38, .nilFunc, .nilFunc, .nilFunc] 46)).heap.size := by simp
    clear hb cu ca cc H1 H2 ha hc hi hu hu' hx' hy' hk la lc
    go_enter Try.func28, Try.ntmps28
    go_wp2_with fail
    go_upto_region 3 with fail
    generalize w.alloc (.cells #[.int .i64 0, .int .i64 p.n, .int .i64 p.s, .nilFunc, fnV 38, .nilFunc, .nilFunc, .nilFunc] 46) = W1 at *
    go_quiet (fail)
    go_upto_region 4 with fail
    have cu2 : (W1.drewN nq).cell? ⟨R2, o2 + i, none⟩ = some (.int .u8 (u : Nat)) := cu'
    have lt2 : (W1.drewN nq).cell? ⟨w.heap.size, 4, none⟩ = some (fnV 38) := lt
    have HB2 := Lib.hid (bdrewN HB.out nq)
    have ll2 : w.heap.size < (W1.drewN nq).heap.size := ll
    clear cu' ca' cc' lt ls HB ll
    generalize W1.drewN nq = W2 at *
    go_quiet ((go_at_call 38; exact Calls.quiet_flip (before_any x u y _)))
    go_wp2
    go_ret
    exact ⟨rfl, bdrewN HB2.out _⟩
end Go.Proofs.Ytjligbfijjejmaa
