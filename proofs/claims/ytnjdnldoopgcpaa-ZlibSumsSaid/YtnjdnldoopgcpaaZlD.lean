/- zlib: slices.Concat of three rows. -/
import Derived.Test.YtnjdnldoopgcpaaZlC
import Derived.Test.YtnjdnldoopgcpaaZlT
import Derived.Test.YtnjdnldoopgcpaaShelfG
import Derived.Shelf.Spec.SlicesGrow
import Derived.LoopN
namespace Go.Proofs.Ytnjdnldoopgcpaa
open Go.RowKit

theorem own_no {w : World} {g base cap : Nat} {cs : Array Value} (h : Whole w g 5 cs) (hb : base ≤ g) (hs : cs.size = cap) (hc : cap ≤ maxLen) : w.ownsRow base 5 1 (.slice (some ⟨g, 0, none⟩) 0 cap) 0 [] :=
  ⟨by simp, .inr ⟨g, cap, cs, rfl, hb, h, Nat.zero_le _, hc, by rw [hs, Nat.mul_one], by simp⟩⟩
/-- slices.Grow of a nil row: a new row without elements. -/
theorem grow_nil (k : Nat) (w : World) (h1 : 1 ≤ k) (hk : k ≤ 1000000) :
    Calls Try.prog 68 #[.slice none 0 0, .int .i64 (k : Int)] w fun e w' => ∃ v, e = .returned v ∧ w'.ownsRow w.heap.size 5 1 v 0 [] ∧ Below w.heap.size w w' := by
  obtain ⟨i0, hi, hz0, hz1, hz2⟩ := info_u8
  have h := Any8.slices_Grow_grow Try.lays_grow i0 (.int .u8 0) hi hz0 (by rw [hz1]; decide) none 0 0 k [] w (Nat.le_refl _) (by omega) (by rw [hz2]; omega) (by omega) (by simp) (fun _ => rfl) (fun a e => by cases e)
  change Calls Try.prog 68 _ _ _ at h
  refine h.mono ?_
  rintro e w' ⟨rfl, rfl⟩
  have hg := grownCap_ge w (0 + k) 0 (Try.lays_grow_ren.t 25)
  have hg2 := grownCap_le_maxLen w (0 + k) 0 (Try.lays_grow_ren.t 25) (by unfold maxLen; omega)
  generalize grownCap w (0 + k) 0 (Try.lays_grow_ren.t 25) = cap at *
  refine ⟨_, rfl, own_no (Whole.made w.drew 5 _) (Nat.le_refl _) ?_ hg2, (Below.refl _ _).drew.alloc (Nat.le_refl _) _⟩
  simp [Builtin.zeroCells, Value.cells]
  omega
set_option maxRecDepth 100000 in
set_option maxHeartbeats 4000000 in
theorem concat3_any (K : Nat) (A0 A1 A2 : Option Addr) (n0 n1 n2 c0 c1 c2 : Nat) (b0 b1 b2 : List Nat) (w : World) (hK : Whole w K 22 #[.slice A0 n0 c0, .slice A1 n1 c1, .slice A2 n2 c2])
    (h0 : Bytes w A0 n0 c0 b0) (h1 : Bytes w A1 n1 c1 b1) (h2 : Bytes w A2 n2 c2 b2) (z0 : A0 = none → c0 = 0) (z1 : A1 = none → c1 = 0) (z2 : A2 = none → c2 = 0) (hN : n0 + n1 + n2 ≤ 1000000) (hp : 1 ≤ n0 + n1 + n2) :
    Calls Try.prog 54 #[.slice (some ⟨K, 0, none⟩) 3 3] w fun e w' => ∃ v, e = .returned v ∧ w'.ownsRow w.heap.size 5 1 v (n0 + n1 + n2) (bvs (b0 ++ b1 ++ b2)) ∧ Below w.heap.size w w' := by
  obtain ⟨s2, hs2⟩ : ∃ s, n0 + n1 = s := ⟨_, rfl⟩
  obtain ⟨N, hN2⟩ : ∃ s, s2 + n2 = s := ⟨_, rfl⟩
  have ew0 : IntKind.i64.wrap (n0 : Int) = (n0 : Int) := by rw [IntKind.wrap_i64]; omega
  have ew1 : IntKind.i64.wrap ((n0 : Int) + (n1 : Int)) = (s2 : Int) := by rw [IntKind.wrap_i64]; omega
  have ew2 : IntKind.i64.wrap ((s2 : Int) + (n2 : Int)) = (N : Int) := by rw [IntKind.wrap_i64]; omega
  have d0 : decide ((n0 : Int) < 0) = false := decide_eq_false (by omega)
  have d1 : decide ((s2 : Int) < 0) = false := decide_eq_false (by omega)
  have d2 : decide ((N : Int) < 0) = false := decide_eq_false (by omega)
  have k0 : w.cell? ⟨K, 0, none⟩ = some (.slice A0 n0 c0) := hK.reads 0
  have k1 : w.cell? ⟨K, 1, none⟩ = some (.slice A1 n1 c1) := hK.reads 1
  have k2 : w.cell? ⟨K, 2, none⟩ = some (.slice A2 n2 c2) := hK.reads 2
  have lK := hK.lt
  have HG := Lib.hid (grow_nil N w (by omega) (by omega))
  have HK := Lib.hid hK
  have H0 := Lib.hid (And.intro h0 z0)
  have H1 := Lib.hid (And.intro h1 z1)
  have H2 := Lib.hid (And.intro h2 z2)
  have HS := Lib.hid (And.intro hs2 hN2)
  rw [hs2, hN2]
  have hN9 : N ≤ 1000000 := by omega
  clear h0 h1 h2 z0 z1 z2 hK hs2 hN2 hN hp
  go_enter Try.func54, Try.ntmps54
  go_wp2_with fail
  refine wp_loop_rounds 4 ?_
  rw [rounds_succ]
  go_wp2_with fail
  rw [rounds_succ]
  go_wp2_with fail
  rw [rounds_succ]
  go_wp2_with fail
  rw [rounds_succ]
  go_wp2_with fail
  refine HG.out.mono ?_
  rintro e w1 ⟨v1, rfl, hown, hb⟩
  have HO0 := Lib.hid hown
  have HB0 := Lib.hid hb
  have hz0 := hb.size
  have j0 : w1.cell? ⟨K, 0, none⟩ = some (.slice A0 n0 c0) := (HK.out.here hb).reads 0
  have j1 : w1.cell? ⟨K, 1, none⟩ = some (.slice A1 n1 c1) := (HK.out.here hb).reads 1
  have j2 : w1.cell? ⟨K, 2, none⟩ = some (.slice A2 n2 c2) := (HK.out.here hb).reads 2
  have HY := Lib.hid (H0.out.1.below hb)
  clear hown hb k0 k1 k2 HG ew0 ew1 ew2 d0 d1 d2
  go_wp2_with fail
  refine wp_loop_rounds 4 ?_
  rw [rounds_succ]
  go_wp2_with (at_builtin; refine app_bytes rfl _ _ rfl w.heap.size v1 0 [] rfl HO0.out A0 n0 c0 b0 rfl HY.out H0.out.2 (by have := HS.out; omega) hz0 ?_)
  intro v2 w2 hown0 hgr0
  have hb0 : Below w.heap.size w w2 := HB0.out.grown hgr0 hz0 (fun j e => (own_lt HO0.out e).1)
  have HO1 := Lib.hid hown0
  have HB1 := Lib.hid hb0
  have hz1 := hb0.size
  have i01 : w2.cell? ⟨K, 1, none⟩ = some (.slice A1 n1 c1) := (HK.out.here hb0).reads 1
  have i02 : w2.cell? ⟨K, 2, none⟩ = some (.slice A2 n2 c2) := (HK.out.here hb0).reads 2
  have HY := Lib.hid (H1.out.1.below hb0)
  clear hown0 hgr0 hb0
  go_wp2_with fail
  rw [rounds_succ]
  go_wp2_with (at_builtin; refine app_bytes rfl _ _ rfl w.heap.size v2 n0 (bvs b0) rfl HO1.out A1 n1 c1 b1 rfl HY.out H1.out.2 (by have := HS.out; omega) hz1 ?_)
  intro v3 w3 hown1 hgr1
  have hb1 : Below w.heap.size w w3 := HB1.out.grown hgr1 hz1 (fun j e => (own_lt HO1.out e).1)
  have HO2 := Lib.hid hown1
  have HB2 := Lib.hid hb1
  have hz2 := hb1.size
  have i11 : w3.cell? ⟨K, 1, none⟩ = some (.slice A1 n1 c1) := (HK.out.here hb1).reads 1
  have i12 : w3.cell? ⟨K, 2, none⟩ = some (.slice A2 n2 c2) := (HK.out.here hb1).reads 2
  have HY := Lib.hid (H2.out.1.below hb1)
  clear hown1 hgr1 hb1
  go_wp2_with fail
  rw [rounds_succ]
  go_wp2_with (at_builtin; refine app_bytes rfl _ _ rfl w.heap.size v3 (n0 + n1) (bvs b0 ++ bvs b1) rfl HO2.out A2 n2 c2 b2 rfl HY.out H2.out.2 (by have := HS.out; omega) hz2 ?_)
  intro v4 w4 hown2 hgr2
  have hb2 : Below w.heap.size w w4 := HB2.out.grown hgr2 hz2 (fun j e => (own_lt HO2.out e).1)
  have HO3 := Lib.hid hown2
  have HB3 := Lib.hid hb2
  have hz3 := hb2.size
  clear hown2 hgr2 hb2
  go_wp2_with fail
  rw [rounds_succ]
  go_wp2_with fail
  go_ret
  refine ⟨_, rfl, ?_, HB3.out⟩
  have h := HO3.out
  rw [show n0 + n1 + n2 = N by have := HS.out; omega] at h
  rw [bvs_append, bvs_append, List.append_assoc]
  exact h
end Go.Proofs.Ytnjdnldoopgcpaa
