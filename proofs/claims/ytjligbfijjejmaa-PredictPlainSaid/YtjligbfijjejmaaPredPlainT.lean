/- The walk of PredictPlain. -/
import Derived.Test.YtjligbfijjejmaaPredX
import Derived.Test.YtjligbfijjejmaaPredBackK
import Derived.Test.YtjligbfijjejmaaPredPlainM
import Derived.Test.YtjligbfijjejmaaLaidGen
namespace Go.Proofs.Ytjligbfijjejmaa
open Go.RowKit

/-- Both boxes stand; nothing from before has turned. -/
def PQ (w : World) (p : PaV) (x : Int) (B : Nat) (W : World) : Prop := Whole W w.heap.size 23 #[.int .i64 p.pr, .int .i64 p.co, .int .i64 p.bi, .int .i64 p.cl] ∧ Whole W B 23 #[.int .i64 x, .int .i64 p.co, .int .i64 p.bi, .int .i64 p.cl] ∧ Below w.heap.size w W ∧ w.heap.size < B
theorem PQ.next {w W W' : World} {p : PaV} {x : Int} {B : Nat} (h : PQ w p x B W) (hb : Below W.heap.size W W') : PQ w p x B W' := ⟨h.1.here hb, h.2.1.here hb, h.2.2.1.trans (hb.mono h.2.2.1.size), h.2.2.2⟩
theorem PQ.alloc {w W : World} {p : PaV} {x : Int} {B : Nat} (h : PQ w p x B W) (o : Obj) : PQ w p x B (W.alloc o) := h.next ((Below.refl _ _).alloc (Nat.le_refl _) o)
theorem PQ.drewN {w W : World} {p : PaV} {x : Int} {B : Nat} (h : PQ w p x B W) (n : Nat) : PQ w p x B (W.drewN n) := ⟨h.1.drawn n, h.2.1.drawn n, below_drewN h.2.2.1 n, h.2.2.2⟩
theorem PQ.drew {w W : World} {p : PaV} {x : Int} {B : Nat} (h : PQ w p x B W) : PQ w p x B W.drew := h.drewN 1
theorem PQ.set {w W : World} {p : PaV} {x : Int} {B : Nat} (h : PQ w p x B W) (y : Int) : PQ w p y B (W.setCell ⟨B, 0, none⟩ (.int .i64 y)) :=
  ⟨h.1.away (p := ⟨B, 0, none⟩) (Nat.ne_of_lt h.2.2.2) _, h.2.1.set 0 _, h.2.2.1.setCell (p := ⟨B, 0, none⟩) (Nat.le_of_lt h.2.2.2) _, h.2.2.2⟩
theorem PQ.cells {w W : World} {p : PaV} {x : Int} {B : Nat} (h : PQ w p x B W) : W.cell? ⟨B, 0, none⟩ = some (.int .i64 x) ∧ W.cell? ⟨B, 1, none⟩ = some (.int .i64 p.co) ∧ W.cell? ⟨B, 2, none⟩ = some (.int .i64 p.bi) ∧ W.cell? ⟨B, 3, none⟩ = some (.int .i64 p.cl) ∧ B < W.heap.size :=
  ⟨h.2.1.reads 0, h.2.1.reads 1, h.2.1.reads 2, h.2.1.reads 3, h.2.1.lt⟩
theorem later_made {W v : World} {o : Obj} (hb : Below (W.alloc o).heap.size (W.alloc o) v) : Below W.heap.size W v := ((Below.refl _ _).alloc (Nat.le_refl _) o).trans (hb.mono (by simp))
/-- A store where no byte lies keeps bytes. -/
theorem Bytes.set_off {w : World} {A : Option Addr} {n c : Nat} {bs : List Nat} (h : Bytes w A n c bs) {B o : Nat} {x : Int} (hB : w.cell? ⟨B, o, none⟩ = some (.int .i64 x)) (v : Value) : Bytes (w.setCell ⟨B, o, none⟩ v) A n c bs :=
  ⟨h.len, h.cap, h.top, h.byte, fun hn => by
    obtain ⟨R, k, e, hR, hc⟩ := h.at_ hn
    refine ⟨R, k, e, by simpa using hR, fun i b hb => ?_⟩
    have hx := hc i b hb
    have hne : (⟨R, k + i, none⟩ : Addr) ≠ ⟨B, o, none⟩ := fun e => by rw [e, hB] at hx; cases hx
    rw [World.cell?_setCell_other _ _ _ _ (by first | exact hne | exact hne.symm)]
    exact hx⟩
theorem zero_call {p : PaV} {K T B : Nat} {Y : List Nat} {W : World} (hd : doS ⟨10, p.co, p.bi, p.cl⟩ (T : Int) (List.replicate K 0) = (0, Y)) (hS : C4 W B ⟨10, p.co, p.bi, p.cl⟩) (hB : B < W.heap.size) (hK : K ≤ 100000000) {L : Nat} (hL : Y.length = L) :
    ∀ (V : World), (V = W.alloc (.cells (bvs (List.replicate K 0)).toArray 5) ∨ V = (W.alloc (.cells (bvs (List.replicate K 0)).toArray 5)).drew) → Calls Try.prog 10 #[.agg #[.int .i64 10, .int .i64 p.co, .int .i64 p.bi, .int .i64 p.cl], .int .i64 (T : Int), .slice (some ⟨W.heap.size, 0, none⟩) K K] V fun e v => ∃ A' c', e = .returned (.tuple #[.slice A' L c', .int .i64 0]) ∧ C4 v B ⟨10, p.co, p.bi, p.cl⟩ ∧ Hid (Bytes v A' L c' Y ∧ Below W.heap.size W v) := fun V hV => by
  subst hL
  have hz : Bytes V (some ⟨W.heap.size, 0, none⟩) K K (List.replicate K 0) := by
    rcases hV with rfl | rfl
    · exact zero_bytes W K (by omega)
    · exact (zero_bytes W K (by omega)).drewN 1
  have := do_any ⟨10, p.co, p.bi, p.cl⟩ (T : Int) _ _ _ _ _ hz
  rw [hd] at this
  refine this.mono ?_
  rintro e v ⟨A', c', rfl, hy, hb⟩
  have hb' : Below W.heap.size W v := by
    rcases hV with rfl | rfl
    · exact later_made hb
    · exact later_made (undrew hb)
  exact ⟨A', c', rfl, C4.later hS hB hb', Lib.hid ⟨hy, hb'⟩⟩
set_option maxRecDepth 100000 in
set_option maxHeartbeats 8000000 in
theorem plain_main (p : PaV) (A : Option Addr) (c : Nat) (bs : List Nat) (M T : Nat) (w : World) (HB : Hid (Bytes w A bs.length c bs)) (hlen : bs.length ≤ 2000) (hM : M ≤ 20) (hT : T ≤ 4) (HK : Hid (p.Ok ∧ p.E = 0)) (hn1 : 1 ≤ p.n) (hn2 : p.n ≤ 200) :
    Calls Try.prog 5 #[p.val, .slice A bs.length c, .int .i64 (M : Int), .int .i64 (T : Int)] w (True_ w) := by
  obtain ⟨K, hK⟩ : ∃ K, M * p.n = K := ⟨_, rfl⟩
  have hK4 : K ≤ 4000 := by rw [← hK]; exact Nat.mul_le_mul hM hn2
  have hmul : IntKind.i64.wrap ((M : Int) * (p.n : Int)) = ((K : Nat) : Int) := by
    have e : (M : Int) * (p.n : Int) = ((K : Nat) : Int) := by rw [← hK]; push_cast; rfl
    rw [e]
    exact IntWalk.i64_in _ (by omega)
  have hd0 := plain_do (T := 0) HK.out.1 hn2 hM (by omega)
  have hdT := plain_do (T := T) HK.out.1 hn2 hM hT
  have hu := plain_undo HK.out.1 hlen
  have hz0 := zdoN (n := p.n) (s := p.s) (T := 0) (M := M) M (Nat.le_refl _)
  have hzT := zdoN (n := p.n) (s := p.s) (T := T) (M := M) M (Nat.le_refl _)
  have hl0 := doN_len 1 p.n p.s 0 (List.replicate (M * p.n) 0) M
  have hlT := doN_len 1 p.n p.s T (List.replicate (M * p.n) 0) M
  rw [hK] at hd0 hdT hz0 hzT hl0 hlT
  obtain ⟨Y, hY⟩ : ∃ Y, doN 1 p.n p.s 0 (List.replicate K 0) M = Y := ⟨_, rfl⟩
  obtain ⟨Z, hZ⟩ : ∃ Z, doN 1 p.n p.s T (List.replicate K 0) M = Z := ⟨_, rfl⟩
  rw [hY] at hd0 hz0 hl0
  rw [hZ] at hdT hzT hlT
  obtain ⟨L, hL⟩ : ∃ L, M * (1 + p.n) = L := ⟨_, rfl⟩
  have hL4 : L ≤ 4020 := by rw [← hL, Nat.mul_add, hK]; omega
  have hmulL : IntKind.i64.wrap ((M : Int) * ((p.n : Int) + 1)) = ((L : Nat) : Int) := by
    have e : (M : Int) * ((p.n : Int) + 1) = ((L : Nat) : Int) := by rw [← hL]; push_cast; rw [Int.add_comm 1]
    rw [e]
    exact IntWalk.i64_in _ (by omega)
  rw [hL] at hz0 hzT hl0 hlT
  have hr : rowV p = (p.n : Int) := if_pos HK.out.1
  have hmk := make_bytes K K (Nat.le_refl _) (by omega)
  have HD := Lib.hid (And.intro hd0 (And.intro hdT (And.intro hu (And.intro hz0 (And.intro hzT (And.intro hl0 (And.intro hlT hr)))))))
  clear hd0 hdT hu hz0 hzT hl0 hlT hr hY hZ hL hK
  have d1 : decide (2000 < (bs.length : Int)) = false := decide_eq_false (by omega)
  have d2 : decide ((M : Int) < 0) = false := decide_eq_false (by omega)
  have d3 : decide (20 < (M : Int)) = false := decide_eq_false (by omega)
  have d4 : decide (200 < (p.n : Int)) = false := decide_eq_false (by omega)
  have d5 : decide ((T : Int) < 0) = false := decide_eq_false (by omega)
  have d6 : decide (4 < (T : Int)) = false := decide_eq_false (by omega)
  have d7 : decide ((p.n : Int) < 1) = false := decide_eq_false (by omega)
  go_enter Try.func5, Try.ntmps5
  go_wp2_with fail
  refine (row_any p _).mono ?_
  rintro e w1 ⟨rfl, hb1⟩
  rw [HD.out.2.2.2.2.2.2.2]
  have hp1 := (PK.made w p).next hb1
  obtain ⟨k0, k1, k2, k3, k4⟩ := hp1.cells
  have H1 := Lib.hid hp1
  clear hp1 hb1
  go_wp2_with fail
  refine (check_any p _).mono ?_
  clear k0 k1 k2 k3 k4
  rintro e w2 ⟨rfl, hb2⟩
  rw [HK.out.2]
  have hp2 := H1.out.next hb2
  obtain ⟨k0, k1, k2, k3, k4⟩ := hp2.cells
  have H2 := Lib.hid hp2
  clear hp2 hb2
  go_wp2_with fail
  have hq3 : PQ w p 1 w2.heap.size (w2.alloc (.cells #[.int .i64 1, .int .i64 p.co, .int .i64 p.bi, .int .i64 p.cl] 23)) := ⟨H2.out.1.old _, Whole.made _ _ _, (H2.out.2.alloc H2.out.2.size _), H2.out.1.lt⟩
  have HQ3 := Lib.hid hq3
  clear hq3
  have Q := undo_any ⟨1, p.co, p.bi, p.cl⟩ A _ c bs _ (HB.out.below HQ3.out.2.2.1)
  rw [HD.out.2.2.1] at Q
  refine Q.mono ?_
  clear Q k0 k1 k2 k3 k4
  rintro e w3 ⟨A3, c3, rfl, hy3, hb3⟩
  have hq4 := HQ3.out.next hb3
  obtain ⟨k0, k1, k2, k3, k4⟩ := hq4.cells
  have k5 := hq4.2.1.thawed 0
  have hy3' : Bytes w3 A3 bs.length c3 bs := hy3
  have hy4 : Bytes (w3.setCell ⟨w2.heap.size, 0, none⟩ (.int .i64 10)) A3 bs.length c3 bs := Bytes.set_off hy3' k0 _
  have H3 := Lib.hid (And.intro hy3' hq4)
  have H4 := Lib.hid (And.intro hy4 (hq4.set 10))
  clear hy3 hy3' hy4 hq4 hb3
  go_wp2_with fail
  go_upto_region 8 with fail
  generalize w3.setCell ⟨w2.heap.size, 0, none⟩ (.int .i64 10) = W4 at *
  clear k0 k1 k2 k3 k4 k5
  obtain ⟨k0, k1, k2, k3, k4⟩ := H4.out.2.cells
  have hS : C4 W4 w2.heap.size ⟨10, p.co, p.bi, p.cl⟩ := ⟨k0, k1, k2, k3⟩
  have do0 := zero_call HD.out.1 hS k4 (by omega) HD.out.2.2.2.2.2.1
  have DO := Lib.hid do0
  clear do0
  go_region_held3 (fun v => v.cell? ⟨w2.heap.size, 0, none⟩ = some (.int .i64 10) ∧ v.cell? ⟨w2.heap.size, 1, none⟩ = some (.int .i64 p.co) ∧ v.cell? ⟨w2.heap.size, 2, none⟩ = some (.int .i64 p.bi) ∧ v.cell? ⟨w2.heap.size, 3, none⟩ = some (.int .i64 p.cl)) (first | with_reducible assumption | with_reducible exact hS | with_reducible exact hS4 | with_reducible exact C4.later hS k4 (Below.alloc (Below.refl _ _) (Nat.le_refl _) _) | go_keep)
    (first | (go_at_call 10; (first | refine (DO.out _ (.inl rfl)).mono ?_ | refine (DO.out _ (.inr rfl)).mono ?_); rintro e v ⟨A4, c4, rfl, hS4, H5⟩))
  clear DO k0 k1 k2 k3 k4 hS hS4
  go_upto_region 9 with fail
  have hq5 := H4.out.2.next H5.out.2
  obtain ⟨k0, k1, k2, k3, k4⟩ := hq5.cells
  have H4b := Lib.hid (And.intro (H4.out.1.below H5.out.2) hq5)
  clear hq5 H4 H3
  have hS : C4 v w2.heap.size ⟨10, p.co, p.bi, p.cl⟩ := ⟨k0, k1, k2, k3⟩
  have do1 := zero_call HD.out.2.1 hS k4 (by omega) HD.out.2.2.2.2.2.2.1
  have DO := Lib.hid do1
  clear do1
  go_region_held3 (fun u => u.cell? ⟨w2.heap.size, 0, none⟩ = some (.int .i64 10) ∧ u.cell? ⟨w2.heap.size, 1, none⟩ = some (.int .i64 p.co) ∧ u.cell? ⟨w2.heap.size, 2, none⟩ = some (.int .i64 p.bi) ∧ u.cell? ⟨w2.heap.size, 3, none⟩ = some (.int .i64 p.cl)) (first | with_reducible assumption | with_reducible exact hS | with_reducible exact hS5 | with_reducible exact C4.later hS k4 (Below.alloc (Below.refl _ _) (Nat.le_refl _) _) | go_keep)
    (first | (go_at_call 10; (first | refine (DO.out _ (.inl rfl)).mono ?_ | refine (DO.out _ (.inr rfl)).mono ?_); rintro e u ⟨A5, c5, rfl, hS5, H6⟩))
  clear DO k0 k1 k2 k3 k4 hS hS5
  have HA := Lib.hid (And.intro (HB.out.below (H4b.out.2.next H6.out.2).2.2.1) (And.intro (H4b.out.1.below H6.out.2) (And.intro (H5.out.1.below H6.out.2) (And.intro H6.out.1 (H4b.out.2.next H6.out.2).2.2.1))))
  go_wp2_with fail
  go_loopw [17] (fun iv wq => ∃ i : Nat, i ≤ L ∧ iv = .int .i64 (i : Nat) ∧ Below u.heap.size u wq) (fun iv _ => L - (intOf iv).toNat)
  case atStart => exact ⟨0, by omega, rfl, by (repeat (first | with_reducible exact Below.refl _ _ | with_reducible refine Below.drew ?_ | with_reducible refine bdrewN ?_ _ | (with_reducible refine Below.setCell ?_ ?_ _; rotate_left; focus (first | exact Nat.le_refl _ | omega | (simp; omega) | (simp; done))) | (with_reducible refine Below.alloc ?_ ?_ _; rotate_left; focus (first | exact Nat.le_refl _ | omega | (simp; omega) | (simp; done))) | (with_reducible refine Below.trans ?_ (Below.mono (by assumption) ?_); rotate_left; focus (first | exact Nat.le_refl _ | omega | (simp; omega) | (simp; done)))))⟩
  case round =>
    obtain ⟨i, hi, rfl, hbi⟩ := hrel
    have HI := Lib.hid hbi
    clear hbi
    by_cases hil : i < L
    · have hy := HD.out.2.2.2.1 i hil
      have hz := HD.out.2.2.2.2.1 i hil
      obtain ⟨R, o, rfl, hR, hc⟩ := (HA.out.2.2.1.below HI.out).at_ (by omega)
      have gy := hc i _ hy
      obtain ⟨R3, o3, rfl, hR3, hc3⟩ := (HA.out.2.2.2.1.below HI.out).at_ (by omega)
      have gz := hc3 i _ hz
      clear hc hc3 hy hz
      obtain ⟨j, hj⟩ : ∃ j, i % (p.n + 1) = j := ⟨_, rfl⟩
      have hrem : (i : Int) % ((p.n : Int) + 1) = (j : Int) := by rw [← hj]; push_cast; rfl
      unfold zM at gy gz
      rw [hj] at gy gz
      rw [show (if j = 0 then 0 else 0) = 0 from by split <;> rfl] at gy
      clear hj
      rcases Nat.eq_zero_or_pos j with hj0 | hj0
      · subst hj0
        rw [if_pos rfl] at gz
        rcases Nat.eq_zero_or_pos T with hT0 | hT0
        · subst hT0
          go_wp2_with fail
          exact ⟨⟨i + 1, by omega, by go_num, HI.out⟩, by simp [intOf]; omega⟩
        · have hT1 : ((T : Int) != 0) = true := by simp; omega
          go_wp2_with fail
          exact ⟨⟨i + 1, by omega, by go_num, HI.out⟩, by simp [intOf]; omega⟩
      · rw [if_neg (by omega)] at gz
        go_wp2_with fail
        exact ⟨⟨i + 1, by omega, by go_num, HI.out⟩, by simp [intOf]; omega⟩
    · obtain rfl : i = L := by omega
      go_wp2_with fail
      refine (awake_any _).mono ?_
      rintro e w7 ⟨rfl, hb7⟩
      have hb8 := HI.out.trans (hb7.mono HI.out.size)
      have hs1 := (HA.out.2.1.below hb8).str
      have hs2 := (HA.out.1.below hb8).str
      have H7 := Lib.hid (HA.out.2.2.2.2.trans (hb8.mono HA.out.2.2.2.2.size))
      clear hb7 hb8
      go_wp2
      go_ret
      exact ⟨rfl, H7.out⟩
end Go.Proofs.Ytjligbfijjejmaa
