/- PredictDoes: its walk. -/
import Derived.Test.YtjligbfijjejmaaPredDoesA
import Derived.Test.YtjligbfijjejmaaPredBackK
import Derived.Test.YtjligbfijjejmaaPredPlainM
import Derived.Deep.RegionHeld3
namespace Go.Proofs.Ytjligbfijjejmaa
open Go.RowKit

/-- All that the law's last statement reads: the parameter's box and six rows of bytes. -/
structure DK (w : World) (p : PaV) (A1 A2 A3 A4 A5 A6 : Option Addr) (n1 n3 n5 c1 c2 c3 c4 c5 c6 : Nat) (b1 b3 b5 : List Nat) (v : World) : Prop where
  box : PK w p v
  r1 : Bytes v A1 n1 c1 b1
  r2 : Bytes v A2 n1 c2 b1
  r3 : Bytes v A3 n3 c3 b3
  r4 : Bytes v A4 n3 c4 b3
  r5 : Bytes v A5 n5 c5 b5
  r6 : Bytes v A6 n5 c6 b5
section
variable {w v v' : World} {p : PaV} {A1 A2 A3 A4 A5 A6 : Option Addr} {n1 n3 n5 c1 c2 c3 c4 c5 c6 : Nat} {b1 b3 b5 : List Nat}
theorem DK.here (h : DK w p A1 A2 A3 A4 A5 A6 n1 n3 n5 c1 c2 c3 c4 c5 c6 b1 b3 b5 v) (hb : Below v.heap.size v v') : DK w p A1 A2 A3 A4 A5 A6 n1 n3 n5 c1 c2 c3 c4 c5 c6 b1 b3 b5 v' :=
  ⟨h.box.next hb, h.r1.below hb, h.r2.below hb, h.r3.below hb, h.r4.below hb, h.r5.below hb, h.r6.below hb⟩
theorem DK.drew (h : DK w p A1 A2 A3 A4 A5 A6 n1 n3 n5 c1 c2 c3 c4 c5 c6 b1 b3 b5 v) : DK w p A1 A2 A3 A4 A5 A6 n1 n3 n5 c1 c2 c3 c4 c5 c6 b1 b3 b5 v.drew := h.here (Below.refl _ _).drew
theorem DK.all (h : DK w p A1 A2 A3 A4 A5 A6 n1 n3 n5 c1 c2 c3 c4 c5 c6 b1 b3 b5 v) : v.cell? ⟨w.heap.size, 0, none⟩ = some (.int .i64 p.pr) ∧ v.cell? ⟨w.heap.size, 1, none⟩ = some (.int .i64 p.co) ∧ v.cell? ⟨w.heap.size, 2, none⟩ = some (.int .i64 p.bi) ∧ v.cell? ⟨w.heap.size, 3, none⟩ = some (.int .i64 p.cl) ∧ (convert 24 9 (.slice A1 n1 c1)).run Try.prog v = .ok (.string (strB b1)) v ∧ (convert 24 9 (.slice A2 n1 c2)).run Try.prog v = .ok (.string (strB b1)) v ∧ (convert 24 9 (.slice A3 n3 c3)).run Try.prog v = .ok (.string (strB b3)) v ∧ (convert 24 9 (.slice A4 n3 c4)).run Try.prog v = .ok (.string (strB b3)) v ∧ (convert 24 9 (.slice A5 n5 c5)).run Try.prog v = .ok (.string (strB b5)) v ∧ (convert 24 9 (.slice A6 n5 c6)).run Try.prog v = .ok (.string (strB b5)) v :=
  ⟨h.box.cells.1, h.box.cells.2.1, h.box.cells.2.2.1, h.box.cells.2.2.2.1, h.r1.str, h.r2.str, h.r3.str, h.r4.str, h.r5.str, h.r6.str⟩
end
theorem refrow_any (p : PaV) (w : World) : Calls Try.prog 16 #[p.val] w fun e w' => e = .returned (.int .i64 (rowV p)) ∧ Below w.heap.size w w' := by
  unfold rowV
  by_cases h : p.Ok
  · rw [if_pos h]; exact refrow_ok p w h
  · rw [if_neg h]; exact refrow_bad p w h
set_option maxRecDepth 100000 in
set_option maxHeartbeats 4000000 in
theorem does_law (p : PaV) (tag : Int) (A : Option Addr) (n c : Nat) (bs : List Nat) (w : World) (h : Bytes w A n c bs) :
    Calls Try.prog 3 #[p.val, .int .i64 tag, .slice A n c] w (True_ w) := by
  by_cases g1 : 500 < n
  · go_enter Try.func3, Try.ntmps3
    go_wp2
    go_ret
    exact ⟨rfl, by (repeat (first | with_reducible exact Below.refl _ _ | with_reducible refine Below.drew ?_ | with_reducible refine bdrewN ?_ _ | (with_reducible refine Below.setCell ?_ ?_ _; rotate_left; focus (first | exact Nat.le_refl _ | omega | (simp; omega) | (simp; done))) | (with_reducible refine Below.alloc ?_ ?_ _; rotate_left; focus (first | exact Nat.le_refl _ | omega | (simp; omega) | (simp; done))) | (with_reducible refine Below.trans ?_ (Below.mono (by assumption) ?_); rotate_left; focus (first | exact Nat.le_refl _ | omega | (simp; omega) | (simp; done)))))⟩
  have H := Lib.hid h
  clear h
  obtain ⟨E1, L1, hu⟩ : ∃ E L, undoS p bs = (E, L) := ⟨_, _, rfl⟩
  obtain ⟨E2, L2, hd⟩ : ∃ E L, doS p tag bs = (E, L) := ⟨_, _, rfl⟩
  have HU := Lib.hid (And.intro hu hd)
  clear hu hd
  go_enter Try.func3, Try.ntmps3
  have K0 := Lib.hid (PK.made w p)
  go_wp2_with fail
  refine (own_any bs n c A _ (H.out.below K0.out.2) (by omega)).mono ?_
  rintro e w1 ⟨A1, c1, rfl, hy1, hb1⟩
  have K1 := Lib.hid (K0.out.next hb1)
  have Y1 := Lib.hid hy1
  obtain ⟨k0, k1, k2, k3, k4⟩ := K1.out.cells
  clear hy1 hb1 K0
  go_wp2_with fail
  refine (undo_any p A1 n c1 bs w1 Y1.out).mono ?_
  rintro e w2 ⟨A3, c3, rfl, hy3, hb3⟩
  rw [HU.out.1] at hy3 ⊢
  have K2 := Lib.hid (K1.out.next hb3)
  have Y3 := Lib.hid (And.intro hy3 (Y1.out.below hb3))
  clear hy3 hb3 k0 k1 k2 k3 k4
  obtain ⟨k0, k1, k2, k3, k4⟩ := K2.out.cells
  go_wp2_with fail
  refine (refundo_any p A n c bs w2 (H.out.below K2.out.2) (by omega)).mono ?_
  rintro e w3 ⟨A4, c4, rfl, hy4, hb4⟩
  rw [HU.out.1] at hy4 ⊢
  have K3 := Lib.hid (K2.out.next hb4)
  have Y4 := Lib.hid (And.intro hy4 (And.intro (Y3.out.1.below hb4) (Y3.out.2.below hb4)))
  clear hy4 hb4 k0 k1 k2 k3 k4
  obtain ⟨k0, k1, k2, k3, k4⟩ := K3.out.cells
  go_wp2_with fail
  refine (do_any p tag A1 n c1 bs w3 Y4.out.2.2).mono ?_
  rintro e w4 ⟨A5, c5, rfl, hy5, hb5⟩
  rw [HU.out.2] at hy5 ⊢
  have K4 := Lib.hid (K3.out.next hb5)
  have Y5 := Lib.hid (And.intro hy5 (And.intro (Y4.out.1.below hb5) (And.intro (Y4.out.2.1.below hb5) (Y4.out.2.2.below hb5))))
  clear hy5 hb5 k0 k1 k2 k3 k4
  obtain ⟨k0, k1, k2, k3, k4⟩ := K4.out.cells
  go_wp2_with fail
  refine (refdo_any p tag A n c bs w4 (H.out.below K4.out.2) (by omega)).mono ?_
  rintro e w5 ⟨A6, c6, rfl, hy6, hb6⟩
  rw [HU.out.2] at hy6 ⊢
  have HH : DK w p A1 A A3 A4 A5 A6 n L1.length L2.length c1 c c3 c4 c5 c6 bs L1 L2 w5 := ⟨K4.out.next hb6, Y5.out.2.2.2.below hb6, H.out.below (K4.out.next hb6).2, Y5.out.2.2.1.below hb6, Y5.out.2.1.below hb6, Y5.out.1.below hb6, hy6⟩
  clear hy6 hb6 k0 k1 k2 k3 k4 K1 K2 K3 K4 Y1 Y3 Y4 Y5
  go_wp2_with fail
  have hl := HH.box.cells.2.2.2.2
  go_region_held3 (fun v => v.cell? ⟨w.heap.size, 0, none⟩ = some (.int .i64 p.pr) ∧ v.cell? ⟨w.heap.size, 1, none⟩ = some (.int .i64 p.co) ∧ v.cell? ⟨w.heap.size, 2, none⟩ = some (.int .i64 p.bi) ∧ v.cell? ⟨w.heap.size, 3, none⟩ = some (.int .i64 p.cl) ∧ (convert 24 9 (.slice A1 n c1)).run Try.prog v = .ok (.string (strB bs)) v ∧ (convert 24 9 (.slice A n c)).run Try.prog v = .ok (.string (strB bs)) v ∧ (convert 24 9 (.slice A3 L1.length c3)).run Try.prog v = .ok (.string (strB L1)) v ∧ (convert 24 9 (.slice A4 L1.length c4)).run Try.prog v = .ok (.string (strB L1)) v ∧ (convert 24 9 (.slice A5 L2.length c5)).run Try.prog v = .ok (.string (strB L2)) v ∧ (convert 24 9 (.slice A6 L2.length c6)).run Try.prog v = .ok (.string (strB L2)) v)
    (first | with_reducible exact DK.all HH | with_reducible exact DK.all (DK.drew HH))
    (first
      | (go_at_call 12; refine (awake_any _).mono ?_; rintro e v ⟨rfl, kk⟩; (first | (with_reducible have HH := DK.here (DK.drew HH) kk) | (with_reducible have HH := DK.here HH kk)))
      | (go_at_call 13; (with_reducible refine (check_any p _).mono ?_); rintro e v ⟨rfl, kk⟩; (first | (with_reducible have HH := DK.here (DK.drew HH) kk) | (with_reducible have HH := DK.here HH kk)))
      | (go_at_call 14; (with_reducible refine (refcheck_any p _).mono ?_); rintro e v ⟨rfl, kk⟩; (first | (with_reducible have HH := DK.here (DK.drew HH) kk) | (with_reducible have HH := DK.here HH kk)))
      | (go_at_call 15; (with_reducible refine (row_any p _).mono ?_); rintro e v ⟨rfl, kk⟩; (first | (with_reducible have HH := DK.here (DK.drew HH) kk) | (with_reducible have HH := DK.here HH kk)))
      | (go_at_call 16; (with_reducible refine (refrow_any p _).mono ?_); rintro e v ⟨rfl, kk⟩; (first | (with_reducible have HH := DK.here (DK.drew HH) kk) | (with_reducible have HH := DK.here HH kk))))
  all_goals
    go_wp2_with fail
    go_ret
    first | exact ⟨rfl, HH.box.2⟩ | exact ⟨rfl, HH.box.2.drew⟩
end Go.Proofs.Ytjligbfijjejmaa
