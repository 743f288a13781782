/- The document's examples of box: awake answers true. -/
import Derived.Test.YtpdjooeogpidhaaBoxMapD
namespace Go.Proofs.Ytpdjooeogpidhaa
open Go.RowKit Dec

theorem whole3_any (a b c d : Int) (w : World) :
    Calls Try.prog 44 #[.int .i64 a, .int .i64 b, .int .i64 c, .int .i64 d] w fun e w' => e = .returned (.agg #[.int .i64 a, .int .i64 0, .int .i64 b, .int .i64 0, .int .i64 c, .int .i64 0, .int .i64 d, .int .i64 0]) ∧ Below w.heap.size w w' := by
  go_enter Try.func44, Try.ntmps44
  go_wp2
  exact bodyPost_ret (v := .agg #[.int .i64 a, .int .i64 0, .int .i64 b, .int .i64 0, .int .i64 c, .int .i64 0, .int .i64 d, .int .i64 0]) (by simp [results, Try.results44, go_sem]) rfl ⟨rfl, (Below.refl _ _).alloc (Nat.le_refl _) _⟩
theorem aw_meets1 (w : World) :
    Calls Try.prog 18 #[.agg #[.int .i64 0, .int .i64 0, .int .i64 0, .int .i64 0, .int .i64 1, .int .i64 0, .int .i64 1, .int .i64 0], .agg #[.int .i64 1, .int .i64 0, .int .i64 1, .int .i64 0, .int .i64 2, .int .i64 0, .int .i64 2, .int .i64 0]] w fun e w' => e = .returned (.tuple #[.bool true, .int .i64 0]) ∧ Below w.heap.size w w' :=
  meets_any ⟨⟨0, 0⟩, ⟨0, 0⟩, ⟨1, 0⟩, ⟨1, 0⟩⟩ ⟨⟨1, 0⟩, ⟨1, 0⟩, ⟨2, 0⟩, ⟨2, 0⟩⟩ w true 0 (.inl ⟨by decide, by decide, by decide, rfl⟩)
theorem aw_meets2 (w : World) :
    Calls Try.prog 18 #[.agg #[.int .i64 0, .int .i64 0, .int .i64 0, .int .i64 0, .int .i64 1, .int .i64 0, .int .i64 1, .int .i64 0], .agg #[.int .i64 11, .int .i64 1, .int .i64 0, .int .i64 0, .int .i64 2, .int .i64 0, .int .i64 2, .int .i64 0]] w fun e w' => e = .returned (.tuple #[.bool false, .int .i64 0]) ∧ Below w.heap.size w w' :=
  meets_any ⟨⟨0, 0⟩, ⟨0, 0⟩, ⟨1, 0⟩, ⟨1, 0⟩⟩ ⟨⟨11, 1⟩, ⟨0, 0⟩, ⟨2, 0⟩, ⟨2, 0⟩⟩ w false 0 (.inl ⟨by decide, by decide, by decide, rfl⟩)
def awQ (i : Nat) : PV := match i with | 0 => ⟨⟨0, 0⟩, ⟨0, 0⟩⟩ | 1 => ⟨⟨0, 0⟩, ⟨2, 0⟩⟩ | 2 => ⟨⟨-1, 0⟩, ⟨0, 0⟩⟩ | _ => ⟨⟨-1, 0⟩, ⟨2, 0⟩⟩
abbrev awM : MV := ⟨⟨0, 0⟩, ⟨1, 0⟩, ⟨-1, 0⟩, ⟨0, 0⟩, ⟨0, 0⟩, ⟨0, 0⟩⟩
abbrev awB : BV := ⟨⟨0, 0⟩, ⟨0, 0⟩, ⟨2, 0⟩, ⟨1, 0⟩⟩
theorem aw_c0 : MapIs awM ⟨⟨0, 0⟩, ⟨0, 0⟩⟩ ⟨⟨0, 0⟩, ⟨0, 0⟩⟩ 0 :=
  .mk (by decide) (by decide) (.mk (p := ⟨0, 0⟩) (q := ⟨0, 0⟩) (t := ⟨0, 0⟩) (by decide) (by decide) (by decide) (by decide) (by decide) (by decide) (.sum (by decide) (by decide)))
    (.mk (p := ⟨0, 0⟩) (q := ⟨0, 0⟩) (t := ⟨0, 0⟩) (by decide) (by decide) (by decide) (by decide) (by decide) (by decide) (.sum (by decide) (by decide)))
theorem aw_c1 : MapIs awM ⟨⟨2, 0⟩, ⟨0, 0⟩⟩ ⟨⟨0, 0⟩, ⟨2, 0⟩⟩ 0 :=
  .mk (by decide) (by decide) (.mk (p := ⟨0, 0⟩) (q := ⟨0, 0⟩) (t := ⟨0, 0⟩) (by decide) (by decide) (by decide) (by decide) (by decide) (by decide) (.sum (by decide) (by decide)))
    (.mk (p := ⟨2, 0⟩) (q := ⟨0, 0⟩) (t := ⟨2, 0⟩) (by decide) (by decide) (by decide) (by decide) (by decide) (by decide) (.sum (by decide) (by decide)))
theorem aw_c2 : MapIs awM ⟨⟨0, 0⟩, ⟨1, 0⟩⟩ ⟨⟨-1, 0⟩, ⟨0, 0⟩⟩ 0 :=
  .mk (by decide) (by decide) (.mk (p := ⟨0, 0⟩) (q := ⟨-1, 0⟩) (t := ⟨-1, 0⟩) (by decide) (by decide) (by decide) (by decide) (by decide) (by decide) (.sum (by decide) (by decide)))
    (.mk (p := ⟨0, 0⟩) (q := ⟨0, 0⟩) (t := ⟨0, 0⟩) (by decide) (by decide) (by decide) (by decide) (by decide) (by decide) (.sum (by decide) (by decide)))
theorem aw_c3 : MapIs awM ⟨⟨2, 0⟩, ⟨1, 0⟩⟩ ⟨⟨-1, 0⟩, ⟨2, 0⟩⟩ 0 :=
  .mk (by decide) (by decide) (.mk (p := ⟨0, 0⟩) (q := ⟨-1, 0⟩) (t := ⟨-1, 0⟩) (by decide) (by decide) (by decide) (by decide) (by decide) (by decide) (.sum (by decide) (by decide)))
    (.mk (p := ⟨2, 0⟩) (q := ⟨0, 0⟩) (t := ⟨2, 0⟩) (by decide) (by decide) (by decide) (by decide) (by decide) (by decide) (.sum (by decide) (by decide)))
theorem awQ_of : OfIs awQ 4 ⟨⟨-1, 0⟩, ⟨0, 0⟩, ⟨0, 0⟩, ⟨2, 0⟩⟩ 0 := by
  refine .inr (.inr ⟨by omega, fun i hi => ?_, ?_, rfl⟩)
  · rcases (by omega : i = 0 ∨ i = 1 ∨ i = 2 ∨ i = 3) with rfl | rfl | rfl | rfl <;> decide
  · rfl
theorem aw_bmap (w : World) :
    Calls Try.prog 22 #[.agg #[.int .i64 0, .int .i64 0, .int .i64 1, .int .i64 0, .int .i64 (-1), .int .i64 0, .int .i64 0, .int .i64 0, .int .i64 0, .int .i64 0, .int .i64 0, .int .i64 0], .agg #[.int .i64 0, .int .i64 0, .int .i64 0, .int .i64 0, .int .i64 2, .int .i64 0, .int .i64 1, .int .i64 0]] w
      fun e w' => e = .returned (.tuple #[.agg #[.int .i64 (-1), .int .i64 0, .int .i64 0, .int .i64 0, .int .i64 0, .int .i64 0, .int .i64 2, .int .i64 0], .int .i64 0]) ∧ Below w.heap.size w w' :=
  bmap_ok awM awB ⟨⟨-1, 0⟩, ⟨0, 0⟩, ⟨0, 0⟩, ⟨2, 0⟩⟩ awQ w (Lib.hid (by decide)) (Lib.hid (by decide)) (Lib.hid fun i hi => by
    rcases (by omega : i = 0 ∨ i = 1 ∨ i = 2 ∨ i = 3) with rfl | rfl | rfl | rfl
    · exact aw_c0
    · exact aw_c1
    · exact aw_c2
    · exact aw_c3) (Lib.hid awQ_of)

abbrev C8 (w : World) (B : Nat) (x0 x1 x2 x3 x4 x5 x6 x7 : Int) : Prop := w.cell? ⟨B, 0, none⟩ = some (.int .i64 x0) ∧ w.cell? ⟨B, 1, none⟩ = some (.int .i64 x1) ∧ w.cell? ⟨B, 2, none⟩ = some (.int .i64 x2) ∧ w.cell? ⟨B, 3, none⟩ = some (.int .i64 x3) ∧ w.cell? ⟨B, 4, none⟩ = some (.int .i64 x4) ∧ w.cell? ⟨B, 5, none⟩ = some (.int .i64 x5) ∧ w.cell? ⟨B, 6, none⟩ = some (.int .i64 x6) ∧ w.cell? ⟨B, 7, none⟩ = some (.int .i64 x7)
theorem C8.later {w w' : World} {B : Nat} {x0 x1 x2 x3 x4 x5 x6 x7 : Int} (h : C8 w B x0 x1 x2 x3 x4 x5 x6 x7) (hb : Below w.heap.size w w') : C8 w' B x0 x1 x2 x3 x4 x5 x6 x7 := by
  obtain ⟨a0, a1, a2, a3, a4, a5, a6, a7⟩ := h
  exact ⟨cell_later' hb a0, cell_later' hb a1, cell_later' hb a2, cell_later' hb a3, cell_later' hb a4, cell_later' hb a5, cell_later' hb a6, cell_later' hb a7⟩
set_option maxRecDepth 100000 in
set_option maxHeartbeats 8000000 in
theorem bawake_any (w : World) :
    Calls Try.prog 24 #[] w fun e w' => e = .returned (.bool true) ∧ Below w.heap.size w w' := by
  go_enter Try.func24, Try.ntmps24
  go_wp2_with fail
  refine (whole3_any 0 0 1 1 _).mono ?_
  rintro e w1 ⟨rfl, hb⟩
  have HB := Lib.hid hb
  clear hb
  go_wp2_with fail
  refine (whole3_any 1 1 2 2 _).mono ?_
  rintro e w2 ⟨rfl, k⟩
  have HB := Lib.hid (HB.out.trans (k.mono HB.out.size))
  clear k
  go_wp2_with fail
  refine (aw_meets1 _).mono ?_
  rintro e w3 ⟨rfl, k⟩
  have HB := Lib.hid (HB.out.trans (k.mono HB.out.size))
  clear k
  go_wp2_with fail
  refine (whole3_any 0 0 2 2 _).mono ?_
  rintro e w4 ⟨rfl, k⟩
  have HB := Lib.hid (HB.out.trans (k.mono HB.out.size))
  clear k
  have hC : C8 (w4.alloc (.cells #[.int .i64 11, .int .i64 1, .int .i64 0, .int .i64 0, .int .i64 2, .int .i64 0, .int .i64 2, .int .i64 0] 40)) w4.heap.size 11 1 0 0 2 0 2 0 := BIn.made w4 40 ⟨⟨11, 1⟩, ⟨0, 0⟩, ⟨2, 0⟩, ⟨2, 0⟩⟩
  have HB := Lib.hid (HB.out.alloc HB.out.size (.cells #[.int .i64 11, .int .i64 1, .int .i64 0, .int .i64 0, .int .i64 2, .int .i64 0, .int .i64 2, .int .i64 0] 40))
  go_upto_region 4 with fail
  generalize w4.heap.size = bC at *
  revert hC HB
  generalize w4.alloc (.cells #[.int .i64 11, .int .i64 1, .int .i64 0, .int .i64 0, .int .i64 2, .int .i64 0, .int .i64 2, .int .i64 0] 40) = W0
  intro HB hC
  go_region_held3 (fun v => v.cell? ⟨bC, 0, none⟩ = some (.int .i64 11) ∧ v.cell? ⟨bC, 1, none⟩ = some (.int .i64 1) ∧ v.cell? ⟨bC, 2, none⟩ = some (.int .i64 0) ∧ v.cell? ⟨bC, 3, none⟩ = some (.int .i64 0) ∧ v.cell? ⟨bC, 4, none⟩ = some (.int .i64 2) ∧ v.cell? ⟨bC, 5, none⟩ = some (.int .i64 0) ∧ v.cell? ⟨bC, 6, none⟩ = some (.int .i64 2) ∧ v.cell? ⟨bC, 7, none⟩ = some (.int .i64 0)) (first | with_reducible assumption | go_keep)
    (first
      | (go_at_call 44; (with_reducible refine (whole3_any 0 0 1 1 _).mono ?_); rintro e v5 ⟨rfl, k⟩; (first | (with_reducible have k := undrew k) | skip); have HB := Lib.hid (HB.out.trans (k.mono HB.out.size)); have hC := C8.later hC k; clear k)
      | (go_at_call 18; (with_reducible refine (aw_meets2 _).mono ?_); rintro e v6 ⟨rfl, k⟩; (first | (with_reducible have k := undrew k) | skip); have HB := Lib.hid (HB.out.trans (k.mono HB.out.size)); have hC := C8.later hC k; clear k))
  clear hC
  go_wp2_with fail
  refine (whole3_any 0 0 2 1 _).mono ?_
  rintro e w7 ⟨rfl, k⟩
  have HB := Lib.hid (HB.out.trans (k.mono HB.out.size))
  clear k
  go_wp2_with fail
  refine (aw_bmap _).mono ?_
  rintro e w8 ⟨rfl, k⟩
  have HB := Lib.hid (HB.out.trans (k.mono HB.out.size))
  clear k
  have hC : C8 (w8.alloc (.cells #[.int .i64 (-1), .int .i64 0, .int .i64 0, .int .i64 0, .int .i64 0, .int .i64 0, .int .i64 2, .int .i64 0] 40)) w8.heap.size (-1) 0 0 0 0 0 2 0 := BIn.made w8 40 ⟨⟨-1, 0⟩, ⟨0, 0⟩, ⟨0, 0⟩, ⟨2, 0⟩⟩
  have HB := Lib.hid (HB.out.alloc HB.out.size (.cells #[.int .i64 (-1), .int .i64 0, .int .i64 0, .int .i64 0, .int .i64 0, .int .i64 0, .int .i64 2, .int .i64 0] 40))
  go_upto_region 6 with fail
  generalize w8.heap.size = bD at *
  revert hC HB
  generalize w8.alloc (.cells #[.int .i64 (-1), .int .i64 0, .int .i64 0, .int .i64 0, .int .i64 0, .int .i64 0, .int .i64 2, .int .i64 0] 40) = W1
  intro HB hC
  go_region_held3 (fun v => v.cell? ⟨bD, 0, none⟩ = some (.int .i64 (-1)) ∧ v.cell? ⟨bD, 1, none⟩ = some (.int .i64 0) ∧ v.cell? ⟨bD, 2, none⟩ = some (.int .i64 0) ∧ v.cell? ⟨bD, 3, none⟩ = some (.int .i64 0) ∧ v.cell? ⟨bD, 4, none⟩ = some (.int .i64 0) ∧ v.cell? ⟨bD, 5, none⟩ = some (.int .i64 0) ∧ v.cell? ⟨bD, 6, none⟩ = some (.int .i64 2) ∧ v.cell? ⟨bD, 7, none⟩ = some (.int .i64 0)) (first | with_reducible assumption | go_keep)
    ((go_at_call 44; (with_reducible refine (whole3_any (-1) 0 0 2 _).mono ?_); rintro e v9 ⟨rfl, k⟩; (first | (with_reducible have k := undrew k) | skip); have HB := Lib.hid (HB.out.trans (k.mono HB.out.size)); have hC := C8.later hC k; clear k))
  all_goals go_wp2
  all_goals go_ret
  all_goals exact ⟨rfl, by (repeat (first | with_reducible refine Below.drew ?_ | with_reducible refine bdrewN ?_ _ | (with_reducible refine Below.setCell ?_ ?_ _; rotate_left; focus (first | exact Nat.le_refl _ | omega | (simp; omega) | (simp; done))) | (with_reducible refine Below.alloc ?_ ?_ _; rotate_left; focus (first | exact Nat.le_refl _ | omega | (simp; omega) | (simp; done))))); with_reducible exact HB.out⟩
end Go.Proofs.Ytpdjooeogpidhaa
