/- predict's layout: walked. -/
import Derived.Test.YtjligbfijjejmaaPredE
namespace Go.Proofs.Ytjligbfijjejmaa
open Go.RowKit

theorem B8 {W w : World} {b B : Nat} {x0 x1 x2 x3 x4 x5 x6 x7 : Value} (hB : b ≤ B) (h : Below b W w) : Below b W (((((((((w.setCell ⟨B, 0, none⟩ x0).setCell ⟨B, 1, none⟩ x1).setCell ⟨B, 2, none⟩ x2).setCell ⟨B, 3, none⟩ x3).setCell ⟨B, 4, none⟩ x4).setCell ⟨B, 5, none⟩ x5).setCell ⟨B, 6, none⟩ x6).setCell ⟨B, 7, none⟩ x7)) :=
  ((((((((h.setCell (p := ⟨B, 0, none⟩) hB x0).setCell (p := ⟨B, 1, none⟩) hB x1).setCell (p := ⟨B, 2, none⟩) hB x2).setCell (p := ⟨B, 3, none⟩) hB x3).setCell (p := ⟨B, 4, none⟩) hB x4).setCell (p := ⟨B, 5, none⟩) hB x5).setCell (p := ⟨B, 6, none⟩) hB x6).setCell (p := ⟨B, 7, none⟩) hB x7)
theorem Whole.sets8 {w : World} {B : Nat} {T : TypeId} {z0 z1 z2 z3 z4 z5 z6 z7 x0 x1 x2 x3 x4 x5 x6 x7 : Value} (h : Whole w B T #[z0, z1, z2, z3, z4, z5, z6, z7]) : Whole (((((((((w.setCell ⟨B, 0, none⟩ x0).setCell ⟨B, 1, none⟩ x1).setCell ⟨B, 2, none⟩ x2).setCell ⟨B, 3, none⟩ x3).setCell ⟨B, 4, none⟩ x4).setCell ⟨B, 5, none⟩ x5).setCell ⟨B, 6, none⟩ x6).setCell ⟨B, 7, none⟩ x7)) B T #[x0, x1, x2, x3, x4, x5, x6, x7] := by
  have k := ((((((((h.set 0 x0).set 1 x1).set 2 x2).set 3 x3).set 4 x4).set 5 x5).set 6 x6).set 7 x7)
  simpa using k
theorem undrew {w w' : World} (h : Below w.drew.heap.size w.drew w') : Below w.heap.size w w' := (Below.refl _ _).drew.trans h
abbrev C4 (v : World) (B : Nat) (p : PaV) : Prop := v.cell? ⟨B, 0, none⟩ = some (.int .i64 p.pr) ∧ v.cell? ⟨B, 1, none⟩ = some (.int .i64 p.co) ∧ v.cell? ⟨B, 2, none⟩ = some (.int .i64 p.bi) ∧ v.cell? ⟨B, 3, none⟩ = some (.int .i64 p.cl)
theorem C4.later {v v' : World} {B : Nat} {p : PaV} (h : C4 v B p) (hB : B < v.heap.size) (hb : Below v.heap.size v v') : C4 v' B p :=
  ⟨(hb.cell (p := ⟨B, 0, none⟩) hB).trans h.1, (hb.cell (p := ⟨B, 1, none⟩) hB).trans h.2.1, (hb.cell (p := ⟨B, 2, none⟩) hB).trans h.2.2.1, (hb.cell (p := ⟨B, 3, none⟩) hB).trans h.2.2.2⟩
/-- How many bytes stand ahead of a row. -/
def headM (png : Bool) : Nat := if png then 1 else 0
/-- A layout. -/
abbrev layV (p : PaV) (png : Bool) : Array Value := #[.int .i64 (headM png), .int .i64 p.n, .int .i64 p.s, tabAt png 0, tabAt png 1, tabAt png 2, tabAt png 3, tabAt png 4]
theorem table_two (n : Int) (w : World) (h : n = 2) : Calls Try.prog 32 #[.int .i64 n] w fun e w' => e = .returned (.agg #[.nilFunc, fnV 38, .nilFunc, .nilFunc, .nilFunc]) ∧ Below w.heap.size w w' := by
  rw [h]
  exact table_tiff w
set_option maxRecDepth 100000 in
set_option maxHeartbeats 4000000 in
theorem layout_png (p : PaV) (w : World) (h : p.Ok) (hp : decide (10 ≤ p.pr) = true) :
    Calls Try.prog 26 #[p.val] w fun e w' => e = .returned (.agg (layV p true)) ∧ Below w.heap.size w w' := by
  obtain ⟨⟨m1, m2⟩, m3, m4⟩ := h.mul
  have q1 : IntKind.i64.wrap (p.co * p.bi) = p.co * p.bi := IntWalk.i64_in _ (by omega)
  have OK := Lib.hid h
  have HS := Lib.hid h.s_is.1
  have HP := Lib.hid hp
  have M := Lib.hid (And.intro m1 m2)
  clear m1 m2 m3 m4 h hp
  go_enter Try.func26, Try.ntmps26
  go_upto_region 1 with fail
  have K1 : Whole ((w.alloc (.cells #[.int .i64 p.pr, .int .i64 p.co, .int .i64 p.bi, .int .i64 p.cl] 23)).alloc (.cells #[.int .i64 0, .int .i64 0, .int .i64 0, .nilFunc, .nilFunc, .nilFunc, .nilFunc, .nilFunc] 46)) w.heap.size 23 #[.int .i64 p.pr, .int .i64 p.co, .int .i64 p.bi, .int .i64 p.cl] := (Whole.made w 23 #[.int .i64 p.pr, .int .i64 p.co, .int .i64 p.bi, .int .i64 p.cl]).old _
  have K2 : Whole ((w.alloc (.cells #[.int .i64 p.pr, .int .i64 p.co, .int .i64 p.bi, .int .i64 p.cl] 23)).alloc (.cells #[.int .i64 0, .int .i64 0, .int .i64 0, .nilFunc, .nilFunc, .nilFunc, .nilFunc, .nilFunc] 46)) (w.heap.size + 1) 46 #[.int .i64 0, .int .i64 0, .int .i64 0, .nilFunc, .nilFunc, .nilFunc, .nilFunc, .nilFunc] := by
    have k := Whole.made (w.alloc (.cells #[.int .i64 p.pr, .int .i64 p.co, .int .i64 p.bi, .int .i64 p.cl] 23)) 46 #[.int .i64 0, .int .i64 0, .int .i64 0, .nilFunc, .nilFunc, .nilFunc, .nilFunc, .nilFunc]
    rwa [World.size_alloc] at k
  have K3 : Below w.heap.size w ((w.alloc (.cells #[.int .i64 p.pr, .int .i64 p.co, .int .i64 p.bi, .int .i64 p.cl] 23)).alloc (.cells #[.int .i64 0, .int .i64 0, .int .i64 0, .nilFunc, .nilFunc, .nilFunc, .nilFunc, .nilFunc] 46)) := ((Below.refl _ _).alloc (Nat.le_refl _) _).alloc (by simp) _
  have K4 : w.heap.size + 2 = ((w.alloc (.cells #[.int .i64 p.pr, .int .i64 p.co, .int .i64 p.bi, .int .i64 p.cl] 23)).alloc (.cells #[.int .i64 0, .int .i64 0, .int .i64 0, .nilFunc, .nilFunc, .nilFunc, .nilFunc, .nilFunc] 46)).heap.size := by simp
  generalize (w.alloc (.cells #[.int .i64 p.pr, .int .i64 p.co, .int .i64 p.bi, .int .i64 p.cl] 23)).alloc (.cells #[.int .i64 0, .int .i64 0, .int .i64 0, .nilFunc, .nilFunc, .nilFunc, .nilFunc, .nilFunc] 46) = W0 at *
  have k1 : w.heap.size < W0.heap.size := by omega
  have k2 : w.heap.size + 1 < W0.heap.size := by omega
  have hS : C4 W0 w.heap.size p := ⟨K1.reads 0, K1.reads 1, K1.reads 2, K1.reads 3⟩
  have KK := Lib.hid (And.intro K1 (And.intro K2 K3))
  clear K1 K2 K3 K4
  have HV := Below.refl W0.heap.size W0
  go_cut [3] from 4 to 16 (fun s wx => ∃ g : Nat, s = .pointer (some ⟨g, 0, none⟩) ∧ W0.heap.size ≤ g ∧ Whole wx g 46 #[.int .i64 0, .int .i64 p.n, .int .i64 ((p.co * p.bi + 7) / 8), fnV 34, fnV 38, fnV 35, fnV 36, fnV 37] ∧ Hid (Below W0.heap.size W0 wx))
  case first =>
    go_region_held3 (fun v => v.cell? ⟨w.heap.size, 0, none⟩ = some (.int .i64 p.pr) ∧ v.cell? ⟨w.heap.size, 1, none⟩ = some (.int .i64 p.co) ∧ v.cell? ⟨w.heap.size, 2, none⟩ = some (.int .i64 p.bi) ∧ v.cell? ⟨w.heap.size, 3, none⟩ = some (.int .i64 p.cl)) (first | with_reducible assumption | with_reducible exact hS | with_reducible exact C4.later hS k1 HV | with_reducible exact C4.later hS k1 (Below.drew HV) | with_reducible exact C4.later hS k1 (HV.alloc HV.size _) | with_reducible exact C4.later hS k1 (B8 gB HV) | with_reducible exact C4.later hS k1 (B8 HV.size (HV.alloc HV.size _)) | go_keep)
      (first
        | (go_at_call 15; (with_reducible refine (row_ok p _ OK.out).mono ?_); rintro e v ⟨rfl, k⟩; (first | (with_reducible have k := undrew k) | skip); (first
          | (with_reducible have HN := Below.trans HV (k.mono HV.size); have HV := HN; clear HN; (first | (with_reducible have hR := Whole.here hR k; have lR := Whole.lt hR; have rd := Whole.reads hR; have ft := Whole.thawed hR) | skip))
          | (with_reducible have HN := Below.trans (HV.alloc HV.size _) (k.mono (HV.alloc HV.size _).size); have gB := HV.size; have HV := HN; clear HN; have hR := (Whole.made _ 46 #[.int .i64 0, .int .i64 0, .int .i64 0, .nilFunc, .nilFunc, .nilFunc, .nilFunc, .nilFunc]).here k; have lR := Whole.lt hR; have rd := Whole.reads hR; have ft := Whole.thawed hR)))
        | (go_at_call 25; (with_reducible refine (whole_any _ _ (by have := M.out; omega) (by have := M.out; omega)).mono ?_); rintro e v ⟨rfl, rfl⟩)
        | (go_at_call 32; (with_reducible refine (table_png p.pr _ HP.out).mono ?_); rintro e v ⟨rfl, k⟩; (first | (with_reducible have k := undrew k) | skip); (first
          | (with_reducible have HN := Below.trans HV (k.mono HV.size); have HV := HN; clear HN; (first | (with_reducible have hR := Whole.here hR k; have lR := Whole.lt hR; have rd := Whole.reads hR; have ft := Whole.thawed hR) | skip))
          | (with_reducible have HN := Below.trans (HV.alloc HV.size _) (k.mono (HV.alloc HV.size _).size); have gB := HV.size; have HV := HN; clear HN; have hR := (Whole.made _ 46 #[.int .i64 0, .int .i64 0, .int .i64 0, .nilFunc, .nilFunc, .nilFunc, .nilFunc, .nilFunc]).here k; have lR := Whole.lt hR; have rd := Whole.reads hR; have ft := Whole.thawed hR))))
    all_goals
      go_wp2_with fail
      go_meet
      refine ⟨_, rfl, ?_, ?_, ?_⟩
      · first
          | with_reducible exact gB
          | with_reducible exact HV.size
      · first
          | with_reducible exact Whole.sets8 hR
          | with_reducible exact Whole.made _ _ _
          | trace "w: none"
      · first
          | with_reducible exact Lib.hid (B8 gB HV)
          | with_reducible exact Lib.hid (Below.alloc HV HV.size _)
          | trace "b: none"
  case rest =>
    obtain ⟨g, rfl, hg, hW, HB⟩ := hcut
    rw [← HS.out] at hW
    have q1 := KK.out.1.later HB.out k1
    have q2 := KK.out.2.1.later HB.out k2
    have q3 := KK.out.2.2.trans (HB.out.mono (by omega))
    have Q3 := Lib.hid q3
    clear q3 HV hS
    have a0 := q1.reads 0
    have ft := hW.thawed
    have lg := hW.lt
    have rd2 := q2.reads
    have ft2 := q2.thawed
    have lg2 := q2.lt
    have ne : ¬ (w.heap.size + 1 = g) := by omega
    have ne' : ¬ (g = w.heap.size + 1) := by omega
    have Q2 := Lib.hid q2
    have hp : decide (10 ≤ p.pr) = true := HP.out
    have rd := hW.reads
    clear hW q1 q2 k1 k2
    go_wp2
    refine bodyPost_ret (v := .agg #[.int .i64 1, .int .i64 p.n, .int .i64 p.s, fnV 34, fnV 38, fnV 35, fnV 36, fnV 37]) (by simp [results, Try.results26, go_sem, rd2]) rfl ⟨rfl, ?_⟩
    have lg0 : w.heap.size ≤ g := by have := Q3.out.size; have := KK.out.2.1.lt; omega
    refine Below.trans Q3.out ?_
    (repeat (first | with_reducible exact Below.refl _ _ | with_reducible refine Below.drew ?_ | with_reducible refine bdrewN ?_ _ | (with_reducible refine Below.setCell ?_ ?_ _; rotate_left; focus (first | exact Nat.le_refl _ | omega | (simp; omega) | (simp; done))) | (with_reducible refine Below.alloc ?_ ?_ _; rotate_left; focus (first | exact Nat.le_refl _ | omega | (simp; omega) | (simp; done))) | (with_reducible refine Below.trans ?_ (Below.mono (by assumption) ?_); rotate_left; focus (first | exact Nat.le_refl _ | omega | (simp; omega) | (simp; done)))))

set_option maxRecDepth 100000 in
set_option maxHeartbeats 4000000 in
theorem layout_tiff (p : PaV) (w : World) (h : p.Ok) (hp : p.pr = 2) :
    Calls Try.prog 26 #[p.val] w fun e w' => e = .returned (.agg (layV p false)) ∧ Below w.heap.size w w' := by
  obtain ⟨⟨m1, m2⟩, m3, m4⟩ := h.mul
  have q1 : IntKind.i64.wrap (p.co * p.bi) = p.co * p.bi := IntWalk.i64_in _ (by omega)
  have OK := Lib.hid h
  have HS := Lib.hid h.s_is.1
  have HP := Lib.hid hp
  have M := Lib.hid (And.intro m1 m2)
  clear m1 m2 m3 m4 h hp
  go_enter Try.func26, Try.ntmps26
  go_upto_region 1 with fail
  have K1 : Whole ((w.alloc (.cells #[.int .i64 p.pr, .int .i64 p.co, .int .i64 p.bi, .int .i64 p.cl] 23)).alloc (.cells #[.int .i64 0, .int .i64 0, .int .i64 0, .nilFunc, .nilFunc, .nilFunc, .nilFunc, .nilFunc] 46)) w.heap.size 23 #[.int .i64 p.pr, .int .i64 p.co, .int .i64 p.bi, .int .i64 p.cl] := (Whole.made w 23 #[.int .i64 p.pr, .int .i64 p.co, .int .i64 p.bi, .int .i64 p.cl]).old _
  have K2 : Whole ((w.alloc (.cells #[.int .i64 p.pr, .int .i64 p.co, .int .i64 p.bi, .int .i64 p.cl] 23)).alloc (.cells #[.int .i64 0, .int .i64 0, .int .i64 0, .nilFunc, .nilFunc, .nilFunc, .nilFunc, .nilFunc] 46)) (w.heap.size + 1) 46 #[.int .i64 0, .int .i64 0, .int .i64 0, .nilFunc, .nilFunc, .nilFunc, .nilFunc, .nilFunc] := by
    have k := Whole.made (w.alloc (.cells #[.int .i64 p.pr, .int .i64 p.co, .int .i64 p.bi, .int .i64 p.cl] 23)) 46 #[.int .i64 0, .int .i64 0, .int .i64 0, .nilFunc, .nilFunc, .nilFunc, .nilFunc, .nilFunc]
    rwa [World.size_alloc] at k
  have K3 : Below w.heap.size w ((w.alloc (.cells #[.int .i64 p.pr, .int .i64 p.co, .int .i64 p.bi, .int .i64 p.cl] 23)).alloc (.cells #[.int .i64 0, .int .i64 0, .int .i64 0, .nilFunc, .nilFunc, .nilFunc, .nilFunc, .nilFunc] 46)) := ((Below.refl _ _).alloc (Nat.le_refl _) _).alloc (by simp) _
  have K4 : w.heap.size + 2 = ((w.alloc (.cells #[.int .i64 p.pr, .int .i64 p.co, .int .i64 p.bi, .int .i64 p.cl] 23)).alloc (.cells #[.int .i64 0, .int .i64 0, .int .i64 0, .nilFunc, .nilFunc, .nilFunc, .nilFunc, .nilFunc] 46)).heap.size := by simp
  generalize (w.alloc (.cells #[.int .i64 p.pr, .int .i64 p.co, .int .i64 p.bi, .int .i64 p.cl] 23)).alloc (.cells #[.int .i64 0, .int .i64 0, .int .i64 0, .nilFunc, .nilFunc, .nilFunc, .nilFunc, .nilFunc] 46) = W0 at *
  have k1 : w.heap.size < W0.heap.size := by omega
  have k2 : w.heap.size + 1 < W0.heap.size := by omega
  have hS : C4 W0 w.heap.size p := ⟨K1.reads 0, K1.reads 1, K1.reads 2, K1.reads 3⟩
  have KK := Lib.hid (And.intro K1 (And.intro K2 K3))
  clear K1 K2 K3 K4
  have HV := Below.refl W0.heap.size W0
  go_cut [3] from 4 to 16 (fun s wx => ∃ g : Nat, s = .pointer (some ⟨g, 0, none⟩) ∧ W0.heap.size ≤ g ∧ Whole wx g 46 #[.int .i64 0, .int .i64 p.n, .int .i64 ((p.co * p.bi + 7) / 8), .nilFunc, fnV 38, .nilFunc, .nilFunc, .nilFunc] ∧ Hid (Below W0.heap.size W0 wx))
  case first =>
    go_region_held3 (fun v => v.cell? ⟨w.heap.size, 0, none⟩ = some (.int .i64 p.pr) ∧ v.cell? ⟨w.heap.size, 1, none⟩ = some (.int .i64 p.co) ∧ v.cell? ⟨w.heap.size, 2, none⟩ = some (.int .i64 p.bi) ∧ v.cell? ⟨w.heap.size, 3, none⟩ = some (.int .i64 p.cl)) (first | with_reducible assumption | with_reducible exact hS | with_reducible exact C4.later hS k1 HV | with_reducible exact C4.later hS k1 (Below.drew HV) | with_reducible exact C4.later hS k1 (HV.alloc HV.size _) | with_reducible exact C4.later hS k1 (B8 gB HV) | with_reducible exact C4.later hS k1 (B8 HV.size (HV.alloc HV.size _)) | go_keep)
      (first
        | (go_at_call 15; (with_reducible refine (row_ok p _ OK.out).mono ?_); rintro e v ⟨rfl, k⟩; (first | (with_reducible have k := undrew k) | skip); (first
          | (with_reducible have HN := Below.trans HV (k.mono HV.size); have HV := HN; clear HN; (first | (with_reducible have hR := Whole.here hR k; have lR := Whole.lt hR; have rd := Whole.reads hR; have ft := Whole.thawed hR) | skip))
          | (with_reducible have HN := Below.trans (HV.alloc HV.size _) (k.mono (HV.alloc HV.size _).size); have gB := HV.size; have HV := HN; clear HN; have hR := (Whole.made _ 46 #[.int .i64 0, .int .i64 0, .int .i64 0, .nilFunc, .nilFunc, .nilFunc, .nilFunc, .nilFunc]).here k; have lR := Whole.lt hR; have rd := Whole.reads hR; have ft := Whole.thawed hR)))
        | (go_at_call 25; (with_reducible refine (whole_any _ _ (by have := M.out; omega) (by have := M.out; omega)).mono ?_); rintro e v ⟨rfl, rfl⟩)
        | (go_at_call 32; (with_reducible refine (table_two p.pr _ HP.out).mono ?_); rintro e v ⟨rfl, k⟩; (first | (with_reducible have k := undrew k) | skip); (first
          | (with_reducible have HN := Below.trans HV (k.mono HV.size); have HV := HN; clear HN; (first | (with_reducible have hR := Whole.here hR k; have lR := Whole.lt hR; have rd := Whole.reads hR; have ft := Whole.thawed hR) | skip))
          | (with_reducible have HN := Below.trans (HV.alloc HV.size _) (k.mono (HV.alloc HV.size _).size); have gB := HV.size; have HV := HN; clear HN; have hR := (Whole.made _ 46 #[.int .i64 0, .int .i64 0, .int .i64 0, .nilFunc, .nilFunc, .nilFunc, .nilFunc, .nilFunc]).here k; have lR := Whole.lt hR; have rd := Whole.reads hR; have ft := Whole.thawed hR))))
    all_goals
      go_wp2_with fail
      go_meet
      refine ⟨_, rfl, ?_, ?_, ?_⟩
      · first
          | with_reducible exact gB
          | with_reducible exact HV.size
      · first
          | with_reducible exact Whole.sets8 hR
          | with_reducible exact Whole.made _ _ _
          | trace "w: none"
      · first
          | with_reducible exact Lib.hid (B8 gB HV)
          | with_reducible exact Lib.hid (Below.alloc HV HV.size _)
          | trace "b: none"
  case rest =>
    obtain ⟨g, rfl, hg, hW, HB⟩ := hcut
    rw [← HS.out] at hW
    have q1 := KK.out.1.later HB.out k1
    have q2 := KK.out.2.1.later HB.out k2
    have q3 := KK.out.2.2.trans (HB.out.mono (by omega))
    have Q3 := Lib.hid q3
    clear q3 HV hS
    have a0 := q1.reads 0
    have ft := hW.thawed
    have lg := hW.lt
    have rd2 := q2.reads
    have ft2 := q2.thawed
    have lg2 := q2.lt
    have ne : ¬ (w.heap.size + 1 = g) := by omega
    have ne' : ¬ (g = w.heap.size + 1) := by omega
    have Q2 := Lib.hid q2
    have hp : decide (10 ≤ p.pr) = false := (by rw [HP.out]; rfl)
    have rd := hW.reads
    clear hW q1 q2 k1 k2
    go_wp2
    refine bodyPost_ret (v := .agg #[.int .i64 0, .int .i64 p.n, .int .i64 p.s, .nilFunc, fnV 38, .nilFunc, .nilFunc, .nilFunc]) (by simp [results, Try.results26, go_sem, rd2]) rfl ⟨rfl, ?_⟩
    have lg0 : w.heap.size ≤ g := by have := Q3.out.size; have := KK.out.2.1.lt; omega
    refine Below.trans Q3.out ?_
    (repeat (first | with_reducible exact Below.refl _ _ | with_reducible refine Below.drew ?_ | with_reducible refine bdrewN ?_ _ | (with_reducible refine Below.setCell ?_ ?_ _; rotate_left; focus (first | exact Nat.le_refl _ | omega | (simp; omega) | (simp; done))) | (with_reducible refine Below.alloc ?_ ?_ _; rotate_left; focus (first | exact Nat.le_refl _ | omega | (simp; omega) | (simp; done))) | (with_reducible refine Below.trans ?_ (Below.mono (by assumption) ?_); rotate_left; focus (first | exact Nat.le_refl _ | omega | (simp; omega) | (simp; done)))))

end Go.Proofs.Ytjligbfijjejmaa
