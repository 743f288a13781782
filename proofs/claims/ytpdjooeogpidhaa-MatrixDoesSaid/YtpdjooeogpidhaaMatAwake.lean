/- The document's examples of matrix: awake answers true. -/
import Derived.Test.YtpdjooeogpidhaaMatMem
import Derived.Deep.DeepCutAuto
namespace Go.Proofs.Ytpdjooeogpidhaa
open Go.RowKit Dec

theorem whole_any (n : Int) (w : World) :
    Calls Try.prog 32 #[.int .i64 n] w fun e w' => e = .returned (.agg #[.int .i64 n, .int .i64 0]) ∧ Below w.heap.size w w' := by
  go_enter Try.func32, Try.ntmps32
  go_wp2
  exact bodyPost_ret (v := .agg #[.int .i64 n, .int .i64 0]) (by simp [results, Try.results32, go_sem]) rfl ⟨rfl, (Below.refl _ _).alloc (Nat.le_refl _) _⟩

theorem aw_map (w : World) :
    Calls Try.prog 5 #[.agg #[.int .i64 2, .int .i64 0, .int .i64 0, .int .i64 0, .int .i64 0, .int .i64 0, .int .i64 2, .int .i64 0, .int .i64 1, .int .i64 0, .int .i64 1, .int .i64 0], .agg #[.int .i64 3, .int .i64 0, .int .i64 4, .int .i64 0]] w
      fun e w' => e = .returned (.tuple #[.agg #[.int .i64 7, .int .i64 0, .int .i64 9, .int .i64 0], .int .i64 0]) ∧ Below w.heap.size w w' :=
  map_any ⟨⟨2, 0⟩, ⟨0, 0⟩, ⟨0, 0⟩, ⟨2, 0⟩, ⟨1, 0⟩, ⟨1, 0⟩⟩ ⟨⟨3, 0⟩, ⟨4, 0⟩⟩ ⟨⟨7, 0⟩, ⟨9, 0⟩⟩ 0 w
    (.mk (by decide) (by decide) (.mk (p := ⟨6, 0⟩) (q := ⟨0, 0⟩) (t := ⟨6, 0⟩) (by decide) (by decide) (by decide) (by decide) (by decide) (by decide) (.sum (by decide) (by decide)))
      (.mk (p := ⟨0, 0⟩) (q := ⟨8, 0⟩) (t := ⟨8, 0⟩) (by decide) (by decide) (by decide) (by decide) (by decide) (by decide) (.sum (by decide) (by decide))))
theorem aw_step (w : World) :
    Calls Try.prog 9 #[.agg #[.int .i64 1, .int .i64 0], .agg #[.int .i64 0, .int .i64 0]] w
      fun e w' => e = .returned (.tuple #[.agg #[.int .i64 1, .int .i64 0, .int .i64 0, .int .i64 0, .int .i64 0, .int .i64 0, .int .i64 1, .int .i64 0, .int .i64 1, .int .i64 0, .int .i64 0, .int .i64 0], .int .i64 0]) ∧ Below w.heap.size w w' :=
  step_any ⟨1, 0⟩ ⟨0, 0⟩ ⟨⟨1, 0⟩, ⟨0, 0⟩, ⟨0, 0⟩, ⟨1, 0⟩, ⟨1, 0⟩, ⟨0, 0⟩⟩ 0 w (.inl ⟨by decide, by decide, rfl, rfl⟩)
theorem aw_then (w : World) :
    Calls Try.prog 7 #[.agg #[.int .i64 1, .int .i64 0, .int .i64 0, .int .i64 0, .int .i64 0, .int .i64 0, .int .i64 1, .int .i64 0, .int .i64 1, .int .i64 0, .int .i64 0, .int .i64 0], .agg #[.int .i64 2, .int .i64 0, .int .i64 0, .int .i64 0, .int .i64 0, .int .i64 0, .int .i64 2, .int .i64 0, .int .i64 0, .int .i64 0, .int .i64 0, .int .i64 0]] w
      fun e w' => e = .returned (.tuple #[.agg #[.int .i64 2, .int .i64 0, .int .i64 0, .int .i64 0, .int .i64 0, .int .i64 0, .int .i64 2, .int .i64 0, .int .i64 2, .int .i64 0, .int .i64 0, .int .i64 0], .int .i64 0]) ∧ Below w.heap.size w w' :=
  then_any ⟨⟨1, 0⟩, ⟨0, 0⟩, ⟨0, 0⟩, ⟨1, 0⟩, ⟨1, 0⟩, ⟨0, 0⟩⟩ ⟨⟨2, 0⟩, ⟨0, 0⟩, ⟨0, 0⟩, ⟨2, 0⟩, ⟨0, 0⟩, ⟨0, 0⟩⟩ ⟨⟨2, 0⟩, ⟨0, 0⟩, ⟨0, 0⟩, ⟨2, 0⟩, ⟨2, 0⟩, ⟨0, 0⟩⟩ 0 w
    (.mk (by decide) (by decide)
      (.mk (p := ⟨2, 0⟩) (q := ⟨0, 0⟩) (t := ⟨2, 0⟩) (by decide) (by decide) (by decide) (by decide) (by decide) (by decide) (.sum (by decide) (by decide)))
      (.mk (p := ⟨0, 0⟩) (q := ⟨0, 0⟩) (t := ⟨0, 0⟩) (by decide) (by decide) (by decide) (by decide) (by decide) (by decide) (.sum (by decide) (by decide)))
      (.mk (p := ⟨0, 0⟩) (q := ⟨0, 0⟩) (t := ⟨0, 0⟩) (by decide) (by decide) (by decide) (by decide) (by decide) (by decide) (.sum (by decide) (by decide)))
      (.mk (p := ⟨0, 0⟩) (q := ⟨2, 0⟩) (t := ⟨2, 0⟩) (by decide) (by decide) (by decide) (by decide) (by decide) (by decide) (.sum (by decide) (by decide)))
      (.mk (p := ⟨2, 0⟩) (q := ⟨0, 0⟩) (t := ⟨2, 0⟩) (by decide) (by decide) (by decide) (by decide) (by decide) (by decide) (.sum (by decide) (by decide)))
      (.mk (p := ⟨0, 0⟩) (q := ⟨0, 0⟩) (t := ⟨0, 0⟩) (by decide) (by decide) (by decide) (by decide) (by decide) (by decide) (.sum (by decide) (by decide))))
theorem aw_check (w : World) :
    Calls Try.prog 12 #[.agg #[.int .i64 2, .int .i64 0, .int .i64 0, .int .i64 0, .int .i64 0, .int .i64 0, .int .i64 2, .int .i64 0, .int .i64 2, .int .i64 0, .int .i64 0, .int .i64 0]] w
      fun e w' => e = .returned (.int .i64 0) ∧ Below w.heap.size w w' :=
  mcheck_any ⟨⟨2, 0⟩, ⟨0, 0⟩, ⟨0, 0⟩, ⟨2, 0⟩, ⟨2, 0⟩, ⟨0, 0⟩⟩ w 0 (.inl ⟨by decide, rfl⟩)

set_option maxRecDepth 100000 in
set_option maxHeartbeats 40000000 in
theorem mawake_any (w : World) :
    Calls Try.prog 11 #[] w fun e w' => e = .returned (.bool true) ∧ Below w.heap.size w w' := by
  go_enter Try.func11, Try.ntmps11
  go_wp2_with fail
  refine (whole_any 2 _).mono ?_
  rintro e w1 ⟨rfl, hb⟩
  go_wp2_with fail
  refine (whole_any 2 _).mono ?_
  rintro e w2 ⟨rfl, hk⟩
  have hb := hb.trans (hk.mono hb.size)
  clear hk
  go_wp2_with fail
  refine (whole_any 1 _).mono ?_
  rintro e w3 ⟨rfl, hk⟩
  have hb := hb.trans (hk.mono hb.size)
  clear hk
  go_wp2_with fail
  refine (whole_any 1 _).mono ?_
  rintro e w4 ⟨rfl, hk⟩
  have hb := hb.trans (hk.mono hb.size)
  clear hk
  have HB := Lib.hid hb
  clear hb
  go_wp2_with fail
  have hS : C12 (w4.alloc (.cells #[.int .i64 2, .int .i64 0, .int .i64 0, .int .i64 0, .int .i64 0, .int .i64 0, .int .i64 2, .int .i64 0, .int .i64 1, .int .i64 0, .int .i64 1, .int .i64 0] 25)) w4.heap.size 2 0 0 0 0 0 2 0 1 0 1 0 := MIn.made w4 25 ⟨⟨2, 0⟩, ⟨0, 0⟩, ⟨0, 0⟩, ⟨2, 0⟩, ⟨1, 0⟩, ⟨1, 0⟩⟩
  have HB := Lib.hid (HB.out.alloc HB.out.size (.cells #[.int .i64 2, .int .i64 0, .int .i64 0, .int .i64 0, .int .i64 0, .int .i64 0, .int .i64 2, .int .i64 0, .int .i64 1, .int .i64 0, .int .i64 1, .int .i64 0] 25))
  generalize w4.heap.size = bM at *
  revert hS HB
  generalize w4.alloc (.cells #[.int .i64 2, .int .i64 0, .int .i64 0, .int .i64 0, .int .i64 0, .int .i64 0, .int .i64 2, .int .i64 0, .int .i64 1, .int .i64 0, .int .i64 1, .int .i64 0] 25) = W0
  intro HB hS
  have HV := Below.refl W0.heap.size W0
  go_cut [2, 3] (fun s2 s3 wx => ∃ g : Nat, s2 = .pointer (some ⟨g, 0, none⟩) ∧ s3 = .int .i64 0 ∧ PIn wx g ⟨⟨7, 0⟩, ⟨9, 0⟩⟩ ∧ Hid (Below w.heap.size w wx))
  case first =>
    go_region_held3 (fun v => v.cell? ⟨bM, 0, none⟩ = some (.int .i64 2) ∧ v.cell? ⟨bM, 1, none⟩ = some (.int .i64 0) ∧ v.cell? ⟨bM, 2, none⟩ = some (.int .i64 0) ∧ v.cell? ⟨bM, 3, none⟩ = some (.int .i64 0) ∧ v.cell? ⟨bM, 4, none⟩ = some (.int .i64 0) ∧ v.cell? ⟨bM, 5, none⟩ = some (.int .i64 0) ∧ v.cell? ⟨bM, 6, none⟩ = some (.int .i64 2) ∧ v.cell? ⟨bM, 7, none⟩ = some (.int .i64 0) ∧ v.cell? ⟨bM, 8, none⟩ = some (.int .i64 1) ∧ v.cell? ⟨bM, 9, none⟩ = some (.int .i64 0) ∧ v.cell? ⟨bM, 10, none⟩ = some (.int .i64 1) ∧ v.cell? ⟨bM, 11, none⟩ = some (.int .i64 0)) (first | with_reducible assumption | with_reducible exact C12.later hS HV | with_reducible exact C12.later hS (Below.drew HV) | with_reducible exact C12.later hS (HV.alloc HV.size _) | with_reducible exact C12.later hS (B4 gB HV) | go_keep)
      (first
        | (go_at_call 32; (with_reducible refine (whole_any _ _).mono ?_); rintro e v ⟨rfl, k⟩; (first | (with_reducible have k := undrew k) | skip); (first
          | (with_reducible have HN := Below.trans HV (k.mono HV.size); have HV := HN; clear HN; (first | (with_reducible have hR := Whole.here hR k; have lR := Whole.lt hR; have rd := Whole.reads hR; have ft := Whole.thawed hR) | skip))
          | (with_reducible have HN := Below.trans (HV.alloc HV.size _) (k.mono (HV.alloc HV.size _).size); have gB := HV.size; have HV := HN; clear HN; have hR := (Whole.made _ 27 #[.int .i64 0, .int .i64 0, .int .i64 0, .int .i64 0]).here k; have lR := Whole.lt hR; have rd := Whole.reads hR; have ft := Whole.thawed hR)))
        | (go_at_call 5; (with_reducible refine (aw_map _).mono ?_); rintro e v ⟨rfl, k⟩; (first | (with_reducible have k := undrew k) | skip); (first
          | (with_reducible have HN := Below.trans HV (k.mono HV.size); have HV := HN; clear HN; (first | (with_reducible have hR := Whole.here hR k; have lR := Whole.lt hR; have rd := Whole.reads hR; have ft := Whole.thawed hR) | skip))
          | (with_reducible have HN := Below.trans (HV.alloc HV.size _) (k.mono (HV.alloc HV.size _).size); have gB := HV.size; have HV := HN; clear HN; have hR := (Whole.made _ 27 #[.int .i64 0, .int .i64 0, .int .i64 0, .int .i64 0]).here k; have lR := Whole.lt hR; have rd := Whole.reads hR; have ft := Whole.thawed hR))))
    all_goals
      go_wp2_with fail
      go_meet
      refine ⟨_, rfl, rfl, ?_, ?_⟩
      · first
          | with_reducible exact PIn.sets (p := ⟨⟨7, 0⟩, ⟨9, 0⟩⟩) hR
          | with_reducible exact PIn.made _ _ ⟨⟨7, 0⟩, ⟨9, 0⟩⟩
          | trace "p: none"
      · first
          | with_reducible exact Lib.hid (Below.trans HB.out (Below.mono (B4 gB HV) HB.out.size))
          | with_reducible exact Lib.hid (Below.trans HB.out (Below.mono (Below.alloc HV HV.size _) HB.out.size))
          | trace "b: none"
  case rest =>
    clear hS HB HV
    obtain ⟨g, rfl, rfl, hP, HB⟩ := hcut
    go_wp2_with fail
    refine (whole_any 1 _).mono ?_
    rintro e u1 ⟨rfl, k⟩
    have HB := Lib.hid (HB.out.trans (k.mono HB.out.size))
    have hP := hP.later k
    clear k
    go_wp2_with fail
    refine (whole_any 0 _).mono ?_
    rintro e u2 ⟨rfl, k⟩
    have HB := Lib.hid (HB.out.trans (k.mono HB.out.size))
    have hP := hP.later k
    clear k
    go_wp2_with fail
    refine (aw_step _).mono ?_
    rintro e u3 ⟨rfl, k⟩
    have HB := Lib.hid (HB.out.trans (k.mono HB.out.size))
    have hP := hP.later k
    clear k
    have hS : C12 (u3.alloc (.cells #[.int .i64 1, .int .i64 0, .int .i64 0, .int .i64 0, .int .i64 0, .int .i64 0, .int .i64 1, .int .i64 0, .int .i64 1, .int .i64 0, .int .i64 0, .int .i64 0] 25)) u3.heap.size 1 0 0 0 0 0 1 0 1 0 0 0 := MIn.made u3 25 ⟨⟨1, 0⟩, ⟨0, 0⟩, ⟨0, 0⟩, ⟨1, 0⟩, ⟨1, 0⟩, ⟨0, 0⟩⟩
    have hP := hP.old (.cells #[.int .i64 1, .int .i64 0, .int .i64 0, .int .i64 0, .int .i64 0, .int .i64 0, .int .i64 1, .int .i64 0, .int .i64 1, .int .i64 0, .int .i64 0, .int .i64 0] 25)
    have HB := Lib.hid (HB.out.alloc HB.out.size (.cells #[.int .i64 1, .int .i64 0, .int .i64 0, .int .i64 0, .int .i64 0, .int .i64 0, .int .i64 1, .int .i64 0, .int .i64 1, .int .i64 0, .int .i64 0, .int .i64 0] 25))
    go_upto_region 4 with fail
    generalize u3.heap.size = bS at *
    revert hS HB hP
    generalize u3.alloc (.cells #[.int .i64 1, .int .i64 0, .int .i64 0, .int .i64 0, .int .i64 0, .int .i64 0, .int .i64 1, .int .i64 0, .int .i64 1, .int .i64 0, .int .i64 0, .int .i64 0] 25) = W1
    intro hP HB hS
    have HV := Below.refl W1.heap.size W1
    go_cut [6, 7] (fun s6 s7 wx => ∃ g' : Nat, s6 = .pointer (some ⟨g', 0, none⟩) ∧ s7 = .int .i64 0 ∧ MIn wx g' ⟨⟨2, 0⟩, ⟨0, 0⟩, ⟨0, 0⟩, ⟨2, 0⟩, ⟨2, 0⟩, ⟨0, 0⟩⟩ ∧ PIn wx g ⟨⟨7, 0⟩, ⟨9, 0⟩⟩ ∧ Hid (Below w.heap.size w wx))
    case first =>
      go_region_held3 (fun v => v.cell? ⟨bS, 0, none⟩ = some (.int .i64 1) ∧ v.cell? ⟨bS, 1, none⟩ = some (.int .i64 0) ∧ v.cell? ⟨bS, 2, none⟩ = some (.int .i64 0) ∧ v.cell? ⟨bS, 3, none⟩ = some (.int .i64 0) ∧ v.cell? ⟨bS, 4, none⟩ = some (.int .i64 0) ∧ v.cell? ⟨bS, 5, none⟩ = some (.int .i64 0) ∧ v.cell? ⟨bS, 6, none⟩ = some (.int .i64 1) ∧ v.cell? ⟨bS, 7, none⟩ = some (.int .i64 0) ∧ v.cell? ⟨bS, 8, none⟩ = some (.int .i64 1) ∧ v.cell? ⟨bS, 9, none⟩ = some (.int .i64 0) ∧ v.cell? ⟨bS, 10, none⟩ = some (.int .i64 0) ∧ v.cell? ⟨bS, 11, none⟩ = some (.int .i64 0)) (first | with_reducible assumption | with_reducible exact C12.later hS HV | with_reducible exact C12.later hS (Below.drew HV) | with_reducible exact C12.later hS (HV.alloc HV.size _) | with_reducible exact C12.later hS (BB gB HV) | go_keep)
        (first
          | (go_at_call 32; (with_reducible refine (whole_any _ _).mono ?_); rintro e v ⟨rfl, k⟩; (first | (with_reducible have k := undrew k) | skip); (first
          | (with_reducible have HN := Below.trans HV (k.mono HV.size); have HV := HN; clear HN; (first | (with_reducible have hR := Whole.here hR k; have lR := Whole.lt hR; have rd := Whole.reads hR; have ft := Whole.thawed hR) | skip))
          | (with_reducible have HN := Below.trans (HV.alloc HV.size _) (k.mono (HV.alloc HV.size _).size); have gB := HV.size; have HV := HN; clear HN; have hR := (Whole.made _ 25 #[.int .i64 0, .int .i64 0, .int .i64 0, .int .i64 0, .int .i64 0, .int .i64 0, .int .i64 0, .int .i64 0, .int .i64 0, .int .i64 0, .int .i64 0, .int .i64 0]).here k; have lR := Whole.lt hR; have rd := Whole.reads hR; have ft := Whole.thawed hR)))
          | (go_at_call 7; (with_reducible refine (aw_then _).mono ?_); rintro e v ⟨rfl, k⟩; (first | (with_reducible have k := undrew k) | skip); (first
          | (with_reducible have HN := Below.trans HV (k.mono HV.size); have HV := HN; clear HN; (first | (with_reducible have hR := Whole.here hR k; have lR := Whole.lt hR; have rd := Whole.reads hR; have ft := Whole.thawed hR) | skip))
          | (with_reducible have HN := Below.trans (HV.alloc HV.size _) (k.mono (HV.alloc HV.size _).size); have gB := HV.size; have HV := HN; clear HN; have hR := (Whole.made _ 25 #[.int .i64 0, .int .i64 0, .int .i64 0, .int .i64 0, .int .i64 0, .int .i64 0, .int .i64 0, .int .i64 0, .int .i64 0, .int .i64 0, .int .i64 0, .int .i64 0]).here k; have lR := Whole.lt hR; have rd := Whole.reads hR; have ft := Whole.thawed hR))))
      all_goals
        go_wp2_with fail
        go_meet
        refine ⟨_, rfl, rfl, ?_, ?_, ?_⟩
        · first
            | with_reducible exact MIn.sets (m := ⟨⟨2, 0⟩, ⟨0, 0⟩, ⟨0, 0⟩, ⟨2, 0⟩, ⟨2, 0⟩, ⟨0, 0⟩⟩) hR
            | with_reducible exact MIn.made _ _ ⟨⟨2, 0⟩, ⟨0, 0⟩, ⟨0, 0⟩, ⟨2, 0⟩, ⟨2, 0⟩, ⟨0, 0⟩⟩
            | trace "m: none"
        · first
            | with_reducible exact PIn.later hP (BB gB HV)
            | with_reducible exact PIn.later hP (Below.alloc HV HV.size _)
            | trace "p: none"
        · first
            | with_reducible exact Lib.hid (Below.trans HB.out (Below.mono (BB gB HV) HB.out.size))
            | with_reducible exact Lib.hid (Below.trans HB.out (Below.mono (Below.alloc HV HV.size _) HB.out.size))
            | trace "b: none"
    case rest =>
      clear hS HB hP HV
      obtain ⟨g', rfl, rfl, hT, hP, HB⟩ := hcut
      go_upto_region 5 with fail
      go_region_held3 (fun v => (v.cell? ⟨g, 0, none⟩ = some (.int .i64 7) ∧ v.cell? ⟨g, 1, none⟩ = some (.int .i64 0) ∧ v.cell? ⟨g, 2, none⟩ = some (.int .i64 9) ∧ v.cell? ⟨g, 3, none⟩ = some (.int .i64 0)) ∧ (v.cell? ⟨g', 0, none⟩ = some (.int .i64 2) ∧ v.cell? ⟨g', 1, none⟩ = some (.int .i64 0) ∧ v.cell? ⟨g', 2, none⟩ = some (.int .i64 0) ∧ v.cell? ⟨g', 3, none⟩ = some (.int .i64 0) ∧ v.cell? ⟨g', 4, none⟩ = some (.int .i64 0) ∧ v.cell? ⟨g', 5, none⟩ = some (.int .i64 0) ∧ v.cell? ⟨g', 6, none⟩ = some (.int .i64 2) ∧ v.cell? ⟨g', 7, none⟩ = some (.int .i64 0) ∧ v.cell? ⟨g', 8, none⟩ = some (.int .i64 2) ∧ v.cell? ⟨g', 9, none⟩ = some (.int .i64 0) ∧ v.cell? ⟨g', 10, none⟩ = some (.int .i64 0) ∧ v.cell? ⟨g', 11, none⟩ = some (.int .i64 0))) (first | assumption | exact ⟨hP, hT⟩ | go_keep)
        (first
          | (go_at_call 32; (with_reducible refine (whole_any _ _).mono ?_); rintro e v ⟨rfl, k⟩; (first | (have k := undrew k) | (have k := Below.mono k (Nat.le_refl _))); have HB := Lib.hid (HB.out.trans (k.mono HB.out.size)); have hP := PIn.later hP k; have hT := MIn.later hT k)
          | (go_at_call 12; (with_reducible refine (aw_check _).mono ?_); rintro e v ⟨rfl, k⟩; (first | (have k := undrew k) | (have k := Below.mono k (Nat.le_refl _))); have HB := Lib.hid (HB.out.trans (k.mono HB.out.size)); have hP := PIn.later hP k; have hT := MIn.later hT k))
      go_wp2
      go_ret
      first
        | exact ⟨rfl, HB.out⟩
        | exact ⟨rfl, HB.out.drew⟩
end Go.Proofs.Ytpdjooeogpidhaa
