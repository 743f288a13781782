/- The walk of DecOrder where a number is not valid; and the whole. -/
import Derived.Test.YtdadnljhmfllbaaDoorDecOrderW
namespace Go.Proofs.YtdadnljhmfllbaaDoor
open Go.RowKit Dec

theorem cmp_some (m s m' s' : Int) (w : World) :
    Calls Tryd.prog 20 #[.agg #[.int .i64 m, .int .i64 s], .agg #[.int .i64 m', .int .i64 s']] w fun e w' => ∃ X E : Int, e = .returned (.tuple #[.int .i64 X, .int .i64 E]) ∧ Below w.heap.size w w' := by
  by_cases h : Valid m s ∧ Valid m' s'
  · exact (cmp_ok m m' s s' w h.1 h.2).mono fun _ _ ⟨a, b⟩ => ⟨_, _, a, b⟩
  · exact (cmp_bad m s m' s' w h).mono fun _ _ ⟨a, b⟩ => ⟨_, _, a, b⟩

set_option maxHeartbeats 2000000 in
theorem order_bad_a (Ma Sa Mb Sb Mc Sc : Int) (w : World) (h : Ready w) (Ha : Hid (¬ Valid Ma Sa)) :
    Calls Tryd.prog 7 #[.agg #[.int .i64 Ma, .int .i64 Sa], .agg #[.int .i64 Mb, .int .i64 Sb], .agg #[.int .i64 Mc, .int .i64 Sc]] w fun e w' => e = .returned (.bool true) ∧ Below w.heap.size w w' := by
  have HR := Lib.hid h
  clear h
  go_enter Tryd.func7, Tryd.ntmps7
  go_wp2_with fail
  refine (cmp_bad Ma Sa Mb Sb _ (fun x => Ha.out x.1)).mono ?_
  rintro e w1 ⟨rfl, hb⟩
  obtain ⟨hc, hf⟩ := bcell hb
  have hz := hb.size
  simp at hz
  go_wp2_with fail
  refine (cmp_some Mb Sb Ma Sa _).mono ?_
  rintro e w2 ⟨X2, E2, rfl, hk⟩
  have hb := hb.trans (hk.mono hb.size)
  clear hc hf hz hk
  obtain ⟨hc, hf⟩ := bcell hb
  have hz := hb.size
  simp at hz
  go_wp2_with fail
  refine (cmp_some Mb Sb Mc Sc _).mono ?_
  rintro e w3 ⟨X3, E3, rfl, hk⟩
  have hb := hb.trans (hk.mono hb.size)
  clear hc hf hz hk
  obtain ⟨hc, hf⟩ := bcell hb
  have hz := hb.size
  simp at hz
  go_wp2_with fail
  refine (cmp_some Ma Sa Mc Sc _).mono ?_
  rintro e w4 ⟨X4, E4, rfl, hk⟩
  have hb := hb.trans (hk.mono hb.size)
  clear hc hf hz hk
  obtain ⟨hc, hf⟩ := bcell hb
  have hz := hb.size
  simp at hz
  have HR2 := Lib.hid (HR.out.later ((((((Below.refl _ _).alloc (Nat.le_refl _) _).alloc (by simp) _).alloc (by simp; omega) _)).trans (hb.mono (by simp; omega))))
  go_wp2_with fail
  refine (awake_any _ HR2.out).mono ?_
  rintro e w5 ⟨rfl, hk⟩
  have hb := hb.trans (hk.mono hb.size)
  clear hc hf hz hk
  obtain ⟨hc, hf⟩ := bcell hb
  have hz := hb.size
  simp at hz
  go_wp2_with fail
  refine (check_bad Ma Sa _ Ha.out).mono ?_
  rintro e w6 ⟨rfl, hk⟩
  have hb := hb.trans (hk.mono hb.size)
  clear hc hf hz hk
  obtain ⟨hc, hf⟩ := bcell hb
  have hz := hb.size
  simp at hz
  go_wp2
  go_ret
  exact ⟨rfl, ((((((Below.refl _ _).alloc (Nat.le_refl _) _).alloc (by simp) _).alloc (by simp; omega) _)).trans (hb.mono (by simp; omega)))⟩

set_option maxHeartbeats 2000000 in
theorem order_bad_b (Ma Sa Mb Sb Mc Sc : Int) (w : World) (h : Ready w) (Ha : Hid (Valid Ma Sa)) (Hb : Hid (¬ Valid Mb Sb)) :
    Calls Tryd.prog 7 #[.agg #[.int .i64 Ma, .int .i64 Sa], .agg #[.int .i64 Mb, .int .i64 Sb], .agg #[.int .i64 Mc, .int .i64 Sc]] w fun e w' => e = .returned (.bool true) ∧ Below w.heap.size w w' := by
  have HR := Lib.hid h
  clear h
  go_enter Tryd.func7, Tryd.ntmps7
  go_wp2_with fail
  refine (cmp_bad Ma Sa Mb Sb _ (fun x => Hb.out x.2)).mono ?_
  rintro e w1 ⟨rfl, hb⟩
  obtain ⟨hc, hf⟩ := bcell hb
  have hz := hb.size
  simp at hz
  go_wp2_with fail
  refine (cmp_some Mb Sb Ma Sa _).mono ?_
  rintro e w2 ⟨X2, E2, rfl, hk⟩
  have hb := hb.trans (hk.mono hb.size)
  clear hc hf hz hk
  obtain ⟨hc, hf⟩ := bcell hb
  have hz := hb.size
  simp at hz
  go_wp2_with fail
  refine (cmp_some Mb Sb Mc Sc _).mono ?_
  rintro e w3 ⟨X3, E3, rfl, hk⟩
  have hb := hb.trans (hk.mono hb.size)
  clear hc hf hz hk
  obtain ⟨hc, hf⟩ := bcell hb
  have hz := hb.size
  simp at hz
  go_wp2_with fail
  refine (cmp_some Ma Sa Mc Sc _).mono ?_
  rintro e w4 ⟨X4, E4, rfl, hk⟩
  have hb := hb.trans (hk.mono hb.size)
  clear hc hf hz hk
  obtain ⟨hc, hf⟩ := bcell hb
  have hz := hb.size
  simp at hz
  have HR2 := Lib.hid (HR.out.later ((((((Below.refl _ _).alloc (Nat.le_refl _) _).alloc (by simp) _).alloc (by simp; omega) _)).trans (hb.mono (by simp; omega))))
  go_wp2_with fail
  refine (awake_any _ HR2.out).mono ?_
  rintro e w5 ⟨rfl, hk⟩
  have hb := hb.trans (hk.mono hb.size)
  clear hc hf hz hk
  obtain ⟨hc, hf⟩ := bcell hb
  have hz := hb.size
  simp at hz
  go_wp2_with fail
  refine (check_ok Ma Sa _ Ha.out).mono ?_
  rintro e w6 ⟨rfl, hk⟩
  have hb := hb.trans (hk.mono hb.size)
  clear hc hf hz hk
  obtain ⟨hc, hf⟩ := bcell hb
  have hz := hb.size
  simp at hz
  go_wp2_with fail
  refine (check_bad Mb Sb _ Hb.out).mono ?_
  rintro e w7 ⟨rfl, hk⟩
  have hb := hb.trans (hk.mono hb.size)
  clear hc hf hz hk
  obtain ⟨hc, hf⟩ := bcell hb
  have hz := hb.size
  simp at hz
  go_wp2
  go_ret
  exact ⟨rfl, ((((((Below.refl _ _).alloc (Nat.le_refl _) _).alloc (by simp) _).alloc (by simp; omega) _)).trans (hb.mono (by simp; omega)))⟩

set_option maxHeartbeats 2000000 in
theorem order_bad_c (Ma Sa Mb Sb Mc Sc : Int) (w : World) (h : Ready w) (Ha : Hid (Valid Ma Sa)) (Hb : Hid (Valid Mb Sb)) (Hc : Hid (¬ Valid Mc Sc)) :
    Calls Tryd.prog 7 #[.agg #[.int .i64 Ma, .int .i64 Sa], .agg #[.int .i64 Mb, .int .i64 Sb], .agg #[.int .i64 Mc, .int .i64 Sc]] w fun e w' => e = .returned (.bool true) ∧ Below w.heap.size w w' := by
  have HR := Lib.hid h
  clear h
  go_enter Tryd.func7, Tryd.ntmps7
  go_wp2_with fail
  refine (cmp_ok Ma Mb Sa Sb _ Ha.out Hb.out).mono ?_
  rintro e w1 ⟨rfl, hb⟩
  obtain ⟨hc, hf⟩ := bcell hb
  have hz := hb.size
  simp at hz
  go_wp2_with fail
  refine (cmp_some Mb Sb Ma Sa _).mono ?_
  rintro e w2 ⟨X2, E2, rfl, hk⟩
  have hb := hb.trans (hk.mono hb.size)
  clear hc hf hz hk
  obtain ⟨hc, hf⟩ := bcell hb
  have hz := hb.size
  simp at hz
  go_wp2_with fail
  refine (cmp_bad Mb Sb Mc Sc _ (fun x => Hc.out x.2)).mono ?_
  rintro e w3 ⟨rfl, hk⟩
  have hb := hb.trans (hk.mono hb.size)
  clear hc hf hz hk
  obtain ⟨hc, hf⟩ := bcell hb
  have hz := hb.size
  simp at hz
  go_wp2_with fail
  refine (cmp_some Ma Sa Mc Sc _).mono ?_
  rintro e w4 ⟨X4, E4, rfl, hk⟩
  have hb := hb.trans (hk.mono hb.size)
  clear hc hf hz hk
  obtain ⟨hc, hf⟩ := bcell hb
  have hz := hb.size
  simp at hz
  have HR2 := Lib.hid (HR.out.later ((((((Below.refl _ _).alloc (Nat.le_refl _) _).alloc (by simp) _).alloc (by simp; omega) _)).trans (hb.mono (by simp; omega))))
  go_wp2_with fail
  refine (awake_any _ HR2.out).mono ?_
  rintro e w5 ⟨rfl, hk⟩
  have hb := hb.trans (hk.mono hb.size)
  clear hc hf hz hk
  obtain ⟨hc, hf⟩ := bcell hb
  have hz := hb.size
  simp at hz
  go_wp2_with fail
  refine (check_ok Ma Sa _ Ha.out).mono ?_
  rintro e w6 ⟨rfl, hk⟩
  have hb := hb.trans (hk.mono hb.size)
  clear hc hf hz hk
  obtain ⟨hc, hf⟩ := bcell hb
  have hz := hb.size
  simp at hz
  go_wp2_with fail
  refine (check_ok Mb Sb _ Hb.out).mono ?_
  rintro e w7 ⟨rfl, hk⟩
  have hb := hb.trans (hk.mono hb.size)
  clear hc hf hz hk
  obtain ⟨hc, hf⟩ := bcell hb
  have hz := hb.size
  simp at hz
  go_wp2_with fail
  refine (check_bad Mc Sc _ Hc.out).mono ?_
  rintro e w8 ⟨rfl, hk⟩
  have hb := hb.trans (hk.mono hb.size)
  clear hc hf hz hk
  obtain ⟨hc, hf⟩ := bcell hb
  have hz := hb.size
  simp at hz
  go_wp2
  go_ret
  exact ⟨rfl, ((((((Below.refl _ _).alloc (Nat.le_refl _) _).alloc (by simp) _).alloc (by simp; omega) _)).trans (hb.mono (by simp; omega)))⟩

theorem order_any (Ma Sa Mb Sb Mc Sc : Int) (w : World) (h : Ready w) :
    Calls Tryd.prog 7 #[.agg #[.int .i64 Ma, .int .i64 Sa], .agg #[.int .i64 Mb, .int .i64 Sb], .agg #[.int .i64 Mc, .int .i64 Sc]] w fun e w' => e = .returned (.bool true) ∧ Below w.heap.size w w' := by
  by_cases va : Valid Ma Sa
  · by_cases vb : Valid Mb Sb
    · by_cases vc : Valid Mc Sc
      · obtain ⟨Md, Sd, Ed, hd⟩ := make_told (val9 Ma Sa + val9 (-Mb) Sb) 9
        exact order_ok Ma Sa Mb Sb Mc Sc _ _ _ _ Md Sd Ed w h ⟨va, vb, vc, rfl, rfl, rfl, rfl, hd⟩
      · exact order_bad_c Ma Sa Mb Sb Mc Sc w h va vb vc
    · exact order_bad_b Ma Sa Mb Sb Mc Sc w h va vb
  · exact order_bad_a Ma Sa Mb Sb Mc Sc w h va
end Go.Proofs.YtdadnljhmfllbaaDoor
