/- The walk of dec's Neg. -/
import Derived.Test.YtbdnefmkbamdpaaDoorDecWalkA
namespace Go.Proofs.YtbdnefmkbamdpaaDoor
open Go.RowKit Dec

theorem neg_ok (m s : Int) (w : World) (hv : Valid m s) :
    Calls Tryd.prog 18 #[.agg #[.int .i64 m, .int .i64 s]] w fun e w' => e = .returned (.tuple #[.agg #[.int .i64 (-m), .int .i64 s], .int .i64 0]) ∧ Below w.heap.size w w' := by
  have hm1 := hv.1
  have hm2 := hv.2.1
  have H := Lib.hid hv
  clear hv
  go_enter Tryd.func18, Tryd.ntmps18
  go_wp2_with (go_at_call 20; refine (check_ok _ _ _ H.out).mono ?_; rintro e w1 ⟨rfl, hb⟩; obtain ⟨hc, hf⟩ := bcell hb; have hz := hb.size; simp at hz)
  exact bodyPost_ret (v := .tuple #[.agg #[.int .i64 (-m), .int .i64 s], .int .i64 0]) (by simp [results, Tryd.results18, go_sem, hc]) rfl ⟨rfl, (((((Below.refl _ _).alloc (Nat.le_refl _) _).alloc (by simp) _).trans (hb.mono (by simp; omega))).setCell (by simp) _).setCell (by simp) _⟩
theorem neg_bad (m s : Int) (w : World) (hv : ¬ Valid m s) :
    Calls Tryd.prog 18 #[.agg #[.int .i64 m, .int .i64 s]] w fun e w' => e = .returned (.tuple #[.agg #[.int .i64 0, .int .i64 0], .int .i64 1]) ∧ Below w.heap.size w w' := by
  have H := Lib.hid hv
  clear hv
  go_enter Tryd.func18, Tryd.ntmps18
  go_wp2_with (go_at_call 20; refine (check_bad _ _ _ H.out).mono ?_; rintro e w1 ⟨rfl, hb⟩; obtain ⟨hc, hf⟩ := bcell hb; have hz := hb.size; simp at hz)
  exact bodyPost_ret (v := .tuple #[.agg #[.int .i64 0, .int .i64 0], .int .i64 1]) (by simp [results, Tryd.results18, go_sem, hc]) rfl ⟨rfl, (((((Below.refl _ _).alloc (Nat.le_refl _) _).alloc (by simp) _).trans (hb.mono (by simp; omega))).setCell (by simp) _).setCell (by simp) _⟩
end Go.Proofs.YtbdnefmkbamdpaaDoor
