/- The walks of box's checkBoth, Meets, cornersOf. -/
import Derived.Test.YtdlmhienolmncaaGreatBoxWalkA
namespace Go.Proofs.YtdlmhienolmncaaGreat
open Go.RowKit Dec

/-- What checkBoth answers. -/
def ChkTwo (a b : BV) (E : Int) : Prop := (a.Ok ∧ b.Ok ∧ E = 0) ∨ (¬ (a.Ok ∧ b.Ok) ∧ E = 1)
theorem bchk_bad (a b : BV) (w : World) (h : Hid (ChkIs a 1)) :
    Calls Tryz.prog 82 #[a.val, b.val] w fun e w' => e = .returned (.int .i64 1) ∧ Below w.heap.size w w' := by
  go_enter Tryz.func82, Tryz.ntmps82
  go_wp2_with fail
  refine (bcheck_any a _ 1 h.out).mono ?_
  rintro e w1 ⟨rfl, hb⟩
  obtain ⟨hc, hf⟩ := bcell hb
  have hz := hb.size
  simp at hz
  have l0 : w.heap.size < w1.heap.size := (by omega); have l1 : w.heap.size + 1 < w1.heap.size := (by omega)
  go_wp2
  go_ret
  exact ⟨rfl, by (repeat (first | with_reducible exact Below.refl _ _ | with_reducible refine Below.drew ?_ | with_reducible refine bdrewN ?_ _ | (with_reducible refine Below.setCell ?_ ?_ _; rotate_left; focus (first | exact Nat.le_refl _ | omega | (simp; omega) | (simp; done))) | (with_reducible refine Below.alloc ?_ ?_ _; rotate_left; focus (first | exact Nat.le_refl _ | omega | (simp; omega) | (simp; done))) | (with_reducible refine Below.trans ?_ (Below.mono (by assumption) ?_); rotate_left; focus (first | exact Nat.le_refl _ | omega | (simp; omega) | (simp; done)))))⟩
theorem bchk_ok (a b : BV) (w : World) (E : Int) (h : Hid (ChkIs a 0)) (h' : Hid (ChkIs b E)) :
    Calls Tryz.prog 82 #[a.val, b.val] w fun e w' => e = .returned (.int .i64 E) ∧ Below w.heap.size w w' := by
  go_enter Tryz.func82, Tryz.ntmps82
  go_wp2_with fail
  refine (bcheck_any a _ 0 h.out).mono ?_
  rintro e w1 ⟨rfl, hb⟩
  obtain ⟨hc, hf⟩ := bcell hb
  have hz := hb.size
  simp at hz
  have l0 : w.heap.size < w1.heap.size := (by omega); have l1 : w.heap.size + 1 < w1.heap.size := (by omega)
  go_wp2_with fail
  refine (bcheck_any b _ E h'.out).mono ?_
  rintro e w2 ⟨rfl, hk⟩
  have hb := hb.trans (hk.mono hb.size)
  clear hc hf hz hk l0 l1
  obtain ⟨hc, hf⟩ := bcell hb
  have hz := hb.size
  simp at hz
  have l0 : w.heap.size < w2.heap.size := (by omega); have l1 : w.heap.size + 1 < w2.heap.size := (by omega)
  go_wp2
  go_ret
  exact ⟨rfl, by (repeat (first | with_reducible exact Below.refl _ _ | with_reducible refine Below.drew ?_ | with_reducible refine bdrewN ?_ _ | (with_reducible refine Below.setCell ?_ ?_ _; rotate_left; focus (first | exact Nat.le_refl _ | omega | (simp; omega) | (simp; done))) | (with_reducible refine Below.alloc ?_ ?_ _; rotate_left; focus (first | exact Nat.le_refl _ | omega | (simp; omega) | (simp; done))) | (with_reducible refine Below.trans ?_ (Below.mono (by assumption) ?_); rotate_left; focus (first | exact Nat.le_refl _ | omega | (simp; omega) | (simp; done)))))⟩
theorem chkTwo_any (a b : BV) (w : World) (E : Int) (h : ChkTwo a b E) :
    Calls Tryz.prog 82 #[a.val, b.val] w fun e w' => e = .returned (.int .i64 E) ∧ Below w.heap.size w w' := by
  by_cases ha : a.Ok
  · refine bchk_ok a b w E (.inl ⟨ha, rfl⟩) ?_
    rcases h with ⟨-, h, rfl⟩ | ⟨h, rfl⟩
    · exact .inl ⟨h, rfl⟩
    · exact .inr ⟨fun h' => h ⟨ha, h'⟩, rfl⟩
  · obtain rfl : E = 1 := by
      rcases h with ⟨h, -⟩ | ⟨-, h⟩
      · exact absurd h ha
      · exact h
    exact bchk_bad a b w (.inr ⟨ha, rfl⟩)

/-- What Meets answers. -/
def MeetIs (a b : BV) (r : Bool) (E : Int) : Prop := (a.Ok ∧ b.Ok ∧ r = meetB a b ∧ E = 0) ∨ (¬ (a.Ok ∧ b.Ok) ∧ r = false ∧ E = 1)
theorem MeetIs.total (a b : BV) : ∃ r E, MeetIs a b r E := by
  by_cases h : a.Ok ∧ b.Ok
  · exact ⟨_, _, .inl ⟨h.1, h.2, rfl, rfl⟩⟩
  · exact ⟨_, _, .inr ⟨h, rfl, rfl⟩⟩
theorem meets_bad (a b : BV) (w : World) (h : Hid (ChkTwo a b 1)) :
    Calls Tryz.prog 51 #[a.val, b.val] w fun e w' => e = .returned (.tuple #[.bool false, .int .i64 1]) ∧ Below w.heap.size w w' := by
  go_enter Tryz.func51, Tryz.ntmps51
  go_wp2_with fail
  refine (chkTwo_any a b _ 1 h.out).mono ?_
  rintro e w1 ⟨rfl, hb⟩
  obtain ⟨hc, hf⟩ := bcell hb
  have hz := hb.size
  simp at hz
  have l0 : w.heap.size < w1.heap.size := (by omega); have l1 : w.heap.size + 1 < w1.heap.size := (by omega)
  go_wp2
  go_ret2
  exact ⟨rfl, by (repeat (first | with_reducible exact Below.refl _ _ | with_reducible refine Below.drew ?_ | with_reducible refine bdrewN ?_ _ | (with_reducible refine Below.setCell ?_ ?_ _; rotate_left; focus (first | exact Nat.le_refl _ | omega | (simp; omega) | (simp; done))) | (with_reducible refine Below.alloc ?_ ?_ _; rotate_left; focus (first | exact Nat.le_refl _ | omega | (simp; omega) | (simp; done))) | (with_reducible refine Below.trans ?_ (Below.mono (by assumption) ?_); rotate_left; focus (first | exact Nat.le_refl _ | omega | (simp; omega) | (simp; done)))))⟩
set_option maxHeartbeats 400000 in
theorem meets_10_10 (a b : BV) (w : World) (h : Hid (ChkTwo a b 0)) (H1 : Hid (leB a.x0 b.x1 = true)) (H2 : Hid (leB b.x0 a.x1 = false)) (H3 : Hid (leB a.y0 b.y1 = true)) (H4 : Hid (leB b.y0 a.y1 = false)) :
    Calls Tryz.prog 51 #[a.val, b.val] w fun e w' => e = .returned (.tuple #[.bool false, .int .i64 0]) ∧ Below w.heap.size w w' := by
  go_enter Tryz.func51, Tryz.ntmps51
  go_wp2_with fail
  refine (chkTwo_any a b _ 0 h.out).mono ?_
  rintro e w1 ⟨rfl, hb⟩
  obtain ⟨hc, hf⟩ := bcell hb
  have hz := hb.size
  simp at hz
  have l0 : w.heap.size < w1.heap.size := (by omega); have l1 : w.heap.size + 1 < w1.heap.size := (by omega)
  go_wp2_with fail
  refine (atMost_any a.x0 b.x1 _ true H1.out).mono ?_
  rintro e w2 ⟨rfl, hk⟩
  have hb := hb.trans (hk.mono hb.size)
  clear hc hf hz hk l0 l1
  obtain ⟨hc, hf⟩ := bcell hb
  have hz := hb.size
  simp at hz
  have l0 : w.heap.size < w2.heap.size := (by omega); have l1 : w.heap.size + 1 < w2.heap.size := (by omega)
  go_wp2_with fail
  refine (atMost_any b.x0 a.x1 _ false H2.out).mono ?_
  rintro e w3 ⟨rfl, hk⟩
  have hb := hb.trans (hk.mono hb.size)
  clear hc hf hz hk l0 l1
  obtain ⟨hc, hf⟩ := bcell hb
  have hz := hb.size
  simp at hz
  have l0 : w.heap.size < w3.heap.size := (by omega); have l1 : w.heap.size + 1 < w3.heap.size := (by omega)
  go_wp2_with fail
  refine (atMost_any a.y0 b.y1 _ true H3.out).mono ?_
  rintro e w4 ⟨rfl, hk⟩
  have hb := hb.trans (hk.mono hb.size)
  clear hc hf hz hk l0 l1
  obtain ⟨hc, hf⟩ := bcell hb
  have hz := hb.size
  simp at hz
  have l0 : w.heap.size < w4.heap.size := (by omega); have l1 : w.heap.size + 1 < w4.heap.size := (by omega)
  go_wp2_with fail
  refine (atMost_any b.y0 a.y1 _ false H4.out).mono ?_
  rintro e w5 ⟨rfl, hk⟩
  have hb := hb.trans (hk.mono hb.size)
  clear hc hf hz hk l0 l1
  obtain ⟨hc, hf⟩ := bcell hb
  have hz := hb.size
  simp at hz
  have l0 : w.heap.size < w5.heap.size := (by omega); have l1 : w.heap.size + 1 < w5.heap.size := (by omega)
  go_wp2
  go_ret2
  exact ⟨rfl, by (repeat (first | with_reducible exact Below.refl _ _ | with_reducible refine Below.drew ?_ | with_reducible refine bdrewN ?_ _ | (with_reducible refine Below.setCell ?_ ?_ _; rotate_left; focus (first | exact Nat.le_refl _ | omega | (simp; omega) | (simp; done))) | (with_reducible refine Below.alloc ?_ ?_ _; rotate_left; focus (first | exact Nat.le_refl _ | omega | (simp; omega) | (simp; done))) | (with_reducible refine Below.trans ?_ (Below.mono (by assumption) ?_); rotate_left; focus (first | exact Nat.le_refl _ | omega | (simp; omega) | (simp; done)))))⟩
set_option maxHeartbeats 400000 in
theorem meets_10_11 (a b : BV) (w : World) (h : Hid (ChkTwo a b 0)) (H1 : Hid (leB a.x0 b.x1 = true)) (H2 : Hid (leB b.x0 a.x1 = false)) (H3 : Hid (leB a.y0 b.y1 = true)) (H4 : Hid (leB b.y0 a.y1 = true)) :
    Calls Tryz.prog 51 #[a.val, b.val] w fun e w' => e = .returned (.tuple #[.bool false, .int .i64 0]) ∧ Below w.heap.size w w' := by
  go_enter Tryz.func51, Tryz.ntmps51
  go_wp2_with fail
  refine (chkTwo_any a b _ 0 h.out).mono ?_
  rintro e w1 ⟨rfl, hb⟩
  obtain ⟨hc, hf⟩ := bcell hb
  have hz := hb.size
  simp at hz
  have l0 : w.heap.size < w1.heap.size := (by omega); have l1 : w.heap.size + 1 < w1.heap.size := (by omega)
  go_wp2_with fail
  refine (atMost_any a.x0 b.x1 _ true H1.out).mono ?_
  rintro e w2 ⟨rfl, hk⟩
  have hb := hb.trans (hk.mono hb.size)
  clear hc hf hz hk l0 l1
  obtain ⟨hc, hf⟩ := bcell hb
  have hz := hb.size
  simp at hz
  have l0 : w.heap.size < w2.heap.size := (by omega); have l1 : w.heap.size + 1 < w2.heap.size := (by omega)
  go_wp2_with fail
  refine (atMost_any b.x0 a.x1 _ false H2.out).mono ?_
  rintro e w3 ⟨rfl, hk⟩
  have hb := hb.trans (hk.mono hb.size)
  clear hc hf hz hk l0 l1
  obtain ⟨hc, hf⟩ := bcell hb
  have hz := hb.size
  simp at hz
  have l0 : w.heap.size < w3.heap.size := (by omega); have l1 : w.heap.size + 1 < w3.heap.size := (by omega)
  go_wp2_with fail
  refine (atMost_any a.y0 b.y1 _ true H3.out).mono ?_
  rintro e w4 ⟨rfl, hk⟩
  have hb := hb.trans (hk.mono hb.size)
  clear hc hf hz hk l0 l1
  obtain ⟨hc, hf⟩ := bcell hb
  have hz := hb.size
  simp at hz
  have l0 : w.heap.size < w4.heap.size := (by omega); have l1 : w.heap.size + 1 < w4.heap.size := (by omega)
  go_wp2_with fail
  refine (atMost_any b.y0 a.y1 _ true H4.out).mono ?_
  rintro e w5 ⟨rfl, hk⟩
  have hb := hb.trans (hk.mono hb.size)
  clear hc hf hz hk l0 l1
  obtain ⟨hc, hf⟩ := bcell hb
  have hz := hb.size
  simp at hz
  have l0 : w.heap.size < w5.heap.size := (by omega); have l1 : w.heap.size + 1 < w5.heap.size := (by omega)
  go_wp2
  go_ret2
  exact ⟨rfl, by (repeat (first | with_reducible exact Below.refl _ _ | with_reducible refine Below.drew ?_ | with_reducible refine bdrewN ?_ _ | (with_reducible refine Below.setCell ?_ ?_ _; rotate_left; focus (first | exact Nat.le_refl _ | omega | (simp; omega) | (simp; done))) | (with_reducible refine Below.alloc ?_ ?_ _; rotate_left; focus (first | exact Nat.le_refl _ | omega | (simp; omega) | (simp; done))) | (with_reducible refine Below.trans ?_ (Below.mono (by assumption) ?_); rotate_left; focus (first | exact Nat.le_refl _ | omega | (simp; omega) | (simp; done)))))⟩
set_option maxHeartbeats 400000 in
theorem meets_10_0 (a b : BV) (w : World) (h : Hid (ChkTwo a b 0)) (H1 : Hid (leB a.x0 b.x1 = true)) (H2 : Hid (leB b.x0 a.x1 = false)) (H3 : Hid (leB a.y0 b.y1 = false)) :
    Calls Tryz.prog 51 #[a.val, b.val] w fun e w' => e = .returned (.tuple #[.bool false, .int .i64 0]) ∧ Below w.heap.size w w' := by
  go_enter Tryz.func51, Tryz.ntmps51
  go_wp2_with fail
  refine (chkTwo_any a b _ 0 h.out).mono ?_
  rintro e w1 ⟨rfl, hb⟩
  obtain ⟨hc, hf⟩ := bcell hb
  have hz := hb.size
  simp at hz
  have l0 : w.heap.size < w1.heap.size := (by omega); have l1 : w.heap.size + 1 < w1.heap.size := (by omega)
  go_wp2_with fail
  refine (atMost_any a.x0 b.x1 _ true H1.out).mono ?_
  rintro e w2 ⟨rfl, hk⟩
  have hb := hb.trans (hk.mono hb.size)
  clear hc hf hz hk l0 l1
  obtain ⟨hc, hf⟩ := bcell hb
  have hz := hb.size
  simp at hz
  have l0 : w.heap.size < w2.heap.size := (by omega); have l1 : w.heap.size + 1 < w2.heap.size := (by omega)
  go_wp2_with fail
  refine (atMost_any b.x0 a.x1 _ false H2.out).mono ?_
  rintro e w3 ⟨rfl, hk⟩
  have hb := hb.trans (hk.mono hb.size)
  clear hc hf hz hk l0 l1
  obtain ⟨hc, hf⟩ := bcell hb
  have hz := hb.size
  simp at hz
  have l0 : w.heap.size < w3.heap.size := (by omega); have l1 : w.heap.size + 1 < w3.heap.size := (by omega)
  go_wp2_with fail
  refine (atMost_any a.y0 b.y1 _ false H3.out).mono ?_
  rintro e w4 ⟨rfl, hk⟩
  have hb := hb.trans (hk.mono hb.size)
  clear hc hf hz hk l0 l1
  obtain ⟨hc, hf⟩ := bcell hb
  have hz := hb.size
  simp at hz
  have l0 : w.heap.size < w4.heap.size := (by omega); have l1 : w.heap.size + 1 < w4.heap.size := (by omega)
  go_wp2
  go_ret2
  exact ⟨rfl, by (repeat (first | with_reducible exact Below.refl _ _ | with_reducible refine Below.drew ?_ | with_reducible refine bdrewN ?_ _ | (with_reducible refine Below.setCell ?_ ?_ _; rotate_left; focus (first | exact Nat.le_refl _ | omega | (simp; omega) | (simp; done))) | (with_reducible refine Below.alloc ?_ ?_ _; rotate_left; focus (first | exact Nat.le_refl _ | omega | (simp; omega) | (simp; done))) | (with_reducible refine Below.trans ?_ (Below.mono (by assumption) ?_); rotate_left; focus (first | exact Nat.le_refl _ | omega | (simp; omega) | (simp; done)))))⟩
set_option maxHeartbeats 400000 in
theorem meets_11_10 (a b : BV) (w : World) (h : Hid (ChkTwo a b 0)) (H1 : Hid (leB a.x0 b.x1 = true)) (H2 : Hid (leB b.x0 a.x1 = true)) (H3 : Hid (leB a.y0 b.y1 = true)) (H4 : Hid (leB b.y0 a.y1 = false)) :
    Calls Tryz.prog 51 #[a.val, b.val] w fun e w' => e = .returned (.tuple #[.bool false, .int .i64 0]) ∧ Below w.heap.size w w' := by
  go_enter Tryz.func51, Tryz.ntmps51
  go_wp2_with fail
  refine (chkTwo_any a b _ 0 h.out).mono ?_
  rintro e w1 ⟨rfl, hb⟩
  obtain ⟨hc, hf⟩ := bcell hb
  have hz := hb.size
  simp at hz
  have l0 : w.heap.size < w1.heap.size := (by omega); have l1 : w.heap.size + 1 < w1.heap.size := (by omega)
  go_wp2_with fail
  refine (atMost_any a.x0 b.x1 _ true H1.out).mono ?_
  rintro e w2 ⟨rfl, hk⟩
  have hb := hb.trans (hk.mono hb.size)
  clear hc hf hz hk l0 l1
  obtain ⟨hc, hf⟩ := bcell hb
  have hz := hb.size
  simp at hz
  have l0 : w.heap.size < w2.heap.size := (by omega); have l1 : w.heap.size + 1 < w2.heap.size := (by omega)
  go_wp2_with fail
  refine (atMost_any b.x0 a.x1 _ true H2.out).mono ?_
  rintro e w3 ⟨rfl, hk⟩
  have hb := hb.trans (hk.mono hb.size)
  clear hc hf hz hk l0 l1
  obtain ⟨hc, hf⟩ := bcell hb
  have hz := hb.size
  simp at hz
  have l0 : w.heap.size < w3.heap.size := (by omega); have l1 : w.heap.size + 1 < w3.heap.size := (by omega)
  go_wp2_with fail
  refine (atMost_any a.y0 b.y1 _ true H3.out).mono ?_
  rintro e w4 ⟨rfl, hk⟩
  have hb := hb.trans (hk.mono hb.size)
  clear hc hf hz hk l0 l1
  obtain ⟨hc, hf⟩ := bcell hb
  have hz := hb.size
  simp at hz
  have l0 : w.heap.size < w4.heap.size := (by omega); have l1 : w.heap.size + 1 < w4.heap.size := (by omega)
  go_wp2_with fail
  refine (atMost_any b.y0 a.y1 _ false H4.out).mono ?_
  rintro e w5 ⟨rfl, hk⟩
  have hb := hb.trans (hk.mono hb.size)
  clear hc hf hz hk l0 l1
  obtain ⟨hc, hf⟩ := bcell hb
  have hz := hb.size
  simp at hz
  have l0 : w.heap.size < w5.heap.size := (by omega); have l1 : w.heap.size + 1 < w5.heap.size := (by omega)
  go_wp2
  go_ret2
  exact ⟨rfl, by (repeat (first | with_reducible exact Below.refl _ _ | with_reducible refine Below.drew ?_ | with_reducible refine bdrewN ?_ _ | (with_reducible refine Below.setCell ?_ ?_ _; rotate_left; focus (first | exact Nat.le_refl _ | omega | (simp; omega) | (simp; done))) | (with_reducible refine Below.alloc ?_ ?_ _; rotate_left; focus (first | exact Nat.le_refl _ | omega | (simp; omega) | (simp; done))) | (with_reducible refine Below.trans ?_ (Below.mono (by assumption) ?_); rotate_left; focus (first | exact Nat.le_refl _ | omega | (simp; omega) | (simp; done)))))⟩
set_option maxHeartbeats 400000 in
theorem meets_11_11 (a b : BV) (w : World) (h : Hid (ChkTwo a b 0)) (H1 : Hid (leB a.x0 b.x1 = true)) (H2 : Hid (leB b.x0 a.x1 = true)) (H3 : Hid (leB a.y0 b.y1 = true)) (H4 : Hid (leB b.y0 a.y1 = true)) :
    Calls Tryz.prog 51 #[a.val, b.val] w fun e w' => e = .returned (.tuple #[.bool true, .int .i64 0]) ∧ Below w.heap.size w w' := by
  go_enter Tryz.func51, Tryz.ntmps51
  go_wp2_with fail
  refine (chkTwo_any a b _ 0 h.out).mono ?_
  rintro e w1 ⟨rfl, hb⟩
  obtain ⟨hc, hf⟩ := bcell hb
  have hz := hb.size
  simp at hz
  have l0 : w.heap.size < w1.heap.size := (by omega); have l1 : w.heap.size + 1 < w1.heap.size := (by omega)
  go_wp2_with fail
  refine (atMost_any a.x0 b.x1 _ true H1.out).mono ?_
  rintro e w2 ⟨rfl, hk⟩
  have hb := hb.trans (hk.mono hb.size)
  clear hc hf hz hk l0 l1
  obtain ⟨hc, hf⟩ := bcell hb
  have hz := hb.size
  simp at hz
  have l0 : w.heap.size < w2.heap.size := (by omega); have l1 : w.heap.size + 1 < w2.heap.size := (by omega)
  go_wp2_with fail
  refine (atMost_any b.x0 a.x1 _ true H2.out).mono ?_
  rintro e w3 ⟨rfl, hk⟩
  have hb := hb.trans (hk.mono hb.size)
  clear hc hf hz hk l0 l1
  obtain ⟨hc, hf⟩ := bcell hb
  have hz := hb.size
  simp at hz
  have l0 : w.heap.size < w3.heap.size := (by omega); have l1 : w.heap.size + 1 < w3.heap.size := (by omega)
  go_wp2_with fail
  refine (atMost_any a.y0 b.y1 _ true H3.out).mono ?_
  rintro e w4 ⟨rfl, hk⟩
  have hb := hb.trans (hk.mono hb.size)
  clear hc hf hz hk l0 l1
  obtain ⟨hc, hf⟩ := bcell hb
  have hz := hb.size
  simp at hz
  have l0 : w.heap.size < w4.heap.size := (by omega); have l1 : w.heap.size + 1 < w4.heap.size := (by omega)
  go_wp2_with fail
  refine (atMost_any b.y0 a.y1 _ true H4.out).mono ?_
  rintro e w5 ⟨rfl, hk⟩
  have hb := hb.trans (hk.mono hb.size)
  clear hc hf hz hk l0 l1
  obtain ⟨hc, hf⟩ := bcell hb
  have hz := hb.size
  simp at hz
  have l0 : w.heap.size < w5.heap.size := (by omega); have l1 : w.heap.size + 1 < w5.heap.size := (by omega)
  go_wp2
  go_ret2
  exact ⟨rfl, by (repeat (first | with_reducible exact Below.refl _ _ | with_reducible refine Below.drew ?_ | with_reducible refine bdrewN ?_ _ | (with_reducible refine Below.setCell ?_ ?_ _; rotate_left; focus (first | exact Nat.le_refl _ | omega | (simp; omega) | (simp; done))) | (with_reducible refine Below.alloc ?_ ?_ _; rotate_left; focus (first | exact Nat.le_refl _ | omega | (simp; omega) | (simp; done))) | (with_reducible refine Below.trans ?_ (Below.mono (by assumption) ?_); rotate_left; focus (first | exact Nat.le_refl _ | omega | (simp; omega) | (simp; done)))))⟩
set_option maxHeartbeats 400000 in
theorem meets_11_0 (a b : BV) (w : World) (h : Hid (ChkTwo a b 0)) (H1 : Hid (leB a.x0 b.x1 = true)) (H2 : Hid (leB b.x0 a.x1 = true)) (H3 : Hid (leB a.y0 b.y1 = false)) :
    Calls Tryz.prog 51 #[a.val, b.val] w fun e w' => e = .returned (.tuple #[.bool false, .int .i64 0]) ∧ Below w.heap.size w w' := by
  go_enter Tryz.func51, Tryz.ntmps51
  go_wp2_with fail
  refine (chkTwo_any a b _ 0 h.out).mono ?_
  rintro e w1 ⟨rfl, hb⟩
  obtain ⟨hc, hf⟩ := bcell hb
  have hz := hb.size
  simp at hz
  have l0 : w.heap.size < w1.heap.size := (by omega); have l1 : w.heap.size + 1 < w1.heap.size := (by omega)
  go_wp2_with fail
  refine (atMost_any a.x0 b.x1 _ true H1.out).mono ?_
  rintro e w2 ⟨rfl, hk⟩
  have hb := hb.trans (hk.mono hb.size)
  clear hc hf hz hk l0 l1
  obtain ⟨hc, hf⟩ := bcell hb
  have hz := hb.size
  simp at hz
  have l0 : w.heap.size < w2.heap.size := (by omega); have l1 : w.heap.size + 1 < w2.heap.size := (by omega)
  go_wp2_with fail
  refine (atMost_any b.x0 a.x1 _ true H2.out).mono ?_
  rintro e w3 ⟨rfl, hk⟩
  have hb := hb.trans (hk.mono hb.size)
  clear hc hf hz hk l0 l1
  obtain ⟨hc, hf⟩ := bcell hb
  have hz := hb.size
  simp at hz
  have l0 : w.heap.size < w3.heap.size := (by omega); have l1 : w.heap.size + 1 < w3.heap.size := (by omega)
  go_wp2_with fail
  refine (atMost_any a.y0 b.y1 _ false H3.out).mono ?_
  rintro e w4 ⟨rfl, hk⟩
  have hb := hb.trans (hk.mono hb.size)
  clear hc hf hz hk l0 l1
  obtain ⟨hc, hf⟩ := bcell hb
  have hz := hb.size
  simp at hz
  have l0 : w.heap.size < w4.heap.size := (by omega); have l1 : w.heap.size + 1 < w4.heap.size := (by omega)
  go_wp2
  go_ret2
  exact ⟨rfl, by (repeat (first | with_reducible exact Below.refl _ _ | with_reducible refine Below.drew ?_ | with_reducible refine bdrewN ?_ _ | (with_reducible refine Below.setCell ?_ ?_ _; rotate_left; focus (first | exact Nat.le_refl _ | omega | (simp; omega) | (simp; done))) | (with_reducible refine Below.alloc ?_ ?_ _; rotate_left; focus (first | exact Nat.le_refl _ | omega | (simp; omega) | (simp; done))) | (with_reducible refine Below.trans ?_ (Below.mono (by assumption) ?_); rotate_left; focus (first | exact Nat.le_refl _ | omega | (simp; omega) | (simp; done)))))⟩
set_option maxHeartbeats 400000 in
theorem meets_0_10 (a b : BV) (w : World) (h : Hid (ChkTwo a b 0)) (H1 : Hid (leB a.x0 b.x1 = false)) (H3 : Hid (leB a.y0 b.y1 = true)) (H4 : Hid (leB b.y0 a.y1 = false)) :
    Calls Tryz.prog 51 #[a.val, b.val] w fun e w' => e = .returned (.tuple #[.bool false, .int .i64 0]) ∧ Below w.heap.size w w' := by
  go_enter Tryz.func51, Tryz.ntmps51
  go_wp2_with fail
  refine (chkTwo_any a b _ 0 h.out).mono ?_
  rintro e w1 ⟨rfl, hb⟩
  obtain ⟨hc, hf⟩ := bcell hb
  have hz := hb.size
  simp at hz
  have l0 : w.heap.size < w1.heap.size := (by omega); have l1 : w.heap.size + 1 < w1.heap.size := (by omega)
  go_wp2_with fail
  refine (atMost_any a.x0 b.x1 _ false H1.out).mono ?_
  rintro e w2 ⟨rfl, hk⟩
  have hb := hb.trans (hk.mono hb.size)
  clear hc hf hz hk l0 l1
  obtain ⟨hc, hf⟩ := bcell hb
  have hz := hb.size
  simp at hz
  have l0 : w.heap.size < w2.heap.size := (by omega); have l1 : w.heap.size + 1 < w2.heap.size := (by omega)
  go_wp2_with fail
  refine (atMost_any a.y0 b.y1 _ true H3.out).mono ?_
  rintro e w3 ⟨rfl, hk⟩
  have hb := hb.trans (hk.mono hb.size)
  clear hc hf hz hk l0 l1
  obtain ⟨hc, hf⟩ := bcell hb
  have hz := hb.size
  simp at hz
  have l0 : w.heap.size < w3.heap.size := (by omega); have l1 : w.heap.size + 1 < w3.heap.size := (by omega)
  go_wp2_with fail
  refine (atMost_any b.y0 a.y1 _ false H4.out).mono ?_
  rintro e w4 ⟨rfl, hk⟩
  have hb := hb.trans (hk.mono hb.size)
  clear hc hf hz hk l0 l1
  obtain ⟨hc, hf⟩ := bcell hb
  have hz := hb.size
  simp at hz
  have l0 : w.heap.size < w4.heap.size := (by omega); have l1 : w.heap.size + 1 < w4.heap.size := (by omega)
  go_wp2
  go_ret2
  exact ⟨rfl, by (repeat (first | with_reducible exact Below.refl _ _ | with_reducible refine Below.drew ?_ | with_reducible refine bdrewN ?_ _ | (with_reducible refine Below.setCell ?_ ?_ _; rotate_left; focus (first | exact Nat.le_refl _ | omega | (simp; omega) | (simp; done))) | (with_reducible refine Below.alloc ?_ ?_ _; rotate_left; focus (first | exact Nat.le_refl _ | omega | (simp; omega) | (simp; done))) | (with_reducible refine Below.trans ?_ (Below.mono (by assumption) ?_); rotate_left; focus (first | exact Nat.le_refl _ | omega | (simp; omega) | (simp; done)))))⟩
set_option maxHeartbeats 400000 in
theorem meets_0_11 (a b : BV) (w : World) (h : Hid (ChkTwo a b 0)) (H1 : Hid (leB a.x0 b.x1 = false)) (H3 : Hid (leB a.y0 b.y1 = true)) (H4 : Hid (leB b.y0 a.y1 = true)) :
    Calls Tryz.prog 51 #[a.val, b.val] w fun e w' => e = .returned (.tuple #[.bool false, .int .i64 0]) ∧ Below w.heap.size w w' := by
  go_enter Tryz.func51, Tryz.ntmps51
  go_wp2_with fail
  refine (chkTwo_any a b _ 0 h.out).mono ?_
  rintro e w1 ⟨rfl, hb⟩
  obtain ⟨hc, hf⟩ := bcell hb
  have hz := hb.size
  simp at hz
  have l0 : w.heap.size < w1.heap.size := (by omega); have l1 : w.heap.size + 1 < w1.heap.size := (by omega)
  go_wp2_with fail
  refine (atMost_any a.x0 b.x1 _ false H1.out).mono ?_
  rintro e w2 ⟨rfl, hk⟩
  have hb := hb.trans (hk.mono hb.size)
  clear hc hf hz hk l0 l1
  obtain ⟨hc, hf⟩ := bcell hb
  have hz := hb.size
  simp at hz
  have l0 : w.heap.size < w2.heap.size := (by omega); have l1 : w.heap.size + 1 < w2.heap.size := (by omega)
  go_wp2_with fail
  refine (atMost_any a.y0 b.y1 _ true H3.out).mono ?_
  rintro e w3 ⟨rfl, hk⟩
  have hb := hb.trans (hk.mono hb.size)
  clear hc hf hz hk l0 l1
  obtain ⟨hc, hf⟩ := bcell hb
  have hz := hb.size
  simp at hz
  have l0 : w.heap.size < w3.heap.size := (by omega); have l1 : w.heap.size + 1 < w3.heap.size := (by omega)
  go_wp2_with fail
  refine (atMost_any b.y0 a.y1 _ true H4.out).mono ?_
  rintro e w4 ⟨rfl, hk⟩
  have hb := hb.trans (hk.mono hb.size)
  clear hc hf hz hk l0 l1
  obtain ⟨hc, hf⟩ := bcell hb
  have hz := hb.size
  simp at hz
  have l0 : w.heap.size < w4.heap.size := (by omega); have l1 : w.heap.size + 1 < w4.heap.size := (by omega)
  go_wp2
  go_ret2
  exact ⟨rfl, by (repeat (first | with_reducible exact Below.refl _ _ | with_reducible refine Below.drew ?_ | with_reducible refine bdrewN ?_ _ | (with_reducible refine Below.setCell ?_ ?_ _; rotate_left; focus (first | exact Nat.le_refl _ | omega | (simp; omega) | (simp; done))) | (with_reducible refine Below.alloc ?_ ?_ _; rotate_left; focus (first | exact Nat.le_refl _ | omega | (simp; omega) | (simp; done))) | (with_reducible refine Below.trans ?_ (Below.mono (by assumption) ?_); rotate_left; focus (first | exact Nat.le_refl _ | omega | (simp; omega) | (simp; done)))))⟩
set_option maxHeartbeats 400000 in
theorem meets_0_0 (a b : BV) (w : World) (h : Hid (ChkTwo a b 0)) (H1 : Hid (leB a.x0 b.x1 = false)) (H3 : Hid (leB a.y0 b.y1 = false)) :
    Calls Tryz.prog 51 #[a.val, b.val] w fun e w' => e = .returned (.tuple #[.bool false, .int .i64 0]) ∧ Below w.heap.size w w' := by
  go_enter Tryz.func51, Tryz.ntmps51
  go_wp2_with fail
  refine (chkTwo_any a b _ 0 h.out).mono ?_
  rintro e w1 ⟨rfl, hb⟩
  obtain ⟨hc, hf⟩ := bcell hb
  have hz := hb.size
  simp at hz
  have l0 : w.heap.size < w1.heap.size := (by omega); have l1 : w.heap.size + 1 < w1.heap.size := (by omega)
  go_wp2_with fail
  refine (atMost_any a.x0 b.x1 _ false H1.out).mono ?_
  rintro e w2 ⟨rfl, hk⟩
  have hb := hb.trans (hk.mono hb.size)
  clear hc hf hz hk l0 l1
  obtain ⟨hc, hf⟩ := bcell hb
  have hz := hb.size
  simp at hz
  have l0 : w.heap.size < w2.heap.size := (by omega); have l1 : w.heap.size + 1 < w2.heap.size := (by omega)
  go_wp2_with fail
  refine (atMost_any a.y0 b.y1 _ false H3.out).mono ?_
  rintro e w3 ⟨rfl, hk⟩
  have hb := hb.trans (hk.mono hb.size)
  clear hc hf hz hk l0 l1
  obtain ⟨hc, hf⟩ := bcell hb
  have hz := hb.size
  simp at hz
  have l0 : w.heap.size < w3.heap.size := (by omega); have l1 : w.heap.size + 1 < w3.heap.size := (by omega)
  go_wp2
  go_ret2
  exact ⟨rfl, by (repeat (first | with_reducible exact Below.refl _ _ | with_reducible refine Below.drew ?_ | with_reducible refine bdrewN ?_ _ | (with_reducible refine Below.setCell ?_ ?_ _; rotate_left; focus (first | exact Nat.le_refl _ | omega | (simp; omega) | (simp; done))) | (with_reducible refine Below.alloc ?_ ?_ _; rotate_left; focus (first | exact Nat.le_refl _ | omega | (simp; omega) | (simp; done))) | (with_reducible refine Below.trans ?_ (Below.mono (by assumption) ?_); rotate_left; focus (first | exact Nat.le_refl _ | omega | (simp; omega) | (simp; done)))))⟩
theorem meets_any (a b : BV) (w : World) (r : Bool) (E : Int) (h : MeetIs a b r E) :
    Calls Tryz.prog 51 #[a.val, b.val] w fun e w' => e = .returned (.tuple #[.bool r, .int .i64 E]) ∧ Below w.heap.size w w' := by
  rcases h with ⟨ha, hb, rfl, rfl⟩ | ⟨h, rfl, rfl⟩
  · have h : ChkTwo a b 0 := .inl ⟨ha, hb, rfl⟩
    cases h1 : leB a.x0 b.x1
    · cases h3 : leB a.y0 b.y1
      · rw [show meetB a b = false by unfold meetB; rw [h1]; rfl]; exact meets_0_0 a b w h h1 h3
      · cases h4 : leB b.y0 a.y1
        · rw [show meetB a b = false by unfold meetB; rw [h1]; rfl]; exact meets_0_10 a b w h h1 h3 h4
        · rw [show meetB a b = false by unfold meetB; rw [h1]; rfl]; exact meets_0_11 a b w h h1 h3 h4
    · cases h2 : leB b.x0 a.x1
      · cases h3 : leB a.y0 b.y1
        · rw [show meetB a b = false by unfold meetB; rw [h1, h2]; rfl]; exact meets_10_0 a b w h h1 h2 h3
        · cases h4 : leB b.y0 a.y1
          · rw [show meetB a b = false by unfold meetB; rw [h1, h2]; rfl]; exact meets_10_10 a b w h h1 h2 h3 h4
          · rw [show meetB a b = false by unfold meetB; rw [h1, h2]; rfl]; exact meets_10_11 a b w h h1 h2 h3 h4
      · cases h3 : leB a.y0 b.y1
        · rw [show meetB a b = false by unfold meetB; rw [h1, h2, h3]; rfl]; exact meets_11_0 a b w h h1 h2 h3
        · cases h4 : leB b.y0 a.y1
          · rw [show meetB a b = false by unfold meetB; rw [h1, h2, h3, h4]; rfl]; exact meets_11_10 a b w h h1 h2 h3 h4
          · rw [show meetB a b = true by unfold meetB; rw [h1, h2, h3, h4]; rfl]; exact meets_11_11 a b w h h1 h2 h3 h4
  · exact meets_bad a b w (.inr ⟨h, rfl⟩)

/-- The four corners, as a value. -/
abbrev cornV (b : BV) : Value := .agg #[.int .i64 b.x0.m, .int .i64 b.x0.s, .int .i64 b.y0.m, .int .i64 b.y0.s, .int .i64 b.x1.m, .int .i64 b.x1.s, .int .i64 b.y0.m, .int .i64 b.y0.s, .int .i64 b.x0.m, .int .i64 b.x0.s, .int .i64 b.y1.m, .int .i64 b.y1.s, .int .i64 b.x1.m, .int .i64 b.x1.s, .int .i64 b.y1.m, .int .i64 b.y1.s]
set_option maxHeartbeats 400000 in
theorem corners_any (b : BV) (w : World) :
    Calls Tryz.prog 111 #[b.val] w fun e w' => e = .returned (cornV b) ∧ Below w.heap.size w w' := by
  go_enter Tryz.func111, Tryz.ntmps111
  go_wp2
  exact bodyPost_ret (v := cornV b) (by simp [results, Tryz.results111, go_sem]) rfl ⟨rfl, by (repeat (first | with_reducible exact Below.refl _ _ | with_reducible refine Below.drew ?_ | with_reducible refine bdrewN ?_ _ | (with_reducible refine Below.setCell ?_ ?_ _; rotate_left; focus (first | exact Nat.le_refl _ | omega | (simp; omega) | (simp; done))) | (with_reducible refine Below.alloc ?_ ?_ _; rotate_left; focus (first | exact Nat.le_refl _ | omega | (simp; omega) | (simp; done))) | (with_reducible refine Below.trans ?_ (Below.mono (by assumption) ?_); rotate_left; focus (first | exact Nat.le_refl _ | omega | (simp; omega) | (simp; done)))))⟩
end Go.Proofs.YtdlmhienolmncaaGreat
