/- The document's own Check, Row and step: walked. -/
import Derived.Test.YtjligbfijjejmaaPredB
import Derived.Deep.CutRange
namespace Go.Proofs.Ytjligbfijjejmaa
open Go.RowKit

theorem known_ways (p : PaV) (b : Bool) (h : decide p.Known = b) :
    ((p.pr == 1) = true ∧ b = true) ∨ ((p.pr == 1) = false ∧ (p.pr == 2) = true ∧ b = true) ∨ ((p.pr == 1) = false ∧ (p.pr == 2) = false ∧ decide (10 ≤ p.pr) = true ∧ decide (p.pr ≤ 15) = true ∧ b = true) ∨
    ((p.pr == 1) = false ∧ (p.pr == 2) = false ∧ decide (10 ≤ p.pr) = false ∧ b = false) ∨ ((p.pr == 1) = false ∧ (p.pr == 2) = false ∧ decide (10 ≤ p.pr) = true ∧ decide (p.pr ≤ 15) = false ∧ b = false) := by
  by_cases h1 : p.pr = 1
  · exact .inl ⟨by simp [h1], h ▸ decide_eq_true (.inl h1)⟩
  have b1 : (p.pr == 1) = false := by simp [h1]
  by_cases h2 : p.pr = 2
  · exact .inr (.inl ⟨b1, by simp [h2], h ▸ decide_eq_true (.inr (.inl h2))⟩)
  have b2 : (p.pr == 2) = false := by simp [h2]
  by_cases h3 : 10 ≤ p.pr
  · by_cases h4 : p.pr ≤ 15
    · exact .inr (.inr (.inl ⟨b1, b2, decide_eq_true h3, decide_eq_true h4, h ▸ decide_eq_true (.inr (.inr ⟨h3, h4⟩))⟩))
    · exact .inr (.inr (.inr (.inr ⟨b1, b2, decide_eq_true h3, decide_eq_false h4, h ▸ decide_eq_false (by unfold PaV.Known; omega)⟩)))
  · exact .inr (.inr (.inr (.inl ⟨b1, b2, decide_eq_false h3, h ▸ decide_eq_false (by unfold PaV.Known; omega)⟩)))
theorem bits_ways (p : PaV) (b : Bool) (h : decide p.BitsOk = b) :
    ((p.bi == 1) = true ∧ b = true) ∨ ((p.bi == 1) = false ∧ (p.bi == 2) = true ∧ b = true) ∨ ((p.bi == 1) = false ∧ (p.bi == 2) = false ∧ (p.bi == 4) = true ∧ b = true) ∨
    ((p.bi == 1) = false ∧ (p.bi == 2) = false ∧ (p.bi == 4) = false ∧ (p.bi == 8) = true ∧ b = true) ∨ ((p.bi == 1) = false ∧ (p.bi == 2) = false ∧ (p.bi == 4) = false ∧ (p.bi == 8) = false ∧ (p.bi == 16) = true ∧ b = true) ∨
    ((p.bi == 1) = false ∧ (p.bi == 2) = false ∧ (p.bi == 4) = false ∧ (p.bi == 8) = false ∧ (p.bi == 16) = false ∧ b = false) := by
  by_cases h1 : p.bi = 1
  · exact .inl ⟨by simp [h1], h ▸ decide_eq_true (.inl h1)⟩
  have b1 : (p.bi == 1) = false := by simp [h1]
  by_cases h2 : p.bi = 2
  · exact .inr (.inl ⟨b1, by simp [h2], h ▸ decide_eq_true (.inr (.inl h2))⟩)
  have b2 : (p.bi == 2) = false := by simp [h2]
  by_cases h3 : p.bi = 4
  · exact .inr (.inr (.inl ⟨b1, b2, by simp [h3], h ▸ decide_eq_true (.inr (.inr (.inl h3)))⟩))
  have b3 : (p.bi == 4) = false := by simp [h3]
  by_cases h4 : p.bi = 8
  · exact .inr (.inr (.inr (.inl ⟨b1, b2, b3, by simp [h4], h ▸ decide_eq_true (.inr (.inr (.inr (.inl h4))))⟩)))
  have b4 : (p.bi == 8) = false := by simp [h4]
  by_cases h5 : p.bi = 16
  · exact .inr (.inr (.inr (.inr (.inl ⟨b1, b2, b3, b4, by simp [h5], h ▸ decide_eq_true (.inr (.inr (.inr (.inr h5))))⟩))))
  · exact .inr (.inr (.inr (.inr (.inr ⟨b1, b2, b3, b4, by simp [h5], h ▸ decide_eq_false (by unfold PaV.BitsOk; omega)⟩))))
theorem check_ways (p : PaV) (bk bb : Bool) (hk : decide p.Known = bk) (hb : decide p.BitsOk = bb) :
    (bk = false ∧ p.E = 1) ∨ (bk = true ∧ bb = false ∧ p.E = 1) ∨ (bk = true ∧ bb = true ∧ decide (p.co < 1) = true ∧ p.E = 1) ∨ (bk = true ∧ bb = true ∧ decide (p.co < 1) = false ∧ decide (32 < p.co) = true ∧ p.E = 1) ∨
    (bk = true ∧ bb = true ∧ decide (p.co < 1) = false ∧ decide (32 < p.co) = false ∧ decide (p.cl < 1) = true ∧ p.E = 1) ∨ (bk = true ∧ bb = true ∧ decide (p.co < 1) = false ∧ decide (32 < p.co) = false ∧ decide (p.cl < 1) = false ∧ decide (65536 < p.cl) = true ∧ p.E = 1) ∨
    (bk = true ∧ bb = true ∧ decide (p.co < 1) = false ∧ decide (32 < p.co) = false ∧ decide (p.cl < 1) = false ∧ decide (65536 < p.cl) = false ∧
      (((p.pr == 2) = false ∧ p.E = 0) ∨ ((p.pr == 2) = true ∧ (p.bi != 8) = false ∧ p.E = 0) ∨ ((p.pr == 2) = true ∧ (p.bi != 8) = true ∧ p.E = 9))) := by
  subst hk hb
  by_cases k : p.Known
  · by_cases b : p.BitsOk
    · have hE : p.E = if (1 ≤ p.co ∧ p.co ≤ 32 ∧ 1 ≤ p.cl ∧ p.cl ≤ 65536) then (if p.pr = 2 ∧ p.bi ≠ 8 then 9 else 0) else 1 := by
        unfold PaV.E
        by_cases h : p.Ok
        · rw [if_pos h, if_pos h.2.2]
        · rw [if_neg h, if_neg (fun h' => h ⟨k, b, h'⟩)]
      right; right
      simp only [k, b, beq_iff_eq, beq_eq_false_iff_ne, bne_iff_ne, bne_eq_false_iff_eq, decide_eq_true_eq, decide_eq_false_iff_not, ne_eq, true_and, decide_true]
      rw [hE]
      split
      · split <;> omega
      · omega
    · refine .inr (.inl ⟨by simp [k], by simp [b], ?_⟩)
      unfold PaV.E
      rw [if_neg (fun h => b h.2.1)]
  · refine .inl ⟨by simp [k], ?_⟩
    unfold PaV.E
    rw [if_neg (fun h => k h.1)]
set_option maxHeartbeats 2000000 in
theorem refcheck_any (p : PaV) (w : World) :
    Calls Try.prog 14 #[p.val] w fun e w' => e = .returned (.int .i64 p.E) ∧ Below w.heap.size w w' := by
  obtain ⟨bk, hk⟩ : ∃ b, decide p.Known = b := ⟨_, rfl⟩
  obtain ⟨bb, hb⟩ : ∃ b, decide p.BitsOk = b := ⟨_, rfl⟩
  have K := Lib.hid (known_ways p bk hk)
  have B := Lib.hid (bits_ways p bb hb)
  have R := Lib.hid (check_ways p bk bb hk hb)
  clear hk hb
  go_enter Try.func14, Try.ntmps14
  go_upto_region 1 with fail
  go_cut [3] from 5 to 23 (fun b wx => wx = w.alloc (.cells #[.int .i64 p.pr, .int .i64 p.co, .int .i64 p.bi, .int .i64 p.cl] 23) ∧ b = .bool bk)
  case first =>
    have k := K.out
    clear K B R
    rcases k with ⟨h1, rfl⟩ | ⟨h1, h2, rfl⟩ | ⟨h1, h2, h3, h4, rfl⟩ | ⟨h1, h2, h3, rfl⟩ | ⟨h1, h2, h3, h4, rfl⟩
    all_goals
      go_wp2_with fail
      go_meet
      exact ⟨rfl, rfl⟩
  case rest =>
    obtain ⟨rfl, rfl⟩ := hcut
    go_upto_region 2 with fail
    go_cut [4] from 23 to 46 (fun b wx => wx = w.alloc (.cells #[.int .i64 p.pr, .int .i64 p.co, .int .i64 p.bi, .int .i64 p.cl] 23) ∧ b = .bool bb)
    case first =>
      have k := B.out
      clear K B R
      rcases k with ⟨h1, rfl⟩ | ⟨h1, h2, rfl⟩ | ⟨h1, h2, h3, rfl⟩ | ⟨h1, h2, h3, h4, rfl⟩ | ⟨h1, h2, h3, h4, h5, rfl⟩ | ⟨h1, h2, h3, h4, h5, rfl⟩
      all_goals
        go_wp2_with fail
        go_meet
        exact ⟨rfl, rfl⟩
    case rest =>
      obtain ⟨rfl, rfl⟩ := hcut
      have k := R.out
      clear K B R
      rcases k with ⟨rfl, hE⟩ | ⟨rfl, rfl, hE⟩ | ⟨rfl, rfl, h1, hE⟩ | ⟨rfl, rfl, h1, h2, hE⟩ | ⟨rfl, rfl, h1, h2, h3, hE⟩ | ⟨rfl, rfl, h1, h2, h3, h4, hE⟩ | ⟨rfl, rfl, h1, h2, h3, h4, ⟨h5, hE⟩ | ⟨h5, h6, hE⟩ | ⟨h5, h6, hE⟩⟩
      all_goals
        have HE := Lib.hid hE
        clear hE
        go_wp2
        go_ret
        exact ⟨by rw [HE.out]; rfl, by (repeat (first | with_reducible exact Below.refl _ _ | with_reducible refine Below.drew ?_ | with_reducible refine bdrewN ?_ _ | (with_reducible refine Below.setCell ?_ ?_ _; rotate_left; focus (first | exact Nat.le_refl _ | omega | (simp; omega) | (simp; done))) | (with_reducible refine Below.alloc ?_ ?_ _; rotate_left; focus (first | exact Nat.le_refl _ | omega | (simp; omega) | (simp; done))) | (with_reducible refine Below.trans ?_ (Below.mono (by assumption) ?_); rotate_left; focus (first | exact Nat.le_refl _ | omega | (simp; omega) | (simp; done)))))⟩
theorem refrow_ok (p : PaV) (w : World) (h : p.Ok) :
    Calls Try.prog 16 #[p.val] w fun e w' => e = .returned (.int .i64 p.n) ∧ Below w.heap.size w w' := by
  obtain ⟨⟨m1, m2⟩, m3, m4⟩ := h.mul
  have q1 : IntKind.i64.wrap (p.co * p.bi) = p.co * p.bi := IntWalk.i64_in _ (by omega)
  have q2 : IntKind.i64.wrap (p.co * p.bi * p.cl) = p.co * p.bi * p.cl := IntWalk.i64_in _ (by omega)
  have HN := Lib.hid h.n_is.1
  have hE : (p.E == 1) = false := by unfold PaV.E; rw [if_pos h]; split <;> simp
  clear h m1 m2
  go_enter Try.func16, Try.ntmps16
  go_wp2_with fail
  refine (refcheck_any p _).mono ?_
  rintro e w1 ⟨rfl, hb⟩
  have r1 : w1.cell? ⟨w.heap.size, 1, none⟩ = some (.int .i64 p.co) := (hb.cell (p := ⟨w.heap.size, 1, none⟩) (by simp)).trans (by simp [go_sem])
  have r2 : w1.cell? ⟨w.heap.size, 2, none⟩ = some (.int .i64 p.bi) := (hb.cell (p := ⟨w.heap.size, 2, none⟩) (by simp)).trans (by simp [go_sem])
  have r3 : w1.cell? ⟨w.heap.size, 3, none⟩ = some (.int .i64 p.cl) := (hb.cell (p := ⟨w.heap.size, 3, none⟩) (by simp)).trans (by simp [go_sem])
  have l0 : w.heap.size < w1.heap.size := by have := hb.size; simp at this; omega
  have B1 : Hid (Below w.heap.size w w1) := Below.trans ((Below.refl _ _).alloc (Nat.le_refl _) _) (hb.mono (by simp))
  clear hb
  go_wp2
  go_ret
  exact ⟨by rw [HN.out]; rfl, B1.out⟩
theorem refrow_bad (p : PaV) (w : World) (h : ¬ p.Ok) :
    Calls Try.prog 16 #[p.val] w fun e w' => e = .returned (.int .i64 0) ∧ Below w.heap.size w w' := by
  have hE : p.E = 1 := by unfold PaV.E; rw [if_neg h]
  clear h
  go_enter Try.func16, Try.ntmps16
  go_wp2_with fail
  refine (refcheck_any p _).mono ?_
  rintro e w1 ⟨rfl, hb⟩
  rw [hE]
  clear hE
  have B1 : Hid (Below w.heap.size w w1) := Below.trans ((Below.refl _ _).alloc (Nat.le_refl _) _) (hb.mono (by simp))
  clear hb
  go_wp2
  go_ret
  exact ⟨rfl, B1.out⟩
theorem refstep9_any (p : PaV) (w : World) (h : p.Ok) :
    Calls Try.prog 19 #[p.val] w fun e w' => e = .returned (.int .i64 p.s) ∧ Below w.heap.size w w' := by
  obtain ⟨⟨m1, m2⟩, m3, m4⟩ := h.mul
  have q1 : IntKind.i64.wrap (p.co * p.bi) = p.co * p.bi := IntWalk.i64_in _ (by omega)
  have HN := Lib.hid h.s_is.1
  clear h m3 m4
  go_enter Try.func19, Try.ntmps19
  go_wp2
  go_ret
  exact ⟨by rw [HN.out]; rfl, by (repeat (first | with_reducible exact Below.refl _ _ | with_reducible refine Below.drew ?_ | with_reducible refine bdrewN ?_ _ | (with_reducible refine Below.setCell ?_ ?_ _; rotate_left; focus (first | exact Nat.le_refl _ | omega | (simp; omega) | (simp; done))) | (with_reducible refine Below.alloc ?_ ?_ _; rotate_left; focus (first | exact Nat.le_refl _ | omega | (simp; omega) | (simp; done))) | (with_reducible refine Below.trans ?_ (Below.mono (by assumption) ?_); rotate_left; focus (first | exact Nat.le_refl _ | omega | (simp; omega) | (simp; done)))))⟩
end Go.Proofs.Ytjligbfijjejmaa
