/- predict's Do and the layer's example: walked. -/
import Derived.Test.YtjligbfijjejmaaPredW
namespace Go.Proofs.Ytjligbfijjejmaa
open Go.RowKit

set_option maxRecDepth 100000 in
set_option maxHeartbeats 4000000 in
theorem do_any (p : PaV) (tag : Int) (A : Option Addr) (n c : Nat) (bs : List Nat) (w : World) (h : Bytes w A n c bs) :
    Calls Try.prog 10 #[p.val, .int .i64 tag, .slice A n c] w (AnsIs (doS p tag bs) w) := by
  have hl := h.len
  subst hl
  have HB := Lib.hid h
  clear h
  by_cases hE : p.E = 0
  rotate_left
  · have hr : doS p tag bs = (p.E, []) := if_pos hE
    have g1 : (p.E != 0) = true := by simp [hE]
    rw [hr]
    clear hE hr
    go_enter Try.func10, Try.ntmps10
    go_wp2_with fail
    refine (check_any p _).mono ?_
    rintro e w1 ⟨rfl, hb⟩
    have HX := Lib.hid (p_cells hb)
    clear hb
    go_wp2
    go_ret2
    exact AnsIs.err HX.out.2.2
  have HE := Lib.hid hE
  obtain ⟨hok, hkn⟩ := PaV.E_zero hE
  by_cases ht : tag < 0 ∨ 5 ≤ tag
  · have hr : doS p tag bs = (1, []) := by unfold doS; rw [if_neg (by simp [hE]), if_pos ht]
    rw [hr]
    clear hE hr hok hkn
    have ht' : decide (tag < 0) = true ∨ (decide (tag < 0) = false ∧ decide (5 ≤ tag) = true) := by simp only [decide_eq_true_eq, decide_eq_false_iff_not]; omega
    clear ht
    rcases ht' with ht | ⟨ht, ht2⟩
    all_goals
      go_enter Try.func10, Try.ntmps10
      go_wp2_with fail
      refine (check_any p _).mono ?_
      rintro e w1 ⟨rfl, hb⟩
      rw [HE.out]
      have HX := Lib.hid (p_cells hb)
      obtain ⟨c0, c1, c2, c3⟩ := HX.out.1
      have lx := HX.out.2.1
      clear hb
      go_wp2
      go_ret2
      exact AnsIs.err HX.out.2.2
  have t1 : decide (tag < 0) = false := by simp; omega
  have t2 : decide (5 ≤ tag) = false := by simp; omega
  obtain ⟨T, hT⟩ : ∃ T : Nat, tag = (T : Int) := ⟨tag.toNat, by omega⟩
  have hT4 : T ≤ 4 := by omega
  subst hT
  by_cases hlong : 1048576 < bs.length
  · have hr : doS p T bs = (2, []) := by unfold doS; rw [if_neg (by simp [hE]), if_neg ht, if_pos hlong]
    rw [hr]
    clear hE hr hok hkn ht
    go_enter Try.func10, Try.ntmps10
    go_wp2_with fail
    refine (check_any p _).mono ?_
    rintro e w1 ⟨rfl, hb⟩
    rw [HE.out]
    have HX := Lib.hid (p_cells hb)
    obtain ⟨c0, c1, c2, c3⟩ := HX.out.1
    have lx := HX.out.2.1
    clear hb
    go_wp2
    go_ret2
    exact AnsIs.err HX.out.2.2
  by_cases h1 : p.pr = 1
  · have hr : doS p T bs = (0, bs) := by unfold doS; rw [if_neg (by simp [hE]), if_neg ht, if_neg hlong, if_pos h1]
    rw [hr]
    have H1 := Lib.hid h1
    clear hE hr h1 hok hkn ht
    go_enter Try.func10, Try.ntmps10
    go_wp2_with fail
    refine (check_any p _).mono ?_
    rintro e w1 ⟨rfl, hb⟩
    rw [HE.out]
    have HX := Lib.hid (p_cells hb)
    obtain ⟨c0, c1, c2, c3⟩ := HX.out.1
    have lx := HX.out.2.1
    clear hb
    rw [H1.out] at c0
    go_wp2_with fail
    refine (clone_any bs bs.length c A _ (HB.out.below HX.out.2.2) (by omega)).mono ?_
    rintro e w2 ⟨A', c', R, rfl, _, _, hrow, hb2⟩
    go_wp2
    go_ret2
    exact ⟨A', c', rfl, hrow.bytes, HX.out.2.2.trans (hb2.mono HX.out.2.2.size)⟩
  have hpn := png_of hok h1
  have g1 : (p.pr == 1) = false := by simp [h1]
  obtain ⟨png, hpng⟩ : ∃ b, decide (10 ≤ p.pr) = b := ⟨_, rfl⟩
  have HP := Lib.hid (show (png = true ∧ decide (10 ≤ p.pr) = true) ∨ (png = false ∧ p.pr = 2) by rw [hpng] at hpn; rcases hpn with ⟨a, _⟩ | ⟨a, b⟩; exact .inl ⟨a, hpng.trans a⟩; exact .inr ⟨a, b⟩)
  have OK := Lib.hid hok
  by_cases hmod : bs.length % p.n = 0
  · have hr : doS p T bs = (0, doN (headM png) p.n p.s (if png then T else 1) bs (bs.length / p.n)) := by
      unfold doS tagOf; rw [if_neg (by simp [hE]), if_neg ht, if_neg hlong, if_neg h1, hpng, if_neg (by simp [hmod])]; rfl
    obtain ⟨D, hD⟩ : ∃ D, doN (headM png) p.n p.s (if png then T else 1) bs (bs.length / p.n) = D := ⟨_, rfl⟩
    rw [hr, hD]
    have HD := Lib.hid hD
    have HM := Lib.hid hmod
    clear hE hr h1 hok hkn hpn hpng hmod ht hD
    go_enter Try.func10, Try.ntmps10
    go_wp2_with fail
    refine (check_any p _).mono ?_
    rintro e w1 ⟨rfl, hb⟩
    rw [HE.out]
    have HX := Lib.hid (p_cells hb)
    obtain ⟨c0, c1, c2, c3⟩ := HX.out.1
    have lx := HX.out.2.1
    clear hb
    go_wp2_with fail
    have Q := do_ok p png A bs.length c T bs _ (HB.out.below HX.out.2.2) OK.out HP.out (by omega) hT4 HM.out
    rw [HD.out] at Q
    refine Q.mono ?_
    clear Q
    rintro e w2 ⟨A', c', rfl, h3, hb2⟩
    have HR := Lib.hid (And.intro h3 (HX.out.2.2.trans (hb2.mono HX.out.2.2.size)))
    clear h3 hb2
    go_wp2
    go_ret2
    exact ⟨A', c', rfl, HR.out.1, HR.out.2⟩
  · have hr : doS p T bs = (4, []) := by unfold doS; rw [if_neg (by simp [hE]), if_neg ht, if_neg hlong, if_neg h1, if_pos hmod]
    rw [hr]
    have HM := Lib.hid hmod
    clear hE hr h1 hok hkn hpn hpng hmod ht
    go_enter Try.func10, Try.ntmps10
    go_wp2_with fail
    refine (check_any p _).mono ?_
    rintro e w1 ⟨rfl, hb⟩
    rw [HE.out]
    have HX := Lib.hid (p_cells hb)
    obtain ⟨c0, c1, c2, c3⟩ := HX.out.1
    have lx := HX.out.2.1
    clear hb
    go_wp2_with fail
    refine (do_odd p png A bs.length c T _ OK.out HP.out (by omega) HM.out).mono ?_
    rintro e w2 ⟨rfl, hb2⟩
    have hb3 := Lib.hid (HX.out.2.2.trans (hb2.mono HX.out.2.2.size))
    clear hb2
    go_wp2
    go_ret2
    exact AnsIs.err hb3.out
def p1 : PaV := ⟨12, 1, 8, 2⟩
theorem one_any (w : World) : Calls Try.prog 23 #[] w fun e w' => e = .returned p1.val ∧ Below w.heap.size w w' := by
  go_enter Try.func23, Try.ntmps23
  go_wp2
  refine bodyPost_ret (v := p1.val) (by simp [results, Try.results23, go_sem, p1]) rfl ⟨rfl, ?_⟩
  (repeat (first | with_reducible exact Below.refl _ _ | with_reducible refine Below.drew ?_ | with_reducible refine bdrewN ?_ _ | (with_reducible refine Below.setCell ?_ ?_ _; rotate_left; focus (first | exact Nat.le_refl _ | omega | (simp; omega) | (simp; done))) | (with_reducible refine Below.alloc ?_ ?_ _; rotate_left; focus (first | exact Nat.le_refl _ | omega | (simp; omega) | (simp; done))) | (with_reducible refine Below.trans ?_ (Below.mono (by assumption) ?_); rotate_left; focus (first | exact Nat.le_refl _ | omega | (simp; omega) | (simp; done)))))
theorem p1_undo : undoS p1 [2, 1, 2, 1, 5, 1] = (0, [1, 2, 5, 6]) := by decide
set_option maxRecDepth 100000 in
theorem awake_any (w : World) : Calls Try.prog 12 #[] w fun e w' => e = .returned (.bool true) ∧ Below w.heap.size w w' := by
  go_enter Try.func12, Try.ntmps12
  go_wp2_with fail
  refine (one_any _).mono ?_
  rintro e w1 ⟨rfl, hb1⟩
  have hlit := bytes_lit w1 [2, 1, 2, 1, 5, 1] (by decide) (by decide)
  have HL := Lib.hid hlit
  have HB1 := Lib.hid hb1
  clear hlit hb1
  go_wp2_with fail
  refine (undo_any p1 _ _ _ [2, 1, 2, 1, 5, 1] _ HL.out).mono ?_
  rintro e w2 ⟨A, c, he, hby, hb2⟩
  rw [p1_undo] at he hby
  subst he
  have hst : (convert 24 9 (.slice A 4 c)).run Try.prog w2 = .ok (.string ⟨#[1, 2, 5, 6]⟩) w2 := hby.str
  have HB2 := Lib.hid (HB1.out.trans (((Below.refl _ _).alloc (Nat.le_refl _) _ |>.trans (hb2.mono (by simp))).mono HB1.out.size))
  clear hby hb2
  go_wp2_with fail
  refine (one_any _).mono ?_
  rintro e w3 ⟨rfl, hb3⟩
  have HB3 := Lib.hid (HB2.out.trans (hb3.mono HB2.out.size))
  clear hb3 hst
  have h1 : p1.Ok := by decide
  have h2 : p1.n = 2 := by decide
  have H1 := Lib.hid h1
  have H2 := Lib.hid h2
  clear h1 h2
  go_wp2_with fail
  refine (row_ok p1 _ H1.out).mono ?_
  rintro e w4 ⟨rfl, hb4⟩
  rw [H2.out]
  have HB4 := Lib.hid (HB3.out.trans (hb4.mono HB3.out.size))
  clear hb4
  go_wp2
  go_ret
  exact ⟨rfl, HB4.out⟩
end Go.Proofs.Ytjligbfijjejmaa
