/- raster: rows of boxes appended; how many pixels there may be (the document's); more regions. -/
import Derived.Test.YtmleoagdelgddaaRasAw
import Derived.Laws.AppendOwnNone
import Derived.Laws.OwnMore
namespace Go.Proofs.Ytmleoagdelgddaa
open Go.RowKit Dec

theorem bx_news {w : World} {R o n c : Nat} {l : List BV} (h : BxsAt w (some ⟨R, o, none⟩) n c l) (j : Nat) (u : Value) (hu : (rowBx l)[j]? = some u) : w.cell? ((⟨R, o, none⟩ : Addr).add j) = some u := by
  have hj : j < n * 8 := by
    have := (List.getElem?_eq_some_iff.1 hu).1
    rwa [rowBx_len, h.len] at this
  obtain ⟨R', o', e, _, hc⟩ := h.at_ (by omega)
  injection e with e
  injection e with e1 e2
  subst e1 e2
  have hi : j / 8 < l.length := by rw [h.len]; omega
  have hm : j % 8 < (bxV l[j / 8]).length := by rw [bxV_len]; omega
  have hat := hc (j / 8) l[j / 8] (List.getElem?_eq_getElem hi) (j % 8) _ (List.getElem?_eq_getElem hm)
  have hr := rowBx_at l (j / 8) l[j / 8] (j % 8) _ (List.getElem?_eq_getElem hi) (List.getElem?_eq_getElem hm)
  rw [show j / 8 * 8 + j % 8 = j by omega] at hr
  rw [hr] at hu
  rw [add_none rfl]
  rw [show o + j / 8 * 8 + j % 8 = o + j by omega] at hat
  rw [hat, hu]
theorem rowBx_one (l : List BV) : ∀ u ∈ rowBx l, u.oneCell' = true := by
  intro u hu
  obtain ⟨b, _, hb⟩ := List.mem_flatMap.1 hu
  simp [bxV] at hb
  rcases hb with rfl | rfl | rfl | rfl | rfl | rfl | rfl | rfl <;> rfl
theorem wp_none_bx {o : Oper} {a : Act} {K : Act → World → Prop} {Q : Exit → Act → World → Prop} {W : World} (s x : Operand)
    (ho : o.op = .call { callee := .builtin .append, args := #[s, x], argTypes := #[43, 43] })
    (base n : Nat) (v : Value) (xs : List Value) (hs : a.eval s = v) (hown : W.ownsRow base 52 8 v n xs) (hx : a.eval x = .slice none 0 0) (h : K (a.put o.dst v) W) : o.wp Try.prog a W K Q := by
  obtain ⟨i0, hi, hz0, hz1, hz2⟩ := info_bx
  have hrun := run_append_owned_none (P := Try.prog) (w := W) base 43 o.type 52 i0 8 Try.underlying43 hi v n xs hown
  unfold Oper.wp
  simp [execOp, ho, resolve, invoke, builtin, hs, hx, hrun, Result.andThen]
  exact h
set_option maxRecDepth 100000 in
theorem wp_app_bx {o : Oper} {a : Act} {K : Act → World → Prop} {Q : Exit → Act → World → Prop} {W : World} (s x : Operand)
    (ho : o.op = .call { callee := .builtin .append, args := #[s, x], argTypes := #[43, 43] })
    (g k n c c0 N : Nat) (A A0 : Option Addr) (l0 l L : List BV) (hN : k + n = N) (hL : l0 ++ l = L) (hs : a.eval s = .slice A0 k c0) (hown : W.ownsRow g 52 8 (.slice A0 k c0) k (rowBx l0)) (hg : g ≤ W.heap.size) (hx : a.eval x = .slice A n c) (hA : BxsAt W A n c l) (hz : A = none → n = 0 ∧ c = 0) (hn : n ≤ 100) (hk : k ≤ 100)
    (h : ∀ A' c' w', w'.ownsRow g 52 8 (.slice A' N c') N (rowBx L) → W.grownBy w' (Value.slice A0 k c0).ownBlock → K (a.put o.dst (.slice A' N c')) w') : o.wp Try.prog a W K Q := by
  subst hN hL
  obtain ⟨i0, hi, hz0, hz1, hz2⟩ := info_bx
  cases A with
  | none =>
    obtain ⟨rfl, rfl⟩ := hz rfl
    obtain rfl : l = [] := List.eq_nil_of_length_eq_zero hA.len
    have := h A0 c0 W (by rw [List.append_nil]; exact hown) (below_only (Below.refl _ _) _)
    exact wp_none_bx s x ho g k _ _ hs hown hx this
  | some ad =>
    have hnews : ∀ j u, (rowBx l)[j]? = some u → W.cell? (ad.add j) = some u := by
      intro j u hu
      have hj : j < n * 8 := by
        have := (List.getElem?_eq_some_iff.1 hu).1
        rwa [rowBx_len, hA.len] at this
      obtain ⟨R, q, e, _⟩ := hA.at_ (by omega)
      injection e with e
      subst e
      exact bx_news hA j u hu
    refine wp_append_own _ s x _ ho g 52 i0 (.agg #[.int .i64 0, .int .i64 0, .int .i64 0, .int .i64 0, .int .i64 0, .int .i64 0, .int .i64 0, .int .i64 0]) 8 64 Try.underlying43 hi hz0 hz1 hz2 rfl (by decide) _ _ _ hs hown ad n c (rowBx l) hx (by rw [rowBx_len, hA.len]) hnews (rowBx_one l) (by unfold maxLen; omega) (by omega) hg ?_
    intro v' w' hown' hgrow _
    have e : rowBx l0 ++ rowBx l = rowBx (l0 ++ l) := by unfold rowBx; rw [List.flatMap_append]
    rw [e] at hown'
    obtain ⟨A', c', rfl⟩ : ∃ a c, v' = .slice a (k + n) c := by
      rcases hown'.2 with ⟨rfl, e0⟩ | ⟨g, cap, cur, rfl, _⟩
      · exact ⟨none, 0, by rw [e0]⟩
      · exact ⟨_, _, rfl⟩
    exact h A' c' w' hown' hgrow
set_option maxRecDepth 100000 in
/-- The document's: may there be so many pixels? -/
theorem pixels_any (W H : Int) (w : World) : Calls Try.prog 21 #[.int .i64 W, .int .i64 H] w fun e w' => e = .returned (.bool (sizeB W H)) ∧ w = w' := by
  have d1' := Bool.eq_false_or_eq_true (decide (0 < W))
  by_cases h1 : 0 < W
  · have d1 : decide (0 < W) = true := decide_eq_true h1
    by_cases h2 : 0 < H
    · have d2 : decide (0 < H) = true := decide_eq_true h2
      by_cases h3 : W ≤ 65536
      · have d3 : decide (W ≤ 65536) = true := decide_eq_true h3
        by_cases h4 : H ≤ 65536
        · have d4 : decide (H ≤ 65536) = true := decide_eq_true h4
          obtain ⟨X, rfl⟩ : ∃ X : Nat, W = (X : Int) := ⟨W.toNat, by omega⟩
          obtain ⟨Z, rfl⟩ : ∃ Z : Nat, H = (Z : Int) := ⟨H.toNat, by omega⟩
          have hp : X * Z ≤ 65536 * 65536 := Nat.mul_le_mul (by omega) (by omega)
          have hs : sizeB (X : Int) (Z : Int) = decide ((((X * Z : Nat)) : Int) ≤ 65536) := by
            unfold sizeB
            rw [d1, d2, Bool.true_and, Bool.true_and, decide_eq_decide, Int.natCast_mul]
            exact Int.le_ediv_iff_mul_le (by omega)
          obtain ⟨P, hP⟩ : ∃ P, X * Z = P := ⟨_, rfl⟩
          rw [hP] at hs hp
          have m1 : IntKind.i64.wrap ((X : Int) * (Z : Int)) = (P : Int) := by rw [← Int.natCast_mul, hP, IntKind.wrap_i64]; omega
          have HS := Lib.hid hs
          clear hs hP d1'
          go_enter Try.func21, Try.ntmps21
          go_wp2_with fail
          go_ret
          exact ⟨by rw [HS.out]; rfl, rfl⟩
        · have d4 : decide (H ≤ 65536) = false := decide_eq_false h4
          have HS := Lib.hid (show sizeB W H = false by
            unfold sizeB
            have : ¬ W ≤ 65536 / H := fun k => by
              have := Int.mul_le_of_le_ediv (by omega : 0 < H) k
              have e : 1 * H ≤ W * H := Int.mul_le_mul_of_nonneg_right (by omega) (by omega)
              omega
            rw [d1, d2, decide_eq_false this]
            rfl)
          clear d1'
          go_enter Try.func21, Try.ntmps21
          go_wp2_with fail
          go_ret
          exact ⟨by rw [HS.out]; rfl, rfl⟩
      · have d3 : decide (W ≤ 65536) = false := decide_eq_false h3
        have HS := Lib.hid (show sizeB W H = false by
          unfold sizeB
          have : ¬ W ≤ 65536 / H := fun k => by
            have : 65536 / H ≤ 65536 := Int.ediv_le_self _ (by omega)
            omega
          rw [d1, d2, decide_eq_false this]
          rfl)
        clear d1'
        go_enter Try.func21, Try.ntmps21
        go_wp2_with fail
        go_ret
        exact ⟨by rw [HS.out]; rfl, rfl⟩
    · have d2 : decide (0 < H) = false := decide_eq_false h2
      have HS := Lib.hid (show sizeB W H = false by unfold sizeB; rw [d1, d2]; rfl)
      clear d1'
      go_enter Try.func21, Try.ntmps21
      go_wp2_with fail
      go_ret
      exact ⟨by rw [HS.out]; rfl, rfl⟩
  · have d1 : decide (0 < W) = false := decide_eq_false h1
    have HS := Lib.hid (show sizeB W H = false by unfold sizeB; rw [d1]; rfl)
    clear d1'
    go_enter Try.func21, Try.ntmps21
    go_wp2_with fail
    go_ret
    exact ⟨by rw [HS.out]; rfl, rfl⟩
theorem kp_zero {a b : Int} (h : kp a b = 0) : a = 0 ∧ b = 0 := by
  unfold kp at h
  split at h
  · rename_i e; exact ⟨e, h⟩
  · rename_i e; exact absurd h e
/-- An error stays with one region more; without an error none is told of fewer. -/
theorem covE_more {m : MV} {W H : Int} {l : List BV} {b : BV} (h : covE m W H l ≠ 0) : covE m W H (l ++ [b]) ≠ 0 := by
  intro e
  apply h
  unfold covE at e ⊢
  split at e
  · rename_i k
    rw [if_pos ⟨k.1, k.2.1, fun x hx => k.2.2 x (List.mem_append_left _ hx)⟩]
    rw [bE_snoc] at e
    obtain ⟨e1, e2⟩ := kp_zero e
    obtain ⟨e3, e4⟩ := kp_zero e2
    rw [e1, e3]
    rfl
  · exact absurd e (by decide)
theorem covE_none {m : MV} {W H : Int} {l : List BV} (h : covE m W H l = 0) : covE m W H [] = 0 := by
  unfold covE at h ⊢
  split at h
  · rename_i k
    rw [if_pos ⟨k.1, k.2.1, fun x hx => by simp at hx⟩]
    show kp _ 0 = 0
    rw [kp_0]
    unfold kp at h
    split at h
    · assumption
    · exact h
  · exact absurd h (by decide)
theorem cov_none (F : Nat → PV) (n X Z j : Nat) : cov F n X Z [] j = false := rfl
theorem cov_more {F : Nat → PV} {n X Z j : Nat} {l : List BV} {b : BV} (h : cov F n X Z l j = true) : cov F n X Z (l ++ [b]) j = true := by
  unfold cov nearL at h ⊢
  rw [List.filter_append, List.any_append, h, Bool.true_or]
end Go.Proofs.Ytmleoagdelgddaa
