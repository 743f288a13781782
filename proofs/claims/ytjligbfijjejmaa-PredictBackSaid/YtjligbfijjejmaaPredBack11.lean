/- PredictBack, one of its cases. -/
import Derived.Test.YtjligbfijjejmaaPredBackK
namespace Go.Proofs.Ytjligbfijjejmaa
open Go.RowKit

set_option maxRecDepth 100000 in
set_option maxHeartbeats 8000000 in
theorem back_a11 (p : PaV) (tag : Int) (htg : 4 < tag) (A : Option Addr) (c : Nat) (bs : List Nat) (w : World) (HB : Hid (Bytes w A bs.length c bs)) (hlen : bs.length ≤ 2000) (X Z Wl : List Nat) 
    (HXY : Hid (doS p tag bs = (0, X) ∧ undoS p X = (0, bs) ∧ undoS p bs = (0, Z))) (hnb : 1 ≤ p.n ∧ p.n ≤ 4194304) (HW : Hid (p.Ok ∧ doS p 4 Z = (0, Wl) ∧ ((2 < p.pr → ∀ (k : Nat), k * (p.n + 1) < bs.length → bs.getD (k * (p.n + 1)) 0 = 4) → Wl = bs))) :
    Calls Try.prog 4 #[p.val, .int .i64 tag, .slice A bs.length c] w (True_ w) := by
  go_enter Try.func4, Try.ntmps4
  go_wp2_with fail
  have Q := do_any p tag A _ c bs _ (HB.out.below (PK.made w p).2)
  rw [HXY.out.1] at Q
  refine Q.mono ?_
  clear Q
  rintro e w1 ⟨A1, c1, rfl, hy1, hb1⟩
  have hp1 := (PK.made w p).next hb1
  obtain ⟨k0, k1, k2, k3, k4⟩ := hp1.cells
  have H1 := Lib.hid (And.intro hy1 hp1)
  clear hy1 hp1 hb1
  go_wp2_with fail
  have Q := undo_any p A1 _ c1 X _ H1.out.1
  rw [HXY.out.2.1] at Q
  refine Q.mono ?_
  clear Q k0 k1 k2 k3 k4
  rintro e w2 ⟨A2, c2, rfl, hy2, hb2⟩
  have hp2 := H1.out.2.next hb2
  obtain ⟨k0, k1, k2, k3, k4⟩ := hp2.cells
  have hs1 := hy2.str
  have hs2 := (HB.out.below hp2.2).str
  have H2 := Lib.hid hp2
  clear hy2 hp2 hb2
  go_wp2_with fail
  have Q := undo_any p A _ c bs _ (HB.out.below H2.out.2)
  rw [HXY.out.2.2] at Q
  refine Q.mono ?_
  clear Q k0 k1 k2 k3 k4 hs1 hs2
  rintro e w3 ⟨A3, c3, rfl, hy3, hb3⟩
  have hp3 := H2.out.next hb3
  obtain ⟨k0, k1, k2, k3, k4⟩ := hp3.cells
  have H3 := Lib.hid (And.intro hy3 hp3)
  clear hy3 hp3 hb3
  go_wp2_with fail
  have Q := do_any p 4 A3 _ c3 Z _ H3.out.1
  rw [show doS p 4 Z = (0, Wl) from HW.out.2.1] at Q
  refine Q.mono ?_
  clear Q k0 k1 k2 k3 k4
  rintro e w4 ⟨A4, c4, rfl, hy4, hb4⟩
  have hp4 := H3.out.2.next hb4
  obtain ⟨k0, k1, k2, k3, k4⟩ := hp4.cells
  have H4 := Lib.hid (And.intro hy4 hp4)
  clear hy4 hp4 hb4
  go_wp2_with fail
  refine (row_ok p _ HW.out.1).mono ?_
  clear k0 k1 k2 k3 k4
  rintro e w5 ⟨rfl, hb5⟩
  have hp5 := H4.out.2.next hb5
  obtain ⟨k0, k1, k2, k3, k4⟩ := hp5.cells
  have H5 := Lib.hid (And.intro (H4.out.1.below hb5) hp5)
  clear hp5 hb5
  go_wp2
  go_loopw [16] (fun iv wq => ∃ i k : Nat, i = k * (p.n + 1) ∧ i ≤ bs.length + p.n ∧ (2 < p.pr → ∀ j, j < k → bs.getD (j * (p.n + 1)) 0 = 4) ∧ iv = .int .i64 (i : Nat) ∧ Below w5.heap.size w5 wq) (fun iv _ => 5000000 - (intOf iv).toNat)
  case atStart => exact ⟨0, 0, by omega, by omega, fun _ j hj => absurd hj (by omega), rfl, by (repeat (first | with_reducible exact Below.refl _ _ | with_reducible refine Below.drew ?_ | with_reducible refine bdrewN ?_ _ | (with_reducible refine Below.setCell ?_ ?_ _; rotate_left; focus (first | exact Nat.le_refl _ | omega | (simp; omega) | (simp; done))) | (with_reducible refine Below.alloc ?_ ?_ _; rotate_left; focus (first | exact Nat.le_refl _ | omega | (simp; omega) | (simp; done))) | (with_reducible refine Below.trans ?_ (Below.mono (by assumption) ?_); rotate_left; focus (first | exact Nat.le_refl _ | omega | (simp; omega) | (simp; done)))))⟩
  case round =>
    obtain ⟨i, k, hik, hi, htag, rfl, hbi⟩ := hrel
    have HI := Lib.hid hbi
    clear hbi
    clear k0 k1 k2 k3 k4
    obtain ⟨k0, k1, k2, k3, k4⟩ := (H5.out.2.next HI.out).cells
    by_cases hpr : 2 < p.pr
    · by_cases hil : i < bs.length
      · obtain ⟨R, oo, rfl, hR, hc⟩ := (HB.out.below (H5.out.2.next HI.out).2).at_ (by omega)
        obtain ⟨x, hx⟩ : ∃ x, bs[i]? = some x := ⟨_, List.getElem?_eq_getElem hil⟩
        have gx := hc i x hx
        have hx2 : bs.getD i 0 = x := by rw [List.getD_eq_getElem?_getD, hx]; rfl
        have hx256 := HB.out.byte x (List.mem_of_getElem? hx)
        have HT := Lib.hid (And.intro hik (And.intro htag hx2))
        clear hc hx hik htag hx2
        by_cases hxt : x = 4
        · have hxz : (((x : Nat) : Int) != 4) = false := by skip; subst hxt; simp
          have HX := Lib.hid hxt
          clear hxt
          go_wp2_with fail
          refine ⟨⟨i + (p.n + 1), k + 1, ?_, by omega, fun e j hj => ?_, by go_num, HI.out⟩, by simp [intOf]; omega⟩
          · rw [Nat.succ_mul, HT.out.1]
          · by_cases hjk : j < k
            · exact HT.out.2.1 e j hjk
            · obtain rfl : j = k := by omega
              rw [← HT.out.1, HT.out.2.2, HX.out]
        · have hxz : (((x : Nat) : Int) != 4) = true := by skip; simp; omega
          clear hxt
          go_wp2_with fail
          refine (awake_any _).mono ?_
          rintro e w6 ⟨rfl, hb6⟩
          have H6 := Lib.hid ((H5.out.2.next HI.out).next hb6).2
          clear hb6
          go_wp2
          go_ret
          exact ⟨rfl, H6.out⟩
      · have hWb : bs = Wl := (HW.out.2.2 (fun _ j hj => htag hpr j (by
          by_cases e : j < k
          · exact e
          · have := Nat.mul_le_mul_right (p.n + 1) (show k ≤ j by omega)
            omega))).symm
        subst hWb
        clear hik htag
        have hpw := H5.out.2.next HI.out
        have hs1 := (H5.out.1.below HI.out).str
        have hs2 := (HB.out.below hpw.2).str
        have HPW := Lib.hid hpw
        clear hpw
        go_wp2_with fail
        refine (awake_any _).mono ?_
        rintro e w6 ⟨rfl, hb6⟩
        have hs1' := ((H5.out.1.below HI.out).below hb6).str
        have hs2' := (HB.out.below (HPW.out.next hb6).2).str
        have H6 := Lib.hid (HPW.out.next hb6).2
        clear hb6 hs1 hs2
        go_wp2
        go_ret
        exact ⟨rfl, H6.out⟩
    · have hWb : bs = Wl := (HW.out.2.2 (fun e => absurd e hpr)).symm
      subst hWb
      clear hik htag
      by_cases hil : i < bs.length
      all_goals
        have hpw := H5.out.2.next HI.out
        have hs1 := (H5.out.1.below HI.out).str
        have hs2 := (HB.out.below hpw.2).str
        have HPW := Lib.hid hpw
        clear hpw
        go_wp2_with fail
        refine (awake_any _).mono ?_
        rintro e w6 ⟨rfl, hb6⟩
        have hs1' := ((H5.out.1.below HI.out).below hb6).str
        have hs2' := (HB.out.below (HPW.out.next hb6).2).str
        have H6 := Lib.hid (HPW.out.next hb6).2
        clear hb6 hs1 hs2
        go_wp2
        go_ret
        exact ⟨rfl, H6.out⟩
end Go.Proofs.Ytjligbfijjejmaa
