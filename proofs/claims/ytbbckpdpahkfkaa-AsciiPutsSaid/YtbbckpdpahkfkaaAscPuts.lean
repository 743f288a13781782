/- AsciiPuts: its walk. -/
import Derived.Test.YtbbckpdpahkfkaaAscRc
namespace Go.Proofs.Ytbbckpdpahkfkaa
open Go.RowKit

set_option maxRecDepth 100000 in
set_option maxHeartbeats 4000000 in
theorem puts_law (A : Option Addr) (n c : Nat) (bs : List Nat) (w : World) (h : Bytes w A n c bs) (hM : MX w) :
    Calls Try.prog 3 #[.slice A n c] w (True_ w) := by
  obtain rfl := h.len
  by_cases g1 : 500 < bs.length
  · go_enter Try.func3, Try.ntmps3
    go_wp2
    go_ret
    exact ⟨rfl, Below.refl _ _⟩
  have d1 : decide ((500 : Int) < (bs.length : Int)) = false := by simp; omega
  have hhex := fun A c w (h : Bytes w A bs.length c bs) => hex_any A bs.length c bs w h (by omega)
  have hput := fun A c w (h : Bytes w A bs.length c bs) => put_any A bs.length c bs w h (by omega)
  have rhex := fun A c w (h : Bytes w A bs.length c bs) => hex_ref A bs.length c bs w h (by omega)
  have rput := fun A c w (h : Bytes w A bs.length c bs) => put_ref A bs.length c bs w h (by omega)
  have hown := fun A c w (h : Bytes w A bs.length c bs) => own_any bs bs.length c A w h (by omega)
  generalize strB (hexS bs ++ [62]) = X at *
  generalize strB (putS bs ++ [126, 62]) = Y at *
  have HHEX := Lib.hid hhex
  have HPUT := Lib.hid hput
  have RHEX := Lib.hid rhex
  have RPUT := Lib.hid rput
  have HOWN := Lib.hid hown
  have H := Lib.hid h
  have HM := Lib.hid hM
  clear hhex hput rhex rput hown h hM
  generalize bs.length = N at *
  go_enter Try.func3, Try.ntmps3
  go_wp2_with fail
  refine (HOWN.out _ _ _ H.out).mono ?_
  rintro e w1 ⟨A1, c1, rfl, hy1, hb1⟩
  have H1 := Lib.hid (And.intro hy1 hb1)
  clear hy1 hb1
  go_wp2_with fail
  refine (awake_any _ (HM.out.below H1.out.2 HM.out.1)).mono ?_
  rintro e w2 ⟨rfl, hb2⟩
  have H2 := Lib.hid (And.intro (H1.out.1.below hb2) (H1.out.2.trans (hb2.mono H1.out.2.size)))
  clear hb2 H1 HM
  go_wp2_with fail
  refine (HHEX.out _ _ _ H2.out.1).mono ?_
  rintro e w3 ⟨rfl, hb3⟩
  have H3 := Lib.hid (And.intro (H2.out.1.below hb3) (H2.out.2.trans (hb3.mono H2.out.2.size)))
  clear hb3 H2 HHEX
  go_wp2_with fail
  refine (RHEX.out _ _ _ (H.out.below H3.out.2)).mono ?_
  rintro e w4 ⟨rfl, hb4⟩
  have H4 := Lib.hid (And.intro (H3.out.1.below hb4) (H3.out.2.trans (hb4.mono H3.out.2.size)))
  clear hb4 H3 RHEX
  go_wp2_with fail
  refine (HPUT.out _ _ _ H4.out.1).mono ?_
  rintro e w5 ⟨rfl, hb5⟩
  have H5 := Lib.hid (And.intro (H4.out.1.below hb5) (H4.out.2.trans (hb5.mono H4.out.2.size)))
  clear hb5 H4 HPUT
  go_wp2_with fail
  refine (RPUT.out _ _ _ (H.out.below H5.out.2)).mono ?_
  rintro e w6 ⟨rfl, hb6⟩
  have H6 := Lib.hid (And.intro (H5.out.1.below hb6) (H5.out.2.trans (hb6.mono H5.out.2.size)))
  clear hb6 H5 RPUT
  have cA := H6.out.1.str
  have cB := (H.out.below H6.out.2).str
  go_wp2_with fail
  go_ret
  exact ⟨rfl, H6.out.2⟩
end Go.Proofs.Ytbbckpdpahkfkaa
