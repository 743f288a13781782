/- InflateTokens, walked. -/
import Derived.Test.YtdoliloiagfagaaDoorInfY
namespace Go.Proofs.YtdoliloiagfagaaDoor
open Go.RowKit

theorem str_same (s : ByteArray) : (s.toList == s.toList) = true := by simp
set_option maxRecDepth 100000 in
set_option maxHeartbeats 2000000 in
theorem tokens_law (A : Option Addr) (n c : Nat) (bs : List Nat) (most : Int) (w : World) (h : Bytes w A n c bs) (hE : Env w) :
    Calls Tryd.prog 6 #[.slice A n c, .int .i64 most] w (True_ w) := by
  have hl := h.len
  have H0 := Lib.hid h
  have HE := Lib.hid hE
  clear h hE
  go_enter Tryd.func6, Tryd.ntmps6
  by_cases g1 : 2000 < n
  · have d1 : decide ((n : Int) > 2000) = true := decide_eq_true (by omega)
    go_wp2_with fail
    go_ret
    exact ⟨rfl, Below.refl _ _⟩
  have d1 : decide ((n : Int) > 2000) = false := decide_eq_false (by omega)
  by_cases g2 : most < 0
  · have d2 : decide (most < 0) = true := decide_eq_true g2
    go_wp2_with fail
    go_ret
    exact ⟨rfl, Below.refl _ _⟩
  have d2 : decide (most < 0) = false := decide_eq_false g2
  by_cases g3 : 5000 < most
  · have d3 : decide (most > 5000) = true := decide_eq_true g3
    go_wp2_with fail
    go_ret
    exact ⟨rfl, Below.refl _ _⟩
  have d3 : decide (most > 5000) = false := decide_eq_false g3
  have HTK := Lib.hid (tokens_any A n c bs most w H0.out (by omega) HE.out)
  go_wp2_with fail
  refine HTK.out.mono ?_
  rintro e w1 (⟨toks, used, A1, c1, hp, rfl, hr, hle, hu, hb⟩ | ⟨E, hp, hE, rfl, hb⟩)
  · obtain ⟨x, hx, hix⟩ := tokens_expand hp
    have HB1 := Lib.hid hb
    have HEX := Lib.hid (expand_any A1 _ c1 toks most w1 hr (by omega))
    have HX := Lib.hid (And.intro hx hix)
    clear hb hr hp hx hix
    go_wp2_with fail
    refine HEX.out.mono ?_
    rintro e w2 (⟨x2, A2, c2, hp2, rfl, hby, -, hb⟩ | ⟨E, hp2, hE, rfl, hb⟩)
    rotate_left
    · rw [HX.out.1] at hp2; cases hp2
    rw [HX.out.1] at hp2
    injection hp2 with hp2
    subst hp2
    have H2 := Lib.hid (And.intro hby (HB1.out.trans (hb.mono HB1.out.size)))
    clear hby hb HEX
    go_wp2_with fail
    refine (inflate_any A n c bs most w2 (H0.out.below H2.out.2) (by omega) (HE.out.here H2.out.2)).mono ?_
    rintro e w3 (⟨x3, used3, A3, c3, hp3, rfl, hby, -, -, hb⟩ | ⟨E, hp3, hE, rfl, hb⟩)
    rotate_left
    · rw [HX.out.2] at hp3; cases hp3
    rw [HX.out.2] at hp3
    injection hp3 with hp3
    injection hp3 with e1 e2
    subst e1 e2
    have H3 := Lib.hid (And.intro (H2.out.1.below hb) (And.intro hby (H2.out.2.trans (hb.mono H2.out.2.size))))
    clear hby hb
    go_wp2_with fail
    refine (awake06 _ (HE.out.here H3.out.2.2)).mono ?_
    rintro e w4 ⟨rfl, hb⟩
    have HB4 := Lib.hid (H3.out.2.2.trans (hb.mono H3.out.2.2.size))
    have hs1 := (H3.out.1.below hb).str
    have hs2 := (H3.out.2.1.below hb).str
    have e1 := str_same (strB x)
    have e2 : ((used : Int) == (used : Int)) = true := by simp
    clear hb
    go_wp2_with fail
    go_ret
    exact ⟨rfl, HB4.out⟩
  · have d4 : (E != 0) = true := by simp [hE]
    have d5 : (E == E) = true := by simp
    have HB1 := Lib.hid hb
    have HX := Lib.hid (And.intro (inflP_tok hp) (show expandP [] most = .ok [] by unfold expandP; rw [if_pos (by omega)]; rfl))
    have HEX := Lib.hid (expand_any none 0 0 [] most w1 (RowAt.none _ _) (by omega))
    clear hb hp
    go_wp2_with fail
    refine HEX.out.mono ?_
    rintro e w2 (⟨x2, A2, c2, hp2, rfl, hby, -, hb⟩ | ⟨E2, hp2, hE2, rfl, hb⟩)
    rotate_left
    · rw [HX.out.2] at hp2; cases hp2
    have H2 := Lib.hid (HB1.out.trans (hb.mono HB1.out.size))
    clear hby hb HEX hp2
    go_wp2_with fail
    refine (inflate_any A n c bs most w2 (H0.out.below H2.out) (by omega) (HE.out.here H2.out)).mono ?_
    rintro e w3 (⟨x3, used3, A3, c3, hp3, rfl, hby, -, -, hb⟩ | ⟨E3, hp3, hE3, rfl, hb⟩)
    · rw [HX.out.1] at hp3; cases hp3
    rw [HX.out.1] at hp3
    injection hp3 with hp3
    subst hp3
    have H3 := Lib.hid (H2.out.trans (hb.mono H2.out.size))
    clear hb
    go_wp2_with fail
    refine (awake06 _ (HE.out.here H3.out)).mono ?_
    rintro e w4 ⟨rfl, hb⟩
    have HB4 := Lib.hid (H3.out.trans (hb.mono H3.out.size))
    clear hb
    go_wp2_with fail
    go_ret
    exact ⟨rfl, HB4.out⟩
end Go.Proofs.YtdoliloiagfagaaDoor
