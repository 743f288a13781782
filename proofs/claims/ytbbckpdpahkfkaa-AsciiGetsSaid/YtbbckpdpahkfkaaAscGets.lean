/- AsciiGets: its walk. -/
import Derived.Test.YtbbckpdpahkfkaaAscRl
import Derived.Test.YtbbckpdpahkfkaaAscP
import Derived.Test.YtbbckpdpahkfkaaAscBack
namespace Go.Proofs.Ytbbckpdpahkfkaa
open Go.RowKit

theorem get_ref (t : List Nat) (most : Int) (w : World) (hb : ∀ x ∈ t, x < 256) (hl : t.length ≤ 100000) :
    Calls Try.prog 17 #[.string (strB t), .int .i64 most] w (AnsIs (getR t most) w) := by
  by_cases hm : most < 0 ∨ 1048576 < most
  · unfold getR; rw [if_pos hm]; exact get_ref_arg _ most w hm
  cases hc : cut2 t with
  | none => unfold getR; rw [if_neg hm, hc]; exact get_ref_none t most w hb hl hm hc
  | some b => rw [restG_start hm hc]; exact get_ref_some t b most w hb hl hm hc
set_option maxRecDepth 100000 in
set_option maxHeartbeats 4000000 in
theorem gets_law (s : ByteArray) (most : Int) (w : World) (hM : MX w) :
    Calls Try.prog 4 #[.string s, .int .i64 most] w (True_ w) := by
  by_cases g1 : 500 < s.size
  · go_enter Try.func4, Try.ntmps4
    go_wp2
    go_ret
    exact ⟨rfl, Below.refl _ _⟩
  have d1 : decide ((500 : Int) < (s.size : Int)) = false := by simp; omega
  obtain ⟨t, hb, hs, hl⟩ := strB_of s
  subst hs
  have ha := fun w (h : MX w) => unhex_any t most w hb (by omega) h
  have hr := fun w => unhex_ref t most w hb (by omega)
  have ga := fun w (h : MX w) => get_any t most w hb (by omega) h
  have gr := fun w => get_ref t most w hb (by omega)
  generalize unhexR t most = U at *
  generalize getR t most = G at *
  obtain ⟨E1, L1⟩ := U
  obtain ⟨E2, L2⟩ := G
  unfold AnsIs at ha hr ga gr
  dsimp only at ha hr ga gr
  generalize strB t = S at *
  obtain ⟨N1, hN1⟩ : ∃ n, L1.length = n := ⟨_, rfl⟩
  obtain ⟨N2, hN2⟩ : ∃ n, L2.length = n := ⟨_, rfl⟩
  rw [hN1] at ha hr
  rw [hN2] at ga gr
  have HA := Lib.hid ha
  have HR := Lib.hid hr
  have GA := Lib.hid ga
  have GR := Lib.hid gr
  have HM := Lib.hid hM
  clear ha hr ga gr hM hN1 hN2 hl hb g1
  go_enter Try.func4, Try.ntmps4
  go_wp2_with fail
  refine (HA.out _ HM.out).mono ?_
  rintro e w1 ⟨A1, c1, rfl, hy1, hb1⟩
  have H1 := Lib.hid (And.intro hy1 hb1)
  clear hy1 hb1
  go_wp2_with fail
  refine (HR.out _).mono ?_
  rintro e w2 ⟨A2, c2, rfl, hy2, hb2⟩
  have H2 := Lib.hid (And.intro (H1.out.1.below hb2) (And.intro hy2 (H1.out.2.trans (hb2.mono H1.out.2.size))))
  clear hy2 hb2 H1
  go_wp2_with fail
  refine (GA.out _ (HM.out.below H2.out.2.2 HM.out.1)).mono ?_
  rintro e w3 ⟨A3, c3, rfl, hy3, hb3⟩
  have H3 := Lib.hid (And.intro (H2.out.1.below hb3) (And.intro (H2.out.2.1.below hb3) (And.intro hy3 (H2.out.2.2.trans (hb3.mono H2.out.2.2.size)))))
  clear hy3 hb3 H2
  go_wp2_with fail
  refine (GR.out _).mono ?_
  rintro e w4 ⟨A4, c4, rfl, hy4, hb4⟩
  have H4 := Lib.hid (And.intro (H3.out.1.below hb4) (And.intro (H3.out.2.1.below hb4) (And.intro (H3.out.2.2.1.below hb4) (And.intro hy4 (H3.out.2.2.2.trans (hb4.mono H3.out.2.2.2.size))))))
  clear hy4 hb4 H3
  go_wp2_with fail
  refine (awake_any _ (HM.out.below H4.out.2.2.2.2 HM.out.1)).mono ?_
  rintro e w5 ⟨rfl, hb5⟩
  have cA := (H4.out.1.below hb5).str
  have cB := (H4.out.2.1.below hb5).str
  have cC := (H4.out.2.2.1.below hb5).str
  have cD := (H4.out.2.2.2.1.below hb5).str
  have H5 := Lib.hid (H4.out.2.2.2.2.trans (hb5.mono H4.out.2.2.2.2.size))
  clear hb5 H4 HA HR GA GR HM
  go_wp2_with fail
  go_ret
  exact ⟨rfl, H5.out⟩
end Go.Proofs.Ytbbckpdpahkfkaa
