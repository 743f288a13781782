/- DeflatePuts, walked. -/
import Derived.Test.YtnjdnldoopgcpaaDoorDefBl
namespace Go.Proofs.YtnjdnldoopgcpaaDoor
open Go.RowKit

set_option maxRecDepth 100000 in
set_option maxHeartbeats 4000000 in
theorem puts_law (A : Option Addr) (n c : Nat) (l : List Tk) (w : World) (h : TksAt w A n c l) (hE : Env w) :
    Calls Tryd.prog 4 #[.slice A n c] w (True_ w) := by
  have hl := h.len
  rw [List.length_map] at hl
  have H0 := Lib.hid h
  have HE := Lib.hid hE
  clear h hE
  go_enter Tryd.func4, Tryd.ntmps4
  by_cases g1 : 100 < n
  · have d1 : decide ((n : Int) > 100) = true := decide_eq_true (by omega)
    go_wp2_with fail
    go_ret
    exact ⟨rfl, Below.refl _ _⟩
  have d1 : decide ((n : Int) > 100) = false := decide_eq_false (by omega)
  go_wp2_with fail
  refine (dput_any A n c l w H0.out (by omega)).mono ?_
  rintro e w1 (⟨hok, A1, c1, bs, rfl, hby, hnum, hlen, hb⟩ | ⟨hbad, rfl, hb⟩)
  · have H1 := Lib.hid (And.intro hby hb)
    have hsh := allF_short hok
    have HT := Lib.hid (tokens_put (most := 100000) (bs := bs) (l := l) (by omega) hok (by omega) hnum (by omega) (by omega))
    have hbl : bs.length ≤ 10000 := by omega
    have HEX := Lib.hid (expand_any A n c l 100000 w1 (H0.out.later hb) (by omega))
    clear hok hby hnum hlen hb hsh
    go_wp2_with fail
    refine HEX.out.mono ?_
    rintro e w2 (⟨x, A2, c2, hp, rfl, hby, hxm, hb⟩ | ⟨E, hp, hE0, rfl, hb⟩)
    · have H2 := Lib.hid (H1.out.2.trans (hb.mono H1.out.2.size))
      have HP := Lib.hid (HT.out.1 x hp)
      have hxl : x.length ≤ 25800 := by have := HP.out.2; omega
      have HTK := Lib.hid (tokens_any A1 _ c1 bs 100000 w2 (H1.out.1.below hb) (by omega) (HE.out.here H2.out))
      clear hby hb hp hxm
      go_wp2_with fail
      refine HTK.out.mono ?_
      rintro e w3 (⟨m, used, A3, c3, hp, rfl, hr, -, -, hb⟩ | ⟨E, hp, -, -, -⟩)
      rotate_left
      · rw [HP.out.1] at hp; cases hp
      obtain ⟨rfl, rfl⟩ : l = m ∧ bs.length = used := by
        rw [HP.out.1] at hp
        injection hp with hp
        injection hp with h1 h2
        exact ⟨h1, h2⟩
      rw [hl] at hr ⊢
      have H3 := Lib.hid (And.intro hr (H2.out.trans (hb.mono H2.out.size)))
      clear hr hb hp HTK
      go_wp2_with fail
      refine (awake07 _).mono ?_
      rintro e w4 ⟨rfl, hb⟩
      have H4 := Lib.hid (And.intro (H3.out.1.later hb) (H3.out.2.trans (hb.mono H3.out.2.size)))
      have HSM := Lib.hid (same_tk A A3 n c c3 l w4 (H0.out.later H4.out.2) H4.out.1 (by omega))
      have e2 : ((bs.length : Int) == (bs.length : Int)) = true := by simp
      have e3 : decide ((x.length : Int) ≤ 25800) = true := decide_eq_true (by omega)
      clear hb
      go_wp2_with fail
      refine HSM.out.mono ?_
      rintro e w5 ⟨rfl, hb⟩
      have HZ := Lib.hid (H4.out.2.trans (hb.mono H4.out.2.size))
      clear hb
      go_wp2_with fail
      go_ret
      exact ⟨rfl, HZ.out⟩
    · have H2 := Lib.hid (H1.out.2.trans (hb.mono H1.out.2.size))
      have HP := Lib.hid (HT.out.2 E hp)
      have d4 : (E != 0) = true := by simp [hE0]
      have d5 : (E == E) = true := by simp
      have HTK := Lib.hid (tokens_any A1 _ c1 bs 100000 w2 (H1.out.1.below hb) (by omega) (HE.out.here H2.out))
      clear hb hp
      go_wp2_with fail
      refine HTK.out.mono ?_
      rintro e w3 (⟨m, used, A3, c3, hp, rfl, hr, -, -, hb⟩ | ⟨E2, hp, hE2, rfl, hb⟩)
      · rw [HP.out] at hp; cases hp
      obtain rfl : E = E2 := by rw [HP.out] at hp; injection hp
      have H3 := Lib.hid (H2.out.trans (hb.mono H2.out.size))
      clear hb hp HTK
      go_wp2_with fail
      refine (awake07 _).mono ?_
      rintro e w4 ⟨rfl, hb⟩
      have HZ := Lib.hid (H3.out.trans (hb.mono H3.out.size))
      clear hb
      go_wp2_with fail
      go_ret
      exact ⟨rfl, HZ.out⟩
  · have HX := Lib.hid (show expandP l 100000 = .error 1 by unfold expandP; rw [if_pos (by omega), if_neg (by rw [hbad]; decide)])
    have H1 := Lib.hid hb
    have HEX := Lib.hid (expand_any A n c l 100000 w1 (H0.out.later hb) (by omega))
    clear hb hbad
    go_wp2_with fail
    refine HEX.out.mono ?_
    rintro e w2 (⟨x, A2, c2, hp, -, -, -, -⟩ | ⟨E, hp, hE0, rfl, hb⟩)
    · rw [HX.out] at hp; cases hp
    obtain rfl : (1 : Int) = E := by rw [HX.out] at hp; injection hp
    have H2 := Lib.hid (H1.out.trans (hb.mono H1.out.size))
    clear hb hp HEX hE0
    go_wp2_with fail
    refine (awake07 _).mono ?_
    rintro e w4 ⟨rfl, hb⟩
    have HZ := Lib.hid (H2.out.trans (hb.mono H2.out.size))
    clear hb
    go_wp2_with fail
    go_ret
    exact ⟨rfl, HZ.out⟩
end Go.Proofs.YtnjdnldoopgcpaaDoor
