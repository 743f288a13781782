/- PredictBack: its walk. -/
import Derived.Test.YtjligbfijjejmaaPredBack00
import Derived.Test.YtjligbfijjejmaaPredBack01
import Derived.Test.YtjligbfijjejmaaPredBack02
import Derived.Test.YtjligbfijjejmaaPredBack10
import Derived.Test.YtjligbfijjejmaaPredBack11
import Derived.Test.YtjligbfijjejmaaPredBack12
namespace Go.Proofs.Ytjligbfijjejmaa
open Go.RowKit

set_option maxRecDepth 100000 in
set_option maxHeartbeats 8000000 in
theorem back_law (p : PaV) (tag : Int) (A : Option Addr) (n c : Nat) (bs : List Nat) (w : World) (h : Bytes w A n c bs) :
    Calls Try.prog 4 #[p.val, .int .i64 tag, .slice A n c] w (True_ w) := by
  have hl := h.len
  subst hl
  have hcap := h.cap
  have htop := h.top
  have HB := Lib.hid h
  clear h
  by_cases hlong : 2000 < bs.length
  · go_enter Try.func4, Try.ntmps4
    go_wp2
    go_ret
    exact ⟨rfl, (PK.made w p).2⟩
  have hlen : bs.length ≤ 2000 := by omega
  obtain ⟨E1, X, hX⟩ : ∃ E X, doS p tag bs = (E, X) := ⟨_, _, rfl⟩
  obtain ⟨F1, Y, hY⟩ : ∃ E X', undoS p X = (E, X') := ⟨_, _, rfl⟩
  obtain ⟨G, Z, hZ⟩ : ∃ E X', undoS p bs = (E, X') := ⟨_, _, rfl⟩
  have HXY := Lib.hid (And.intro hX (And.intro hY hZ))
  have hfirst : (E1 == 0) = false ∨ (E1 = 0 ∧ F1 = 0 ∧ bs = Y) := by
    by_cases e : E1 = 0
    · subst e
      have := doS_back HB.out.byte hlen hX
      rw [hY] at this
      injection this with e1 e2
      exact .inr ⟨rfl, e1, e2.symm⟩
    · exact .inl (by simp [e])
  have hsecond : (G = 0 ∨ ((G != 0) = true ∧ Z = [])) := by
    by_cases e : G = 0
    · exact .inl e
    · exact .inr ⟨by simp [e], undoS_fail hZ e⟩
  obtain ⟨T, hT4, htag3⟩ : ∃ T : Nat, T ≤ 4 ∧ ((tag ≤ 0 ∧ T = 0) ∨ (4 < tag ∧ T = 4) ∨ (tag = (T : Int) ∧ 0 < tag)) := by
    refine ⟨(max 0 (min tag 4)).toNat, ?_, ?_⟩ <;> omega
  clear hX hY hZ
  rcases hsecond with rfl | ⟨hG, rfl⟩
  · obtain ⟨hok, Wl, hW, hsame⟩ := undoS_back hT4 HB.out.byte hlen HXY.out.2.2
    have hnb := hok.n_is.2
    have HW := Lib.hid (And.intro hok (And.intro hW hsame))
    clear hok hW hsame
    rcases hfirst with hE | ⟨rfl, rfl, rfl⟩
    · rcases htag3 with ⟨htg, rfl⟩ | ⟨htg, rfl⟩ | htg
      · exact back_a00 p tag htg A c bs w HB hlen X Z Wl E1 F1 Y hE HXY hnb HW
      · exact back_a01 p tag htg A c bs w HB hlen X Z Wl E1 F1 Y hE HXY hnb HW
      · exact back_a02 p tag T (Lib.hid htg.1) htg.2 (by have := htg.1; omega) A c bs w HB hlen X Z Wl E1 F1 Y hE HXY hnb (htg.1.symm ▸ HW)
    · rcases htag3 with ⟨htg, rfl⟩ | ⟨htg, rfl⟩ | htg
      · exact back_a10 p tag htg A c bs w HB hlen X Z Wl  HXY hnb HW
      · exact back_a11 p tag htg A c bs w HB hlen X Z Wl  HXY hnb HW
      · exact back_a12 p tag T (Lib.hid htg.1) htg.2 (by have := htg.1; omega) A c bs w HB hlen X Z Wl  HXY hnb (htg.1.symm ▸ HW)
  · rcases hfirst with hE | ⟨rfl, rfl, rfl⟩
    · go_enter Try.func4, Try.ntmps4
      go_wp2_with fail
      have Q := do_any p tag A _ c bs _ (HB.out.below (PK.made w p).2)
      rw [HXY.out.1] at Q
      refine Q.mono ?_
      clear Q
      rintro e w1 ⟨A1, c1, rfl, hy1, hb1⟩
      have hp1 := (PK.made w p).next hb1
      obtain ⟨k0, k1, k2, k3, k4⟩ := hp1.cells
      have H1 := Lib.hid (And.intro hy1 hp1)
      clear hy1 hp1 hb1
      go_wp2_with fail
      have Q := undo_any p A1 _ c1 X _ H1.out.1
      rw [HXY.out.2.1] at Q
      refine Q.mono ?_
      clear Q k0 k1 k2 k3 k4
      rintro e w2 ⟨A2, c2, rfl, hy2, hb2⟩
      have hp2 := H1.out.2.next hb2
      obtain ⟨k0, k1, k2, k3, k4⟩ := hp2.cells
      have hs1 := hy2.str
      have hs2 := (HB.out.below hp2.2).str
      have H2 := Lib.hid hp2
      clear hy2 hp2 hb2
      go_wp2_with fail
      have Q := undo_any p A _ c bs _ (HB.out.below H2.out.2)
      rw [HXY.out.2.2] at Q
      refine Q.mono ?_
      clear Q k0 k1 k2 k3 k4 hs1 hs2
      rintro e w3 ⟨A3, c3, rfl, hy3, hb3⟩
      have hp3 := H2.out.next hb3
      obtain ⟨k0, k1, k2, k3, k4⟩ := hp3.cells
      have H3 := Lib.hid (And.intro hy3 hp3)
      clear hy3 hp3 hb3
      go_wp2_with fail
      refine (awake_any _).mono ?_
      rintro e w6 ⟨rfl, hb6⟩
      have H6 := Lib.hid (H3.out.2.next hb6).2
      clear hb6
      go_wp2
      go_ret
      exact ⟨rfl, H6.out⟩
    · go_enter Try.func4, Try.ntmps4
      go_wp2_with fail
      have Q := do_any p tag A _ c bs _ (HB.out.below (PK.made w p).2)
      rw [HXY.out.1] at Q
      refine Q.mono ?_
      clear Q
      rintro e w1 ⟨A1, c1, rfl, hy1, hb1⟩
      have hp1 := (PK.made w p).next hb1
      obtain ⟨k0, k1, k2, k3, k4⟩ := hp1.cells
      have H1 := Lib.hid (And.intro hy1 hp1)
      clear hy1 hp1 hb1
      go_wp2_with fail
      have Q := undo_any p A1 _ c1 X _ H1.out.1
      rw [HXY.out.2.1] at Q
      refine Q.mono ?_
      clear Q k0 k1 k2 k3 k4
      rintro e w2 ⟨A2, c2, rfl, hy2, hb2⟩
      have hp2 := H1.out.2.next hb2
      obtain ⟨k0, k1, k2, k3, k4⟩ := hp2.cells
      have hs1 := hy2.str
      have hs2 := (HB.out.below hp2.2).str
      have H2 := Lib.hid hp2
      clear hy2 hp2 hb2
      go_wp2_with fail
      have Q := undo_any p A _ c bs _ (HB.out.below H2.out.2)
      rw [HXY.out.2.2] at Q
      refine Q.mono ?_
      clear Q k0 k1 k2 k3 k4 hs1 hs2
      rintro e w3 ⟨A3, c3, rfl, hy3, hb3⟩
      have hp3 := H2.out.next hb3
      obtain ⟨k0, k1, k2, k3, k4⟩ := hp3.cells
      have H3 := Lib.hid (And.intro hy3 hp3)
      clear hy3 hp3 hb3
      go_wp2_with fail
      refine (awake_any _).mono ?_
      rintro e w6 ⟨rfl, hb6⟩
      have H6 := Lib.hid (H3.out.2.next hb6).2
      clear hb6
      go_wp2
      go_ret
      exact ⟨rfl, H6.out⟩
end Go.Proofs.Ytjligbfijjejmaa
