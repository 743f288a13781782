/- The walk of FontCodes. -/
import Derived.Test.YtjonbedchkahgaaFontH
import Derived.Test.YtjonbedchkahgaaLaidGen
namespace Go.Proofs.Ytjonbedchkahgaa
open Go.RowKit

theorem FB.made (w : World) (wd : Bool) (A : Option Addr) (n c : Nat) (ot : Int) : FB (w.alloc (.cells #[.bool wd, .slice A n c, .int .i64 ot] 24)) w.heap.size wd A n c ot := Whole.made _ _ _
theorem FB.here {w w' : World} {B : Nat} {wd : Bool} {A : Option Addr} {n c : Nat} {ot : Int} (h : FB w B wd A n c ot) (hb : Below w.heap.size w w') : FB w' B wd A n c ot := Whole.here h hb
theorem bytesS_size {wd : Bool} {ot : Int} {gs : List Gl} {l : List Int} (h : l.length ≤ 100) : (bytesS wd ot gs l).size ≤ 200 := by
  unfold bytesS
  split
  · rw [strB_size, bytesOf_length]
    rcases sz_two wd with e | e <;> rw [e] <;> omega
  · show 0 ≤ 200
    omega
theorem codesL_length {wd : Bool} {ot : Int} {gs : List Gl} {s : ByteArray} (h : s.size ≤ 200) : (codesL wd ot gs s).length ≤ 200 := by
  unfold codesL
  split
  · rw [codesOf_length]
    exact Nat.le_trans (Nat.div_le_self _ _) h
  · simp
set_option maxRecDepth 100000 in
set_option maxHeartbeats 4000000 in
theorem codes_law (wd : Bool) (A : Option Addr) (n c : Nat) (ot : Int) (gs : List Gl) (s : ByteArray) (A2 : Option Addr) (n2 c2 : Nat) (l : List Int) (w : World) (h : Glyphs w A n c gs) (hs : s.size ≤ 9223372036854775807) (h2 : IntsAt w A2 n2 c2 l) :
    Calls Try.prog 3 #[.agg #[.bool wd, .slice A n c, .int .i64 ot], .string s, .slice A2 n2 c2] w (True_ w) := by
  have hl := h.len
  subst hl
  have hl2 := h2.len
  subst hl2
  have hcap := h.cap
  have htop := h.top
  have hcap2 := h2.cap
  have htop2 := h2.top
  have H := Lib.hid h
  have H2 := Lib.hid h2
  clear h h2
  by_cases q0 : 150 < gs.length
  · go_enter Try.func3, Try.ntmps3
    go_wp2
    go_ret
    exact ⟨rfl, (Below.refl _ _).alloc (Nat.le_refl _) _⟩
  by_cases q1 : 200 < s.size
  · go_enter Try.func3, Try.ntmps3
    go_wp2
    go_ret
    exact ⟨rfl, (Below.refl _ _).alloc (Nat.le_refl _) _⟩
  by_cases q2 : 100 < l.length
  · go_enter Try.func3, Try.ntmps3
    go_wp2
    go_ret
    exact ⟨rfl, (Below.refl _ _).alloc (Nat.le_refl _) _⟩
  have hb0 := ((Below.refl w.heap.size w).alloc (Nat.le_refl _) (.cells #[.bool wd, .slice A gs.length c, .int .i64 ot] 24))
  have HA0 := Lib.hid (And.intro (H.out.below hb0) (And.intro (H2.out.below hb0) (And.intro hb0 (FB.made w wd A gs.length c ot))))
  clear hb0
  go_enter Try.func3, Try.ntmps3
  go_wp2_with fail
  refine (codes_any _ _ _ _ _ gs _ _ HA0.out.1 (by omega)).mono ?_
  rintro e w1 ⟨A3, n3, c3, rfl, hi1, hb1⟩
  have hf1 := HA0.out.2.2.2.here hb1
  obtain ⟨f0, f1, f2⟩ := hf1.cells
  have HA1 := Lib.hid (And.intro (HA0.out.1.below hb1) (And.intro (HA0.out.2.1.below hb1) (And.intro (HA0.out.2.2.1.trans (hb1.mono HA0.out.2.2.1.size)) (And.intro hf1 hi1))))
  clear HA0 hb1 hf1 hi1
  go_wp2_with fail
  refine (bytes_any _ _ _ _ _ gs _ _ _ _ _ HA1.out.1 HA1.out.2.2.2.2 (Nat.le_trans (codesL_length (by omega)) (by decide))).mono ?_
  rintro e w2 ⟨rfl, hb2⟩
  have hf2 := HA1.out.2.2.2.1.here hb2
  obtain ⟨g0, g1, g2⟩ := hf2.cells
  have HA2 := Lib.hid (And.intro (HA1.out.1.below hb2) (And.intro (HA1.out.2.1.below hb2) (And.intro (HA1.out.2.2.1.trans (hb2.mono HA1.out.2.2.1.size)) hf2)))
  clear HA1 hb2 hf2 f0 f1 f2
  by_cases he : codesE wd ot gs s = 0
  · rw [he, (there_back he).1, (there_back he).2]
    clear he
    go_wp2_with fail
    refine (bytes_any _ _ _ _ _ gs _ _ _ l _ HA2.out.1 HA2.out.2.1 (by omega)).mono ?_
    rintro e w3 ⟨rfl, hb3⟩
    have hf3 := HA2.out.2.2.2.here hb3
    obtain ⟨f0, f1, f2⟩ := hf3.cells
    have HA3 := Lib.hid (And.intro (HA2.out.1.below hb3) (And.intro (HA2.out.2.1.below hb3) (And.intro (HA2.out.2.2.1.trans (hb3.mono HA2.out.2.2.1.size)) hf3)))
    clear HA2 hb3 hf3 g0 g1 g2
    have hsz := bytesS_size (wd := wd) (ot := ot) (gs := gs) (l := l) (by omega)
    have HSZ := Lib.hid hsz
    clear hsz
    by_cases hh : chkC wd ot gs l = 0
    · have HB := Lib.hid (back_there hh)
      rw [hh]
      clear hh
      go_wp2_with fail
      refine (codes_any _ _ _ _ _ gs _ _ HA3.out.1 (by have := HSZ.out; omega)).mono ?_
      rintro e w4 ⟨A4, n4, c4, rfl, hi4, hb4⟩
      rw [HB.out.1]
      rw [HB.out.2] at hi4
      have HA4 := Lib.hid (And.intro hi4 (And.intro (HA3.out.2.1.below hb4) (HA3.out.2.2.1.trans (hb4.mono HA3.out.2.2.1.size))))
      clear HA3 hb4 hi4
      go_wp2_with fail
      refine (awake_any _).mono ?_
      rintro e w5 ⟨rfl, hb5⟩
      have HA5 := Lib.hid (And.intro (HA4.out.1.below hb5) (And.intro (HA4.out.2.1.below hb5) (HA4.out.2.2.trans (hb5.mono HA4.out.2.2.size))))
      clear HA4 hb5
      go_wp2_with fail
      refine (ints_same _ _ _ _ _ _ _ _ HA5.out.1 HA5.out.2.1).mono ?_
      rintro e w6 ⟨rfl, j, rfl⟩
      go_wp2_with fail
      go_ret
      exact ⟨rfl, below_drewN HA5.out.2.2 _⟩
    · have hh1 : (chkC wd ot gs l == 0) = false := by simpa using hh
      have hh2 : (chkC wd ot gs l != 0) = true := by simpa using hh
      generalize chkC wd ot gs l = E at *
      clear hh
      go_wp2_with fail
      refine (codes_any _ _ _ _ _ gs _ _ HA3.out.1 (by have := HSZ.out; omega)).mono ?_
      rintro e w4 ⟨A4, n4, c4, rfl, hi4, hb4⟩
      have HA4 := Lib.hid (HA3.out.2.2.1.trans (hb4.mono HA3.out.2.2.1.size))
      clear HA3 hb4 hi4
      go_wp2_with fail
      refine (awake_any _).mono ?_
      rintro e w5 ⟨rfl, hb5⟩
      have HA5 := Lib.hid (HA4.out.trans (hb5.mono HA4.out.size))
      clear HA4 hb5
      go_wp2_with fail
      go_ret
      exact ⟨rfl, HA5.out⟩
  · have he1 : (codesE wd ot gs s == 0) = false := by simpa using he
    have he2 : (codesE wd ot gs s != 0) = true := by simpa using he
    generalize codesE wd ot gs s = E0 at *
    clear he
    go_wp2_with fail
    refine (bytes_any _ _ _ _ _ gs _ _ _ l _ HA2.out.1 HA2.out.2.1 (by omega)).mono ?_
    rintro e w3 ⟨rfl, hb3⟩
    have hf3 := HA2.out.2.2.2.here hb3
    obtain ⟨f0, f1, f2⟩ := hf3.cells
    have HA3 := Lib.hid (And.intro (HA2.out.1.below hb3) (And.intro (HA2.out.2.1.below hb3) (And.intro (HA2.out.2.2.1.trans (hb3.mono HA2.out.2.2.1.size)) hf3)))
    clear HA2 hb3 hf3 g0 g1 g2
    have hsz := bytesS_size (wd := wd) (ot := ot) (gs := gs) (l := l) (by omega)
    have HSZ := Lib.hid hsz
    clear hsz
    by_cases hh : chkC wd ot gs l = 0
    · have HB := Lib.hid (back_there hh)
      rw [hh]
      clear hh
      go_wp2_with fail
      refine (codes_any _ _ _ _ _ gs _ _ HA3.out.1 (by have := HSZ.out; omega)).mono ?_
      rintro e w4 ⟨A4, n4, c4, rfl, hi4, hb4⟩
      rw [HB.out.1]
      rw [HB.out.2] at hi4
      have HA4 := Lib.hid (And.intro hi4 (And.intro (HA3.out.2.1.below hb4) (HA3.out.2.2.1.trans (hb4.mono HA3.out.2.2.1.size))))
      clear HA3 hb4 hi4
      go_wp2_with fail
      refine (awake_any _).mono ?_
      rintro e w5 ⟨rfl, hb5⟩
      have HA5 := Lib.hid (And.intro (HA4.out.1.below hb5) (And.intro (HA4.out.2.1.below hb5) (HA4.out.2.2.trans (hb5.mono HA4.out.2.2.size))))
      clear HA4 hb5
      go_wp2_with fail
      refine (ints_same _ _ _ _ _ _ _ _ HA5.out.1 HA5.out.2.1).mono ?_
      rintro e w6 ⟨rfl, j, rfl⟩
      go_wp2_with fail
      go_ret
      exact ⟨rfl, below_drewN HA5.out.2.2 _⟩
    · have hh1 : (chkC wd ot gs l == 0) = false := by simpa using hh
      have hh2 : (chkC wd ot gs l != 0) = true := by simpa using hh
      generalize chkC wd ot gs l = E at *
      clear hh
      go_wp2_with fail
      refine (codes_any _ _ _ _ _ gs _ _ HA3.out.1 (by have := HSZ.out; omega)).mono ?_
      rintro e w4 ⟨A4, n4, c4, rfl, hi4, hb4⟩
      have HA4 := Lib.hid (HA3.out.2.2.1.trans (hb4.mono HA3.out.2.2.1.size))
      clear HA3 hb4 hi4
      go_wp2_with fail
      refine (awake_any _).mono ?_
      rintro e w5 ⟨rfl, hb5⟩
      have HA5 := Lib.hid (HA4.out.trans (hb5.mono HA4.out.size))
      clear HA4 hb5
      go_wp2_with fail
      go_ret
      exact ⟨rfl, HA5.out⟩
end Go.Proofs.Ytjonbedchkahgaa
