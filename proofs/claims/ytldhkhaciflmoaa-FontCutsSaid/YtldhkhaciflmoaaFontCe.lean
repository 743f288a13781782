/- font: FontCuts, walked. -/
import Derived.Test.YtldhkhaciflmoaaFontCd
import Derived.Test.YtldhkhaciflmoaaFontV
namespace Go.Proofs.Ytldhkhaciflmoaa
open Go.RowKit

def CutEq (wr : Bool) (L : List Gl) (E : Int) (w : World) (e : Ending) (w' : World) : Prop :=
  ∃ A c, e = .returned (.tuple #[.agg #[.bool wr, .slice A L.length c, .int .i64 0], .int .i64 E]) ∧ Glyphs w' A L.length c L ∧ Below w.heap.size w w'
theorem both_cut (wd : Bool) (ot : Int) (gs : List Gl) (keep : List Int) (hg : gs.length ≤ 150) (hk : keep.length ≤ 100) :
    ∃ (wr : Bool) (L : List Gl) (E : Int), L.length ≤ 1000 ∧ ∀ A c A2 c2 w, Glyphs w A gs.length c gs → IntsAt w A2 keep.length c2 keep →
      Calls Try.prog 19 #[.agg #[.bool wd, .slice A gs.length c, .int .i64 ot], .slice A2 keep.length c2] w (CutEq wr L E w) ∧
      Calls Try.prog 20 #[.agg #[.bool wd, .slice A gs.length c, .int .i64 ot], .slice A2 keep.length c2] w (CutEq wr L E w) := by
  cases hck : chkB wd ot gs with
  | false => exact ⟨false, [], 1, by simp, fun A c A2 c2 w h h2 =>
      ⟨(cut_bad wd A gs.length c ot gs _ w h hck).mono fun e w' ⟨he, hb⟩ => ⟨none, 0, he, glyphs_nil _, hb⟩,
        (rcut_bad wd A gs.length c ot gs _ w h (by omega) hck).mono fun e w' ⟨he, hb⟩ => ⟨none, 0, he, glyphs_nil _, hb⟩⟩⟩
  | true => exact ⟨wd, cutG wd ot gs keep, 0, Nat.le_trans cut_len (by omega), fun A c A2 c2 w h h2 =>
      ⟨(cut_ok wd A gs.length c ot gs A2 keep.length c2 keep w h hck h2 (by omega) (by omega)).mono fun e w' ⟨A', n', c', he, hg, hb⟩ => by
          obtain rfl := hg.len
          exact ⟨A', c', he, hg, hb⟩,
        (rcut_ok wd A gs.length c ot gs A2 keep.length c2 keep w h hck h2 (by omega) (by omega)).mono fun e w' ⟨A', n', c', he, hg, hb⟩ => by
          obtain rfl := hg.len
          exact ⟨A', c', he, hg, hb⟩⟩⟩
/-- The font of the argument, its copy, and the codes. -/
structure CS (w W : World) (wd : Bool) (A : Option Addr) (n c : Nat) (ot : Int) (gs : List Gl) (A1 : Option Addr) (c1 : Nat) (B2 : Option Addr) (d2 : Nat) (keep : List Int) : Prop where
  f : FG W w.heap.size wd A n c ot gs
  o : FG W (w.heap.size + 1) wd A1 n c1 ot gs
  k : IntsAt W B2 keep.length d2 keep
  below : Below w.heap.size w W
theorem CS.later {w W W' : World} {wd : Bool} {A : Option Addr} {n c : Nat} {ot : Int} {gs : List Gl} {A1 : Option Addr} {c1 : Nat} {B2 : Option Addr} {d2 : Nat} {keep : List Int} (h : CS w W wd A n c ot gs A1 c1 B2 d2 keep) (hb : Below W.heap.size W W') : CS w W' wd A n c ot gs A1 c1 B2 d2 keep :=
  ⟨h.f.here hb, h.o.here hb, h.k.below hb, h.below.trans (hb.mono h.below.size)⟩
set_option maxRecDepth 100000 in
set_option maxHeartbeats 8000000 in
theorem cuts_law (wd : Bool) (A : Option Addr) (n c : Nat) (ot : Int) (gs : List Gl) (B2 : Option Addr) (n2 d2 : Nat) (keep : List Int) (w : World) (h : Glyphs w A n c gs) (hz : A = none → n = 0 ∧ c = 0) (hk2 : IntsAt w B2 n2 d2 keep) :
    Calls Try.prog 4 #[.agg #[.bool wd, .slice A n c, .int .i64 ot], .slice B2 n2 d2] w (True_ w) := by
  have hl := h.len
  subst hl
  have hl2 := hk2.len
  subst hl2
  have hcap := h.cap
  have htop := h.top
  have hcap2 := hk2.cap
  have htop2 := hk2.top
  have H := Lib.hid h
  have HK := Lib.hid hk2
  have HZ := Lib.hid hz
  clear h hk2 hz
  by_cases q0 : 150 < gs.length
  · go_enter Try.func4, Try.ntmps4
    go_wp2
    go_ret
    exact ⟨rfl, (Below.refl _ _).alloc (Nat.le_refl _) _⟩
  by_cases q1 : 100 < keep.length
  · go_enter Try.func4, Try.ntmps4
    go_wp2
    go_ret
    exact ⟨rfl, (Below.refl _ _).alloc (Nat.le_refl _) _⟩
  have p0 : decide (150 < (gs.length : Int)) = false := by simp; omega
  have p1 : decide (100 < (keep.length : Int)) = false := by simp; omega
  obtain ⟨wr, L, E, hLn, hboth⟩ := both_cut wd ot gs keep (by omega) (by omega)
  have HBO := Lib.hid hboth
  clear hboth
  have H0 := Lib.hid (And.intro ((Whole.made w 24 #[.bool wd, .slice A gs.length c, .int .i64 ot]).old (.cells #[.bool wd, .slice A gs.length c, .int .i64 ot] 24) |>.old (.cells #[] 35)) (And.intro ((Whole.made (w.alloc (.cells #[.bool wd, .slice A gs.length c, .int .i64 ot] 24)) 24 #[.bool wd, .slice A gs.length c, .int .i64 ot]).old (.cells #[] 35))
    (And.intro (Whole.made ((w.alloc (.cells #[.bool wd, .slice A gs.length c, .int .i64 ot] 24)).alloc (.cells #[.bool wd, .slice A gs.length c, .int .i64 ot] 24)) 35 #[])
      (show Below w.heap.size w (((w.alloc (.cells #[.bool wd, .slice A gs.length c, .int .i64 ot] 24)).alloc (.cells #[.bool wd, .slice A gs.length c, .int .i64 ot] 24)).alloc (.cells #[] 35)) from by (repeat (first | with_reducible exact Below.refl _ _ | with_reducible refine Below.drew ?_ | with_reducible refine bdrewN ?_ _ | (with_reducible refine Below.setCell ?_ ?_ _; rotate_left; focus (first | exact Nat.le_refl _ | omega | (simp; omega) | (simp; done))) | (with_reducible refine Below.alloc ?_ ?_ _; rotate_left; focus (first | exact Nat.le_refl _ | omega | (simp; omega) | (simp; done))) | (with_reducible refine Below.trans ?_ (Below.mono (by assumption) ?_); rotate_left; focus (first | exact Nat.le_refl _ | omega | (simp; omega) | (simp; done)))))))))
  simp only [World.size_alloc] at H0
  go_enter Try.func4, Try.ntmps4
  go_wp2_with (refine wpList_app_gl (o := ⟨some 23, _, _, _, _, _⟩) rfl (.tmp 20) (.tmp 22) rfl (w.heap.size + 1 + 1) gs.length c A gs ?z1 ?z2 ?z3 ?z4 HZ.out (by omega) ?z5)
  case z1 => rfl
  case z2 => exact H0.out.2.2.1
  case z3 => rfl
  case z4 => exact H.out.below H0.out.2.2.2
  case z5 =>
  intro A1 c1 w1 hg1 hlow1 hb1
  have e0 : Whole w1 w.heap.size 24 #[.bool wd, .slice A gs.length c, .int .i64 ot] := H0.out.1.low hb1 (by omega)
  have e1 : Whole w1 (w.heap.size + 1) 24 #[.bool wd, .slice A gs.length c, .int .i64 ot] := H0.out.2.1.low hb1 (by omega)
  have hbw : Below w.heap.size w (w1.setCell ⟨w.heap.size + 1, 1, none⟩ (.slice A1 gs.length c1)) := (H0.out.2.2.2.trans (hb1.mono (by omega))).setCell (by show w.heap.size ≤ w.heap.size + 1; omega) _
  have H1 := Lib.hid (show CS w (w1.setCell ⟨w.heap.size + 1, 1, none⟩ (.slice A1 gs.length c1)) wd A gs.length c ot gs A1 c1 B2 d2 keep from
    ⟨⟨e0.away (p := ⟨w.heap.size + 1, 1, none⟩) (by show w.heap.size ≠ w.heap.size + 1; omega) _, H.out.below hbw⟩, ⟨e1.set 1 _, hg1.moved (by simp) (fun R o e => Below.heap_setCell w1 ⟨w.heap.size + 1, 1, none⟩ _ R (by have := hlow1 R o e; show R ≠ w.heap.size + 1; omega))⟩, HK.out.below hbw, hbw⟩)
  have rd := e1.reads
  have ft := e1.thawed
  have lE := e1.lt
  clear e0 e1 hbw hg1 hlow1 hb1 H0
  go_wp2_with fail
  clear rd ft lE
  refine ((HBO.out _ _ _ _ _ H1.out.o.g H1.out.k).1).mono ?_
  rintro e w2 ⟨A2, c2, rfl, hg2, hb⟩
  have hb2 := hb.trans (((Below.refl _ _).alloc (Nat.le_refl _) (.cells #[.bool wr, .slice A2 L.length c2, .int .i64 0] 24)).mono hb.size)
  have H2 := Lib.hid (And.intro (H1.out.later hb2) (FG.made (wd := wr) (ot := 0) hg2))
  clear hb hb2 hg2 H1
  obtain ⟨f0, f1, f2⟩ := H2.out.1.f.b.cells
  have lF := H2.out.1.f.lt
  go_wp2_with fail
  refine (HBO.out _ _ _ _ _ H2.out.1.f.g H2.out.1.k).2.mono ?_
  rintro e w3 ⟨A3, c3, rfl, hg3, hb⟩
  have hb3 := hb.trans (((Below.refl _ _).alloc (Nat.le_refl _) (.cells #[.bool wr, .slice A3 L.length c3, .int .i64 0] 24)).mono hb.size)
  have H3 := Lib.hid (And.intro (H2.out.1.later hb3) (And.intro (H2.out.2.here hb3) (FG.made (wd := wr) (ot := 0) hg3)))
  clear hb hb3 hg3 H2 f0 f1 f2 lF
  go_wp2_with fail
  refine (awake_any _).mono ?_
  rintro e w4 ⟨rfl, hb⟩
  have H4 := Lib.hid (And.intro (H3.out.1.later hb) (And.intro (H3.out.2.1.here hb) (H3.out.2.2.here hb)))
  clear hb H3
  obtain ⟨a0, a1, a2⟩ := H4.out.2.1.b.cells
  obtain ⟨b0, b1, b2⟩ := H4.out.2.2.b.cells
  have lA := H4.out.2.1.lt
  have lB := H4.out.2.2.lt
  go_wp2_with fail
  refine (same19 wr A2 L.length c2 A3 c3 0 L _ H4.out.2.1.g H4.out.2.2.g (by omega)).mono ?_
  rintro e w5 ⟨rfl, hb⟩
  have H5 := Lib.hid (H4.out.1.later hb)
  clear hb a0 a1 a2 b0 b1 b2 lA lB H4
  obtain ⟨f0, f1, f2⟩ := H5.out.f.b.cells
  obtain ⟨o0, o1, o2⟩ := H5.out.o.b.cells
  have lF := H5.out.f.lt
  have lO := H5.out.o.lt
  go_wp2_with fail
  refine (same19 wd A1 gs.length c1 A c ot gs _ H5.out.o.g H5.out.f.g (by omega)).mono ?_
  rintro e w6 ⟨rfl, hb⟩
  have H6 := Lib.hid (H5.out.below.trans (hb.mono H5.out.below.size))
  clear hb
  go_wp2_with fail
  go_ret
  exact ⟨rfl, H6.out⟩
end Go.Proofs.Ytldhkhaciflmoaa
