/- InflateExpands, walked. -/
import Derived.Test.YtdoliloiagfagaaDoorInfY
import Derived.Test.YtdoliloiagfagaaDoorInfEy
namespace Go.Proofs.YtdoliloiagfagaaDoor
open Go.RowKit

/-- What Expand answers, in one. -/
def ExG (l : List Tk) (most : Int) (w : World) (e : Ending) (w' : World) : Prop :=
  ∃ (A : Option Addr) (c : Nat) (x : List Nat) (E : Int), e = .returned (.tuple #[.slice A x.length c, .int .i64 E]) ∧ Bytes w' A x.length c x ∧ Below w.heap.size w w' ∧ ((E = 0 ∧ expandP l most = .ok x) ∨ (E ≠ 0 ∧ x = [] ∧ expandP l most = .error E))
theorem ExpIs.gen {l : List Tk} {most : Int} {w : World} {e : Ending} {w' : World} (h : ExpIs l most w e w') : ExG l most w e w' := by
  rcases h with ⟨bs, A1, c1, hp, rfl, hby, -, hb⟩ | ⟨E, hp, hE, rfl, hb⟩
  · exact ⟨A1, c1, bs, 0, rfl, hby, hb, .inl ⟨rfl, hp⟩⟩
  · exact ⟨none, 0, [], E, rfl, ⟨rfl, Nat.le_refl _, by omega, by simp, fun h => absurd h (by simp)⟩, hb, .inr ⟨hE, rfl, hp⟩⟩
theorem str_same3 (s : ByteArray) : (s.toList == s.toList) = true := by simp
set_option maxRecDepth 100000 in
set_option maxHeartbeats 2000000 in
theorem expands_law (A : Option Addr) (n c : Nat) (l : List Tk) (most : Int) (w : World) (h : TksAt w A n c l) (hE : Env w) :
    Calls Tryd.prog 3 #[.slice A n c, .int .i64 most] w (True_ w) := by
  have H0 := Lib.hid h
  have HE := Lib.hid hE
  clear h hE
  go_enter Tryd.func3, Tryd.ntmps3
  by_cases g1 : 100 < n
  · have d1 : decide ((n : Int) > 100) = true := decide_eq_true (by omega)
    go_wp2_with fail
    go_ret
    exact ⟨rfl, Below.refl _ _⟩
  have d1 : decide ((n : Int) > 100) = false := decide_eq_false (by omega)
  have HEX := Lib.hid (expand_any A n c l most w H0.out (by omega))
  have key : ∀ (w1 : World), Below w.heap.size w w1 → Calls Tryd.prog 10 #[.slice A n c, .int .i64 most] w1 (ExpIs l most w1) := fun w1 hb => rexpand_any A n c l most w1 (H0.out.later hb) (by omega)
  have HKEY := Lib.hid key
  clear key
  by_cases g2 : 30000 < most
  · have d2 : decide (most > 30000) = true := decide_eq_true g2
    by_cases g3 : most ≤ 1048576
    · have d3 : decide (most ≤ 1048576) = true := decide_eq_true g3
      go_wp2_with fail
      go_ret
      exact ⟨rfl, Below.refl _ _⟩
    · have d3 : decide (most ≤ 1048576) = false := decide_eq_false g3
      go_wp2_with fail
      refine HEX.out.mono ?_
      intro e w1 he
      obtain ⟨X1, k1, x1, E1, rfl, hby1, hb, hv1⟩ := he.gen
      have HV1 := Lib.hid hv1
      have HX1 := Lib.hid (And.intro hby1 hb)
      clear hv1 hby1 hb he HEX
      go_wp2_with fail
      refine (HKEY.out w1 HX1.out.2).mono ?_
      intro e w2 he
      obtain ⟨X2, k2, x2, E2, rfl, hby2, hb, hv2⟩ := he.gen
      obtain ⟨rfl, rfl⟩ : E2 = E1 ∧ x2 = x1 := by
        rcases HV1.out with ⟨e1, e2⟩ | ⟨e1, e2, e3⟩
        · rcases hv2 with ⟨f1, f2⟩ | ⟨f1, f2, f3⟩
          · rw [e2] at f2
            injection f2 with f2
            exact ⟨f1.trans e1.symm, f2.symm⟩
          · rw [e2] at f3; cases f3
        · rcases hv2 with ⟨f1, f2⟩ | ⟨f1, f2, f3⟩
          · rw [e3] at f2; cases f2
          · rw [e3] at f3
            injection f3 with f3
            exact ⟨f3.symm, f2.trans e2.symm⟩
      have HX2 := Lib.hid (And.intro (HX1.out.1.below hb) (And.intro hby2 (HX1.out.2.trans (hb.mono HX1.out.2.size))))
      clear hv2 hby2 hb he HKEY
      go_wp2_with fail
      refine (awake06 _ (HE.out.here HX2.out.2.2)).mono ?_
      rintro e w3 ⟨rfl, hb⟩
      have HB3 := Lib.hid (HX2.out.2.2.trans (hb.mono HX2.out.2.2.size))
      have hs1 := (HX2.out.1.below hb).str
      have hs2 := (HX2.out.2.1.below hb).str
      have e1 := str_same3 (strB x2)
      have e2 : (E2 == E2) = true := by simp
      clear hb
      go_wp2_with fail
      go_ret
      exact ⟨rfl, HB3.out⟩
  · have d2 : decide (most > 30000) = false := decide_eq_false g2
    go_wp2_with fail
    refine HEX.out.mono ?_
    intro e w1 he
    obtain ⟨X1, k1, x1, E1, rfl, hby1, hb, hv1⟩ := he.gen
    have HV1 := Lib.hid hv1
    have HX1 := Lib.hid (And.intro hby1 hb)
    clear hv1 hby1 hb he HEX
    go_wp2_with fail
    refine (HKEY.out w1 HX1.out.2).mono ?_
    intro e w2 he
    obtain ⟨X2, k2, x2, E2, rfl, hby2, hb, hv2⟩ := he.gen
    obtain ⟨rfl, rfl⟩ : E2 = E1 ∧ x2 = x1 := by
      rcases HV1.out with ⟨e1, e2⟩ | ⟨e1, e2, e3⟩
      · rcases hv2 with ⟨f1, f2⟩ | ⟨f1, f2, f3⟩
        · rw [e2] at f2
          injection f2 with f2
          exact ⟨f1.trans e1.symm, f2.symm⟩
        · rw [e2] at f3; cases f3
      · rcases hv2 with ⟨f1, f2⟩ | ⟨f1, f2, f3⟩
        · rw [e3] at f2; cases f2
        · rw [e3] at f3
          injection f3 with f3
          exact ⟨f3.symm, f2.trans e2.symm⟩
    have HX2 := Lib.hid (And.intro (HX1.out.1.below hb) (And.intro hby2 (HX1.out.2.trans (hb.mono HX1.out.2.size))))
    clear hv2 hby2 hb he HKEY
    go_wp2_with fail
    refine (awake06 _ (HE.out.here HX2.out.2.2)).mono ?_
    rintro e w3 ⟨rfl, hb⟩
    have HB3 := Lib.hid (HX2.out.2.2.trans (hb.mono HX2.out.2.2.size))
    have hs1 := (HX2.out.1.below hb).str
    have hs2 := (HX2.out.2.1.below hb).str
    have e1 := str_same3 (strB x2)
    have e2 : (E2 == E2) = true := by simp
    clear hb
    go_wp2_with fail
    go_ret
    exact ⟨rfl, HB3.out⟩
end Go.Proofs.YtdoliloiagfagaaDoor
