/- ascii's examples: walked. -/
import Derived.Test.YtbbckpdpahkfkaaAscM
import Derived.Test.YtbbckpdpahkfkaaAscN
namespace Go.Proofs.Ytbbckpdpahkfkaa
open Go.RowKit

theorem ex_unhex (w : World) (hM : MX w) : Calls Try.prog 14 #[.string ⟨#[52, 32, 49, 70, 62]⟩, .int .i64 9] w fun e w' => ∃ A c, e = .returned (.tuple #[.slice A 2 c, .int .i64 0]) ∧ Bytes w' A 2 c [65, 240] ∧ Below w.heap.size w w' := by
  refine (unhex_any [52, 32, 49, 70, 62] 9 w (by decide) (by decide) hM).mono ?_
  rintro e w' ⟨A, c, he, hy, hb⟩
  have hr : unhexR [52, 32, 49, 70, 62] 9 = (0, [65, 240]) := by decide
  rw [hr] at he hy
  exact ⟨A, c, he, hy, hb⟩
theorem ex_get (w : World) (hM : MX w) : Calls Try.prog 16 #[.string ⟨#[122, 64, 47, 126, 62]⟩, .int .i64 9] w fun e w' => ∃ A c, e = .returned (.tuple #[.slice A 5 c, .int .i64 0]) ∧ Bytes w' A 5 c [0, 0, 0, 0, 97] ∧ Below w.heap.size w w' := by
  refine (get_any [122, 64, 47, 126, 62] 9 w (by decide) (by decide) hM).mono ?_
  rintro e w' ⟨A, c, he, hy, hb⟩
  have hr : getR [122, 64, 47, 126, 62] 9 = (0, [0, 0, 0, 0, 97]) := by decide
  rw [hr] at he hy
  exact ⟨A, c, he, hy, hb⟩
theorem ex_hex (w : World) (A : Option Addr) (c : Nat) (h : Bytes w A 2 c [171, 12]) : Calls Try.prog 10 #[.slice A 2 c] w fun e w' => e = .returned (.string ⟨#[65, 66, 48, 67, 62]⟩) ∧ Below w.heap.size w w' := by
  refine (hex_any A 2 c [171, 12] w h (by omega)).mono ?_
  rintro e w' ⟨he, hb⟩
  have hr : strB (hexS [171, 12] ++ [62]) = ⟨#[65, 66, 48, 67, 62]⟩ := by decide
  rw [hr] at he
  exact ⟨he, hb⟩
theorem ex_put (w : World) (A : Option Addr) (c : Nat) (h : Bytes w A 5 c [0, 0, 0, 0, 97]) : Calls Try.prog 12 #[.slice A 5 c] w fun e w' => e = .returned (.string ⟨#[122, 64, 47, 126, 62]⟩) ∧ Below w.heap.size w w' := by
  refine (put_any A 5 c [0, 0, 0, 0, 97] w h (by omega)).mono ?_
  rintro e w' ⟨he, hb⟩
  have hr : strB (putS [0, 0, 0, 0, 97] ++ [126, 62]) = ⟨#[122, 64, 47, 126, 62]⟩ := by decide
  rw [hr] at he
  exact ⟨he, hb⟩
set_option maxRecDepth 100000 in
set_option maxHeartbeats 2000000 in
theorem awake_any (w : World) (hM : MX w) : Calls Try.prog 9 #[] w (True_ w) := by
  have h0 := hM.1
  go_enter Try.func9, Try.ntmps9
  go_wp2_with fail
  refine (ex_unhex w hM).mono ?_
  rintro e w1 ⟨A1, c1, rfl, hy1, hb1⟩
  have H1 := Lib.hid (And.intro hy1 hb1)
  have HM1 := Lib.hid (hM.below hb1 h0)
  clear hy1 hb1 hM
  go_wp2_with fail
  refine (ex_get w1 HM1.out).mono ?_
  rintro e w2 ⟨A2, c2, rfl, hy2, hb2⟩
  have H2 := Lib.hid (And.intro hy2 (And.intro (H1.out.1.below hb2) (H1.out.2.trans (hb2.mono H1.out.2.size))))
  clear hy2 hb2
  go_wp2_with fail
  have hl := bytes_lit w2 [171, 12] (by decide) (by decide)
  refine (ex_hex _ _ _ hl).mono ?_
  rintro e w3 ⟨rfl, hb3⟩
  have hb3' : Below w2.heap.size w2 w3 := ((Below.refl _ _).alloc (Nat.le_refl _) _).trans (hb3.mono (by simp))
  have H3 := Lib.hid (And.intro (H2.out.1.below hb3') (And.intro (H2.out.2.1.below hb3') (H2.out.2.2.trans (hb3'.mono H2.out.2.2.size))))
  have hs1 := H3.out.2.1.str
  rw [show strB [65, 240] = ⟨#[65, 240]⟩ from by decide] at hs1
  clear hb3 hb3' hl
  go_wp2_with fail
  have hl := bytes_lit w3 [0, 0, 0, 0, 97] (by decide) (by decide)
  refine (ex_put _ _ _ hl).mono ?_
  rintro e w4 ⟨rfl, hb4⟩
  have hb4' : Below w3.heap.size w3 w4 := ((Below.refl _ _).alloc (Nat.le_refl _) _).trans (hb4.mono (by simp))
  have H4 := Lib.hid (And.intro (H3.out.1.below hb4') (H3.out.2.2.trans (hb4'.mono H3.out.2.2.size)))
  have hs2 := H4.out.1.str
  rw [show strB [0, 0, 0, 0, 97] = ⟨#[0, 0, 0, 0, 97]⟩ from by decide] at hs2
  clear hb4 hb4' hl hs1
  go_wp2_with fail
  go_ret
  exact ⟨rfl, H4.out.2⟩
end Go.Proofs.Ytbbckpdpahkfkaa
