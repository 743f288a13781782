/- The walk of BoxHolds, where it looks no further. -/
import Derived.Test.YtgdfdlicfjjfjaaBoxAwake
import Derived.Test.YtgdfdlicfjjfjaaBoxBoth
import Derived.Test.YtgdfdlicfjjfjaaBoxMapD
import Derived.Test.YtgdfdlicfjjfjaaBoxOfX
namespace Go.Proofs.Ytgdfdlicfjjfjaa
open Go.RowKit Dec

/-- What a round knows of memory. -/
def HoldSt (w0 wx : World) (M P5 P7 : Nat) (m : MV) (b c : BV) : Prop := MIn wx M m ∧ BIn wx P5 b ∧ BIn wx P7 c ∧ Below w0.heap.size w0 wx
theorem HoldSt.mk {w0 wx : World} {M P5 P7 : Nat} {m : MV} {b c : BV} (h1 : MIn wx M m) (h2 : BIn wx P5 b) (h3 : BIn wx P7 c) (h4 : Below w0.heap.size w0 wx) : HoldSt w0 wx M P5 P7 m b c := ⟨h1, h2, h3, h4⟩
set_option maxRecDepth 100000 in
set_option maxHeartbeats 16000000 in
theorem holds_none (m : MV) (p : Option Addr) (c : Nat) (w : World) :
    Calls Try.prog 4 #[m.val, .slice p 0 c] w fun e w' => e = .returned (.bool true) ∧ Below w.heap.size w w' := by
  go_enter Try.func4, Try.ntmps4
  have hM := MIn.made w 35 m
  have HB : Hid (Below w.heap.size w (w.alloc (.cells #[.int .i64 m.a.m, .int .i64 m.a.s, .int .i64 m.b.m, .int .i64 m.b.s, .int .i64 m.c.m, .int .i64 m.c.s, .int .i64 m.d.m, .int .i64 m.d.s, .int .i64 m.e.m, .int .i64 m.e.s, .int .i64 m.f.m, .int .i64 m.f.s] 35))) := (Below.refl _ _).alloc (Nat.le_refl _) _
  go_wp2_with fail
  refine (of_none p c _).mono ?_
  rintro e w1 ⟨rfl, b1⟩
  have HB := Lib.hid (HB.out.trans (b1.mono HB.out.size))
  clear b1 hM
  have HB := Lib.hid (HB.out.alloc HB.out.size (.cells #[.int .i64 0, .int .i64 0, .int .i64 0, .int .i64 0, .int .i64 0, .int .i64 0, .int .i64 0, .int .i64 0] 25))
  go_wp2_with fail
  refine (bawake_any _).mono ?_
  rintro e w2 ⟨rfl, b2⟩
  have HB := Lib.hid (HB.out.trans (b2.mono HB.out.size))
  clear b2
  go_wp2
  go_ret
  refine ⟨by first | rfl | (simp; done) | (simp; omega), ?_⟩
  (repeat (first | with_reducible refine Below.drew ?_ | with_reducible refine bdrewN ?_ _ | (with_reducible refine Below.setCell ?_ ?_ _; rotate_left; focus (first | exact Nat.le_refl _ | omega | (simp; omega) | (simp; done))) | (with_reducible refine Below.alloc ?_ ?_ _; rotate_left; focus (first | exact Nat.le_refl _ | omega | (simp; omega) | (simp; done))))); with_reducible exact HB.out
set_option maxRecDepth 100000 in
set_option maxHeartbeats 16000000 in
theorem holds_many (m : MV) (F : Nat → PV) (n c R o : Nat) (w : World) (b : BV) (E : Int) (hn : 50 < n) (hm : n ≤ 9223372036854775807) (hF : Hid (∀ i < n, PAt w R (o + i * 4) (F i))) (h : Hid (OfIs F n b E)) :
    Calls Try.prog 4 #[m.val, .slice (some ⟨R, o, none⟩) n c] w fun e w' => e = .returned (.bool true) ∧ Below w.heap.size w w' := by
  go_enter Try.func4, Try.ntmps4
  have hM := MIn.made w 35 m
  have HB : Hid (Below w.heap.size w (w.alloc (.cells #[.int .i64 m.a.m, .int .i64 m.a.s, .int .i64 m.b.m, .int .i64 m.b.s, .int .i64 m.c.m, .int .i64 m.c.s, .int .i64 m.d.m, .int .i64 m.d.s, .int .i64 m.e.m, .int .i64 m.e.s, .int .i64 m.f.m, .int .i64 m.f.s] 35))) := (Below.refl _ _).alloc (Nat.le_refl _) _
  go_wp2_with fail
  refine (ofx_any F n c R o _ b E (by omega) hm (Lib.hid fun i hi => (hF.out i hi).later ((Below.refl _ _).alloc (Nat.le_refl _) _)) h).mono ?_
  rintro e w1 ⟨rfl, b1⟩
  have HB := Lib.hid (HB.out.trans (b1.mono HB.out.size))
  clear b1 hM
  have HB := Lib.hid (HB.out.alloc HB.out.size (.cells #[.int .i64 b.x0.m, .int .i64 b.x0.s, .int .i64 b.y0.m, .int .i64 b.y0.s, .int .i64 b.x1.m, .int .i64 b.x1.s, .int .i64 b.y1.m, .int .i64 b.y1.s] 25))
  go_wp2_with fail
  refine (bawake_any _).mono ?_
  rintro e w2 ⟨rfl, b2⟩
  have HB := Lib.hid (HB.out.trans (b2.mono HB.out.size))
  clear b2
  go_wp2
  go_ret
  refine ⟨by first | rfl | (simp; done) | (simp; omega), ?_⟩
  (repeat (first | with_reducible refine Below.drew ?_ | with_reducible refine bdrewN ?_ _ | (with_reducible refine Below.setCell ?_ ?_ _; rotate_left; focus (first | exact Nat.le_refl _ | omega | (simp; omega) | (simp; done))) | (with_reducible refine Below.alloc ?_ ?_ _; rotate_left; focus (first | exact Nat.le_refl _ | omega | (simp; omega) | (simp; done))))); with_reducible exact HB.out
set_option maxRecDepth 100000 in
set_option maxHeartbeats 16000000 in
theorem holds_bad (m : MV) (F : Nat → PV) (n c R o : Nat) (w : World) (h0 : 0 < n) (hn : n ≤ 50) (hF : Hid (∀ i < n, PAt w R (o + i * 4) (F i))) (h : Hid (OfIs F n .zero 1)) :
    Calls Try.prog 4 #[m.val, .slice (some ⟨R, o, none⟩) n c] w fun e w' => e = .returned (.bool true) ∧ Below w.heap.size w w' := by
  have hn' : ¬ 50 < n := by omega
  go_enter Try.func4, Try.ntmps4
  have hM := MIn.made w 35 m
  have HB : Hid (Below w.heap.size w (w.alloc (.cells #[.int .i64 m.a.m, .int .i64 m.a.s, .int .i64 m.b.m, .int .i64 m.b.s, .int .i64 m.c.m, .int .i64 m.c.s, .int .i64 m.d.m, .int .i64 m.d.s, .int .i64 m.e.m, .int .i64 m.e.s, .int .i64 m.f.m, .int .i64 m.f.s] 35))) := (Below.refl _ _).alloc (Nat.le_refl _) _
  go_wp2_with fail
  refine (of_any F n c R o _ .zero 1 h0 (by omega) (Lib.hid fun i hi => (hF.out i hi).later ((Below.refl _ _).alloc (Nat.le_refl _) _)) h).mono ?_
  rintro e w1 ⟨rfl, b1⟩
  have HB := Lib.hid (HB.out.trans (b1.mono HB.out.size))
  clear b1 hM
  have HB := Lib.hid (HB.out.alloc HB.out.size (.cells #[.int .i64 BV.zero.x0.m, .int .i64 BV.zero.x0.s, .int .i64 BV.zero.y0.m, .int .i64 BV.zero.y0.s, .int .i64 BV.zero.x1.m, .int .i64 BV.zero.x1.s, .int .i64 BV.zero.y1.m, .int .i64 BV.zero.y1.s] 25))
  go_wp2_with fail
  refine (bawake_any _).mono ?_
  rintro e w2 ⟨rfl, b2⟩
  have HB := Lib.hid (HB.out.trans (b2.mono HB.out.size))
  clear b2
  go_wp2
  go_ret
  refine ⟨by first | rfl | (simp; done) | (simp; omega), ?_⟩
  (repeat (first | with_reducible refine Below.drew ?_ | with_reducible refine bdrewN ?_ _ | (with_reducible refine Below.setCell ?_ ?_ _; rotate_left; focus (first | exact Nat.le_refl _ | omega | (simp; omega) | (simp; done))) | (with_reducible refine Below.alloc ?_ ?_ _; rotate_left; focus (first | exact Nat.le_refl _ | omega | (simp; omega) | (simp; done))))); with_reducible exact HB.out
end Go.Proofs.Ytgdfdlicfjjfjaa
