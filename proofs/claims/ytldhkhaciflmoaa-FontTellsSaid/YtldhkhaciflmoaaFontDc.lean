/- font's reference: Codes of an odd text. -/
import Derived.Test.YtldhkhaciflmoaaFontDb
namespace Go.Proofs.Ytldhkhaciflmoaa
open Go.RowKit

set_option maxRecDepth 100000 in
set_option maxHeartbeats 4000000 in
theorem rcodes_odd (A : Option Addr) (n c : Nat) (ot : Int) (gs : List Gl) (s : ByteArray) (w : World) (h : Glyphs w A n c gs) (hn : n ≤ 1000000) (hk : chkB true ot gs = true) (hs : s.size ≤ 140737488355327) (ho : s.size % 2 = 1) :
    Calls Try.prog 8 #[.agg #[.bool true, .slice A n c, .int .i64 ot], .string s] w fun e w' => e = .returned (.tuple #[.slice none 0 0, .int .i64 4]) ∧ Below w.heap.size w w' := by
  have hb0 := ((Below.refl w.heap.size w).alloc (Nat.le_refl _) (.cells #[.bool true, .slice A n c, .int .i64 ot] 24))
  have H := Lib.hid (And.intro (h.below hb0) (And.intro hb0 (And.intro hk (FB.made w true A n c ot))))
  clear h hb0 hk
  have hm : ((s.size : Int) % 2 == 0) = false := by simp; omega
  have hm2 : ((s.size : Int) % 2 != 0) = true := by simp; omega
  go_enter Try.func8, Try.ntmps8
  go_wp2_with fail
  refine (rright_any true A n c ot gs _ H.out.1 hn).mono ?_
  rw [H.out.2.2.1]
  rintro e w1 ⟨rfl, hb⟩
  have hf1 := FB.here H.out.2.2.2 hb
  obtain ⟨f0, f1, f2⟩ := hf1.cells
  have lF := Whole.lt hf1
  have H1 := Lib.hid (H.out.2.1.trans (hb.mono H.out.2.1.size))
  clear hb hf1
  go_wp2_with fail
  refine bodyPost_ret (v := .tuple #[.slice none 0 0, .int .i64 4]) (by simp [results, Try.results8, go_sem]) rfl ⟨rfl, H1.out⟩
end Go.Proofs.Ytldhkhaciflmoaa
