/- font's reference: Codes, Bytes, Means where they refuse. -/
import Derived.Test.YtldhkhaciflmoaaFontDa
namespace Go.Proofs.Ytldhkhaciflmoaa
open Go.RowKit

set_option maxRecDepth 100000 in
set_option maxHeartbeats 4000000 in
theorem rcodes_bad (wd : Bool) (A : Option Addr) (n c : Nat) (ot : Int) (gs : List Gl) (s : ByteArray) (w : World) (h : Glyphs w A n c gs) (hn : n ≤ 1000000) (hk : chkB wd ot gs = false) :
    Calls Try.prog 8 #[.agg #[.bool wd, .slice A n c, .int .i64 ot], .string s] w fun e w' => e = .returned (.tuple #[.slice none 0 0, .int .i64 1]) ∧ Below w.heap.size w w' := by
  have hb0 := ((Below.refl w.heap.size w).alloc (Nat.le_refl _) (.cells #[.bool wd, .slice A n c, .int .i64 ot] 24))
  have H := Lib.hid (And.intro (h.below hb0) (And.intro hb0 hk))
  clear h hb0 hk
  go_enter Try.func8, Try.ntmps8
  go_wp2_with fail
  refine (rright_any wd A n c ot gs _ H.out.1 hn).mono ?_
  rw [H.out.2.2]
  rintro e w1 ⟨rfl, hb⟩
  have H1 := Lib.hid (H.out.2.1.trans (hb.mono H.out.2.1.size))
  clear hb
  go_wp2_with fail
  refine bodyPost_ret (v := .tuple #[.slice none 0 0, .int .i64 1]) (by simp [results, Try.results8, go_sem]) rfl ⟨rfl, H1.out⟩
set_option maxRecDepth 100000 in
set_option maxHeartbeats 4000000 in
theorem rbytes_bad (wd : Bool) (A : Option Addr) (n c : Nat) (ot : Int) (gs : List Gl) (A2 : Option Addr) (n2 c2 : Nat) (l : List Int) (w : World) (h : Glyphs w A n c gs) (h2 : IntsAt w A2 n2 c2 l) (hn : n ≤ 1000000) (hn2 : n2 ≤ 1000000) (hk : (chkB wd ot gs && l.all (codeB wd)) = false) :
    Calls Try.prog 10 #[.agg #[.bool wd, .slice A n c, .int .i64 ot], .slice A2 n2 c2] w fun e w' => e = .returned (.tuple #[.string ⟨#[]⟩, .int .i64 1]) ∧ Below w.heap.size w w' := by
  have hb0 := ((Below.refl w.heap.size w).alloc (Nat.le_refl _) (.cells #[.bool wd, .slice A n c, .int .i64 ot] 24))
  have H := Lib.hid (And.intro (h.below hb0) (And.intro hb0 (And.intro hk (h2.below hb0))))
  clear h h2 hb0 hk
  go_enter Try.func10, Try.ntmps10
  go_wp2_with fail
  refine (rall_any wd A n c ot gs A2 n2 c2 l _ H.out.1 H.out.2.2.2 hn hn2).mono ?_
  rw [H.out.2.2.1]
  rintro e w1 ⟨rfl, hb⟩
  have H1 := Lib.hid (H.out.2.1.trans (hb.mono H.out.2.1.size))
  clear hb
  go_wp2_with fail
  refine bodyPost_ret (v := .tuple #[.string ⟨#[]⟩, .int .i64 1]) (by simp [results, Try.results10, go_sem]) rfl ⟨rfl, H1.out⟩
set_option maxRecDepth 100000 in
set_option maxHeartbeats 4000000 in
theorem rmeans19_bad (wd : Bool) (A : Option Addr) (n c : Nat) (ot : Int) (gs : List Gl) (A2 : Option Addr) (n2 c2 : Nat) (l : List Int) (w : World) (h : Glyphs w A n c gs) (h2 : IntsAt w A2 n2 c2 l) (hn : n ≤ 1000000) (hn2 : n2 ≤ 1000000) (hk : (chkB wd ot gs && l.all (codeB wd)) = false) :
    Calls Try.prog 12 #[.agg #[.bool wd, .slice A n c, .int .i64 ot], .slice A2 n2 c2] w fun e w' => e = .returned (.tuple #[.string ⟨#[]⟩, .int .i64 1]) ∧ Below w.heap.size w w' := by
  have hb0 := ((Below.refl w.heap.size w).alloc (Nat.le_refl _) (.cells #[.bool wd, .slice A n c, .int .i64 ot] 24))
  have H := Lib.hid (And.intro (h.below hb0) (And.intro hb0 (And.intro hk (h2.below hb0))))
  clear h h2 hb0 hk
  go_enter Try.func12, Try.ntmps12
  go_wp2_with fail
  refine (rall_any wd A n c ot gs A2 n2 c2 l _ H.out.1 H.out.2.2.2 hn hn2).mono ?_
  rw [H.out.2.2.1]
  rintro e w1 ⟨rfl, hb⟩
  have H1 := Lib.hid (H.out.2.1.trans (hb.mono H.out.2.1.size))
  clear hb
  go_wp2_with fail
  refine bodyPost_ret (v := .tuple #[.string ⟨#[]⟩, .int .i64 1]) (by simp [results, Try.results12, go_sem]) rfl ⟨rfl, H1.out⟩
end Go.Proofs.Ytldhkhaciflmoaa
