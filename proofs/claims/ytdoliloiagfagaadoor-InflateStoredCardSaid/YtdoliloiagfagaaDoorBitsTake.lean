/- The walks of a reader's take and Bits. (The fuel of 'method' is as the walk shows it at this translation.) -/
import Derived.Test.YtdoliloiagfagaaDoorBitsPull
import Derived.Deep.RegionWith
namespace Go.Proofs.YtdoliloiagfagaaDoor
open Go.RowKit

/-- A reader as the calls reach it. -/
abbrev srcV (B : Nat) : Value := .iface 53 (.pointer (some ⟨B, 0, none⟩))
theorem RD.left {w : World} {B R N L : Nat} (h : RD w B R N L) : Calls Tryd.prog 27 #[.pointer (some ⟨B, 0, none⟩)] w fun e w' => e = .returned (.int .i64 L) ∧ ∃ k, w' = w.drewN k := by
  obtain ⟨A, n, c, word, held, bs, h, hh, rfl, rfl⟩ := h
  obtain ⟨c0, c1, c2, -⟩ := h.cells
  have := h.cap
  have := h.top
  refine (rleft_any B A n c word held w ⟨c0, c1, c2⟩ (by omega) (by omega) (by omega)).mono ?_
  rintro e w' ⟨rfl, k, rfl⟩
  exact ⟨by rw [show ((held + 8 * n : Nat) : Int) = n * 8 + held by omega], k, rfl⟩
theorem meth_left (p : Addr) (w : World) : (method 262 53 (.pointer (some p)) "Left").run Tryd.prog w = .ok (27, .pointer (some p)) w := by kernel_rfl
theorem meth_pull (p : Addr) (w : World) : (method 262 53 (.pointer (some p)) "erasure/bits.pull").run Tryd.prog w = .ok (94, .pointer (some p)) w := by kernel_rfl
theorem RS.drewN' {w : World} {B R N L : Nat} (h : RD w B R N L) (j : Nat) : RD (w.drewN j) B R N L := by
  obtain ⟨A, n, c, word, held, bs, h, r⟩ := h
  exact ⟨A, n, c, word, held, bs, h.drewN j, r⟩
theorem RD.drew {w : World} {B R N L : Nat} (h : RD w B R N L) : RD w.drew B R N L := RS.drewN' h 1
theorem from_drewN {w w1 : World} {j : Nat} {row : Option Nat} (h : (w.drewN j).grownBy w1 row) : w.grownBy w1 row := ⟨h.os, h.tape, h.output, h.size, h.block⟩
set_option maxRecDepth 100000 in
theorem take_any (B R N L k : Nat) (w : World) (h : RD w B R N L) (hk : k ≤ 24) (hL : k ≤ L) :
    Calls Tryd.prog 73 #[srcV B, .int .i64 k] w (Took B R N L w (.tuple #[.int .i64 (N % 2 ^ k : Nat), .int .i64 0]) k) := by
  have H := Lib.hid h
  have hm := meth_left ⟨B, 0, none⟩
  have hp := meth_pull ⟨B, 0, none⟩
  clear h
  go_enter Tryd.func73, Tryd.ntmps73
  go_wp2_with fail
  refine (RD.left H.out).mono ?_
  rintro e w1 ⟨rfl, j, rfl⟩
  go_wp2_with fail
  refine (pull_any B R N L k _ (RS.drewN' H.out j) hk hL).mono ?_
  rintro e w1 ⟨rfl, hr, hg⟩
  have HR := Lib.hid (And.intro hr hg)
  clear hr hg
  go_wp2
  go_ret2
  exact ⟨rfl, HR.out.1, from_drewN HR.out.2⟩
set_option maxRecDepth 100000 in
theorem take_more (B R N L k : Nat) (w : World) (h : RD w B R N L) (hL : L < k) :
    Calls Tryd.prog 73 #[srcV B, .int .i64 k] w fun e w' => e = .returned (.tuple #[.int .i64 0, .int .i64 6]) ∧ ∃ j, w' = w.drewN j := by
  have H := Lib.hid h
  have hm := meth_left ⟨B, 0, none⟩
  clear h
  go_enter Tryd.func73, Tryd.ntmps73
  go_wp2_with fail
  refine (RD.left H.out).mono ?_
  rintro e w1 ⟨rfl, j, rfl⟩
  go_wp2
  go_ret2
  exact ⟨rfl, j, rfl⟩
theorem rbits_any (B R N L k : Nat) (w : World) (h : RD w B R N L) (hk : k ≤ 24) (hL : k ≤ L) :
    Calls Tryd.prog 55 #[.pointer (some ⟨B, 0, none⟩), .int .i64 k] w (Took B R N L w (.tuple #[.int .i64 (N % 2 ^ k : Nat), .int .i64 0]) k) := by
  have H := Lib.hid h
  clear h
  go_enter Tryd.func55, Tryd.ntmps55
  go_wp2_with fail
  refine (take_any B R N L k _ H.out hk hL).mono ?_
  rintro e w1 ⟨rfl, hr, hg⟩
  have HR := Lib.hid (And.intro hr hg)
  clear hr hg
  go_wp2
  go_ret2
  exact ⟨rfl, HR.out.1, HR.out.2⟩
theorem rbits_more (B R N L k : Nat) (w : World) (h : RD w B R N L) (hk : k ≤ 24) (hL : L < k) :
    Calls Tryd.prog 55 #[.pointer (some ⟨B, 0, none⟩), .int .i64 k] w fun e w' => e = .returned (.tuple #[.int .i64 0, .int .i64 6]) ∧ ∃ j, w' = w.drewN j := by
  have H := Lib.hid h
  clear h
  go_enter Tryd.func55, Tryd.ntmps55
  go_wp2_with fail
  refine (take_more B R N L k _ H.out hL).mono ?_
  rintro e w1 ⟨rfl, j, rfl⟩
  go_wp2
  go_ret2
  exact ⟨rfl, j, rfl⟩
theorem rbits_bad (B : Nat) (k : Int) (w : World) (hk : k < 0 ∨ 24 < k) :
    Calls Tryd.prog 55 #[.pointer (some ⟨B, 0, none⟩), .int .i64 k] w fun e w' => e = .returned (.tuple #[.int .i64 0, .int .i64 1]) ∧ w = w' := by
  rcases hk with h | h
  · go_enter Tryd.func55, Tryd.ntmps55
    go_wp2
    go_ret2
    exact ⟨rfl, rfl⟩
  · have h0 : ¬ k < 0 := by omega
    go_enter Tryd.func55, Tryd.ntmps55
    go_wp2
    go_ret2
    exact ⟨rfl, rfl⟩
end Go.Proofs.YtdoliloiagfagaaDoor
