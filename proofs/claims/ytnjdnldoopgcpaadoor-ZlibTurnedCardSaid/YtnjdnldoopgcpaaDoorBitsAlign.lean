/- The walks of a reader's take and Bits. (The fuel of 'method' is as the walk shows it at this translation.) -/
import Derived.Test.YtnjdnldoopgcpaaDoorBitsPull
import Derived.Deep.RegionWith
namespace Go.Proofs.YtnjdnldoopgcpaaDoor
open Go.RowKit

/-- A reader as the calls reach it. -/
abbrev srcV (B : Nat) : Value := .iface 60 (.pointer (some ⟨B, 0, none⟩))
theorem RD.left {w : World} {B R N L : Nat} (h : RD w B R N L) : Calls Tryd.prog 31 #[.pointer (some ⟨B, 0, none⟩)] w fun e w' => e = .returned (.int .i64 L) ∧ ∃ k, w' = w.drewN k := by
  obtain ⟨A, n, c, word, held, bs, h, hh, rfl, rfl⟩ := h
  obtain ⟨c0, c1, c2, -⟩ := h.cells
  have := h.cap
  have := h.top
  refine (rleft_any B A n c word held w ⟨c0, c1, c2⟩ (by omega) (by omega) (by omega)).mono ?_
  rintro e w' ⟨rfl, k, rfl⟩
  exact ⟨by rw [show ((held + 8 * n : Nat) : Int) = n * 8 + held by omega], k, rfl⟩
theorem meth_left (p : Addr) (w : World) : (method 269 60 (.pointer (some p)) "Left").run Tryd.prog w = .ok (31, .pointer (some p)) w := by kernel_rfl
theorem meth_pull (p : Addr) (w : World) : (method 269 60 (.pointer (some p)) "erasure/bits.pull").run Tryd.prog w = .ok (99, .pointer (some p)) w := by kernel_rfl
theorem RS.drewN' {w : World} {B R N L : Nat} (h : RD w B R N L) (j : Nat) : RD (w.drewN j) B R N L := by
  obtain ⟨A, n, c, word, held, bs, h, r⟩ := h
  exact ⟨A, n, c, word, held, bs, h.drewN j, r⟩
theorem RD.drew {w : World} {B R N L : Nat} (h : RD w B R N L) : RD w.drew B R N L := RS.drewN' h 1
theorem from_drewN {w w1 : World} {j : Nat} {row : Option Nat} (h : (w.drewN j).grownBy w1 row) : w.grownBy w1 row := ⟨h.os, h.tape, h.output, h.size, h.block⟩
set_option maxRecDepth 100000 in
theorem take_any (B R N L k : Nat) (w : World) (h : RD w B R N L) (hk : k ≤ 24) (hL : k ≤ L) :
    Calls Tryd.prog 80 #[srcV B, .int .i64 k] w (Took B R N L w (.tuple #[.int .i64 (N % 2 ^ k : Nat), .int .i64 0]) k) := by
  have H := Lib.hid h
  have hm := meth_left ⟨B, 0, none⟩
  have hp := meth_pull ⟨B, 0, none⟩
  clear h
  go_enter Tryd.func80, Tryd.ntmps80
  go_wp2_with fail
  refine (RD.left H.out).mono ?_
  rintro e w1 ⟨rfl, j, rfl⟩
  go_wp2_with fail
  refine (pull_any B R N L k _ (RS.drewN' H.out j) hk hL).mono ?_
  rintro e w1 ⟨rfl, hr, hg⟩
  have HR := Lib.hid (And.intro hr hg)
  clear hr hg
  go_wp2
  go_ret2
  exact ⟨rfl, HR.out.1, from_drewN HR.out.2⟩
set_option maxRecDepth 100000 in
theorem take_more (B R N L k : Nat) (w : World) (h : RD w B R N L) (hL : L < k) :
    Calls Tryd.prog 80 #[srcV B, .int .i64 k] w fun e w' => e = .returned (.tuple #[.int .i64 0, .int .i64 6]) ∧ ∃ j, w' = w.drewN j := by
  have H := Lib.hid h
  have hm := meth_left ⟨B, 0, none⟩
  clear h
  go_enter Tryd.func80, Tryd.ntmps80
  go_wp2_with fail
  refine (RD.left H.out).mono ?_
  rintro e w1 ⟨rfl, j, rfl⟩
  go_wp2
  go_ret2
  exact ⟨rfl, j, rfl⟩
theorem rbits_any (B R N L k : Nat) (w : World) (h : RD w B R N L) (hk : k ≤ 24) (hL : k ≤ L) :
    Calls Tryd.prog 69 #[.pointer (some ⟨B, 0, none⟩), .int .i64 k] w (Took B R N L w (.tuple #[.int .i64 (N % 2 ^ k : Nat), .int .i64 0]) k) := by
  have H := Lib.hid h
  clear h
  go_enter Tryd.func69, Tryd.ntmps69
  go_wp2_with fail
  refine (take_any B R N L k _ H.out hk hL).mono ?_
  rintro e w1 ⟨rfl, hr, hg⟩
  have HR := Lib.hid (And.intro hr hg)
  clear hr hg
  go_wp2
  go_ret2
  exact ⟨rfl, HR.out.1, HR.out.2⟩
theorem rbits_more (B R N L k : Nat) (w : World) (h : RD w B R N L) (hk : k ≤ 24) (hL : L < k) :
    Calls Tryd.prog 69 #[.pointer (some ⟨B, 0, none⟩), .int .i64 k] w fun e w' => e = .returned (.tuple #[.int .i64 0, .int .i64 6]) ∧ ∃ j, w' = w.drewN j := by
  have H := Lib.hid h
  clear h
  go_enter Tryd.func69, Tryd.ntmps69
  go_wp2_with fail
  refine (take_more B R N L k _ H.out hL).mono ?_
  rintro e w1 ⟨rfl, j, rfl⟩
  go_wp2
  go_ret2
  exact ⟨rfl, j, rfl⟩
theorem rbits_bad (B : Nat) (k : Int) (w : World) (hk : k < 0 ∨ 24 < k) :
    Calls Tryd.prog 69 #[.pointer (some ⟨B, 0, none⟩), .int .i64 k] w fun e w' => e = .returned (.tuple #[.int .i64 0, .int .i64 1]) ∧ w = w' := by
  rcases hk with h | h
  · go_enter Tryd.func69, Tryd.ntmps69
    go_wp2
    go_ret2
    exact ⟨rfl, rfl⟩
  · have h0 : ¬ k < 0 := by omega
    go_enter Tryd.func69, Tryd.ntmps69
    go_wp2
    go_ret2
    exact ⟨rfl, rfl⟩
end Go.Proofs.YtnjdnldoopgcpaaDoor
/- The walks of a reader's align and Align. -/
namespace Go.Proofs.YtnjdnldoopgcpaaDoor
open Go.RowKit

theorem ahead_pull (p : Addr) (w : World) : (nilAhead 269 60 (.pointer (some p)) "erasure/bits.pull").run Tryd.prog w = .ok (some false) w := by kernel_rfl
theorem pull_int (B R N L k : Nat) (kk : Int) (w : World) (h : RD w B R N L) (e : kk = (k : Int)) (hk : k ≤ 24) (hL : k ≤ L) :
    Calls Tryd.prog 99 #[.pointer (some ⟨B, 0, none⟩), .int .i64 kk] w (Took B R N L w (.int .i64 (N % 2 ^ k : Nat)) k) := by
  subst e
  exact pull_any B R N L k w h hk hL
set_option maxRecDepth 100000 in
theorem align_any (B R N L : Nat) (w : World) (h : RD w B R N L) (hL2 : L ≤ 9000000000000000000) :
    Calls Tryd.prog 81 #[srcV B] w fun e w' => e = .returned (.tuple #[]) ∧ RD w' B R (N / 2 ^ (L % 8)) (L - L % 8) ∧ w.grownBy w' (some B) := by
  have H := Lib.hid h
  have hm := meth_left ⟨B, 0, none⟩
  have hp := meth_pull ⟨B, 0, none⟩
  have hn := ahead_pull ⟨B, 0, none⟩
  clear h
  have ht : (L : Int).tmod 8 = ((L % 8 : Nat) : Int) := by rw [Int.tmod_eq_emod_of_nonneg (by omega)]; rfl
  go_enter Tryd.func81, Tryd.ntmps81
  go_wp2_with fail
  go_region_with (first
    | (go_at_call 31; (with_reducible refine (RD.left (RD.drew H.out)).mono ?_); rintro e w1 ⟨rfl, j, rfl⟩)
    | (go_at_call 99; (first | with_reducible refine (pull_int B R N L (L % 8) _ _ (RS.drewN' (RD.drew H.out) _) (by omega) (by omega) (by omega)).mono ?_ | with_reducible refine (pull_int B R N L (L % 8) _ _ (RS.drewN' H.out _) (by omega) (by omega) (by omega)).mono ?_ | with_reducible refine (pull_int B R N L (L % 8) _ _ (RD.drew (RS.drewN' H.out _)) (by omega) (by omega) (by omega)).mono ?_); rintro e w1 ⟨rfl, hr, hg⟩))
  all_goals
    go_end0
    exact ⟨rfl, hr, from_drewN hg⟩
theorem ralign_any (B R N L : Nat) (w : World) (h : RD w B R N L) (hL2 : L ≤ 9000000000000000000) :
    Calls Tryd.prog 70 #[.pointer (some ⟨B, 0, none⟩)] w fun e w' => e = .returned (.int .i64 0) ∧ RD w' B R (N / 2 ^ (L % 8)) (L - L % 8) ∧ w.grownBy w' (some B) := by
  have H := Lib.hid h
  clear h
  go_enter Tryd.func70, Tryd.ntmps70
  go_wp2_with fail
  refine (align_any B R N L _ H.out hL2).mono ?_
  rintro e w1 ⟨rfl, hr, hg⟩
  have HR := Lib.hid (And.intro hr hg)
  clear hr hg
  go_wp2
  go_ret
  exact ⟨rfl, HR.out.1, HR.out.2⟩
end Go.Proofs.YtnjdnldoopgcpaaDoor
