/- The walks of a reader's align and Align. -/
import Derived.Test.YtdoliloiagfagaaDoorBitsTake
namespace Go.Proofs.YtdoliloiagfagaaDoor
open Go.RowKit

theorem ahead_pull (p : Addr) (w : World) : (nilAhead 262 53 (.pointer (some p)) "erasure/bits.pull").run Tryd.prog w = .ok (some false) w := by kernel_rfl
theorem pull_int (B R N L k : Nat) (kk : Int) (w : World) (h : RD w B R N L) (e : kk = (k : Int)) (hk : k ≤ 24) (hL : k ≤ L) :
    Calls Tryd.prog 94 #[.pointer (some ⟨B, 0, none⟩), .int .i64 kk] w (Took B R N L w (.int .i64 (N % 2 ^ k : Nat)) k) := by
  subst e
  exact pull_any B R N L k w h hk hL
set_option maxRecDepth 100000 in
theorem align_any (B R N L : Nat) (w : World) (h : RD w B R N L) (hL2 : L ≤ 9000000000000000000) :
    Calls Tryd.prog 74 #[srcV B] w fun e w' => e = .returned (.tuple #[]) ∧ RD w' B R (N / 2 ^ (L % 8)) (L - L % 8) ∧ w.grownBy w' (some B) := by
  have H := Lib.hid h
  have hm := meth_left ⟨B, 0, none⟩
  have hp := meth_pull ⟨B, 0, none⟩
  have hn := ahead_pull ⟨B, 0, none⟩
  clear h
  have ht : (L : Int).tmod 8 = ((L % 8 : Nat) : Int) := by rw [Int.tmod_eq_emod_of_nonneg (by omega)]; rfl
  go_enter Tryd.func74, Tryd.ntmps74
  go_wp2_with fail
  go_region_with (first
    | (go_at_call 27; (with_reducible refine (RD.left (RD.drew H.out)).mono ?_); rintro e w1 ⟨rfl, j, rfl⟩)
    | (go_at_call 94; (first | with_reducible refine (pull_int B R N L (L % 8) _ _ (RS.drewN' (RD.drew H.out) _) (by omega) (by omega) (by omega)).mono ?_ | with_reducible refine (pull_int B R N L (L % 8) _ _ (RS.drewN' H.out _) (by omega) (by omega) (by omega)).mono ?_ | with_reducible refine (pull_int B R N L (L % 8) _ _ (RD.drew (RS.drewN' H.out _)) (by omega) (by omega) (by omega)).mono ?_); rintro e w1 ⟨rfl, hr, hg⟩))
  all_goals
    go_end0
    exact ⟨rfl, hr, from_drewN hg⟩
theorem ralign_any (B R N L : Nat) (w : World) (h : RD w B R N L) (hL2 : L ≤ 9000000000000000000) :
    Calls Tryd.prog 56 #[.pointer (some ⟨B, 0, none⟩)] w fun e w' => e = .returned (.int .i64 0) ∧ RD w' B R (N / 2 ^ (L % 8)) (L - L % 8) ∧ w.grownBy w' (some B) := by
  have H := Lib.hid h
  clear h
  go_enter Tryd.func56, Tryd.ntmps56
  go_wp2_with fail
  refine (align_any B R N L _ H.out hL2).mono ?_
  rintro e w1 ⟨rfl, hr, hg⟩
  have HR := Lib.hid (And.intro hr hg)
  clear hr hg
  go_wp2
  go_ret
  exact ⟨rfl, HR.out.1, HR.out.2⟩
end Go.Proofs.YtdoliloiagfagaaDoor
