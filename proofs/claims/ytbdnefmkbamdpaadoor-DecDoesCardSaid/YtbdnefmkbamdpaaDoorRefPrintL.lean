/- The reference prints what dec prints. -/
import Derived.Test.YtbdnefmkbamdpaaDoorRefPrint
namespace Go.Proofs.YtbdnefmkbamdpaaDoor
open Go.RowKit Dec

theorem rowU_succ (u n : Nat) : rowU u (n + 1) = Lib.dg u n :: rowU u n := by
  unfold rowU
  rw [List.range_succ_eq_map, List.map_cons, List.map_map]
  congr 1
  apply List.map_congr_left
  intro t _
  show Lib.dg u (n + 1 - 1 - (t + 1)) = _
  congr 1
  omega
theorem dg_high {u n : Nat} (h : Lib.nDigits u ≤ n) : Lib.dg u n = 48 := by
  unfold Lib.dg
  have h1 := Lib.lt_pow_nDigits u
  have h2 : 10 ^ Lib.nDigits u ≤ 10 ^ n := Nat.pow_le_pow_right (by decide) h
  rw [Nat.div_eq_of_lt (by omega)]
  rfl
theorem rowU_rep (u k : Nat) : rowU u (Lib.nDigits u + k) = Lib.repeatL [48] k ++ Lib.decDigits u := by
  induction k with
  | zero => rw [Lib.decDigits_eq]; rfl
  | succ k ih =>
    rw [← Nat.add_assoc, rowU_succ, ih, dg_high (by omega)]
    rfl
theorem digs_count (u : Nat) (h : u ≠ 0) : (digs u).length = Lib.nDigits u := by
  induction u using Nat.strongRecOn with
  | _ u ih =>
    rw [digs_pos h, List.length_cons]
    by_cases h1 : u < 10
    · rw [Nat.div_eq_of_lt h1, digs_zero, Lib.nDigits_small h1]; rfl
    · rw [Lib.nDigits_big h1, ih (u / 10) (by omega) (by omega)]
theorem outU_print (m : Int) (s : Nat) : outU (signL m) m.natAbs (max (digs m.natAbs).length (s + 1)) s 0 = printL m s := by
  have hn : max (digs m.natAbs).length (s + 1) = Lib.nDigits m.natAbs + (s + 1 - (Lib.decDigits m.natAbs).length) := by
    rw [Lib.decDigits_length]
    have h1 := Lib.nDigits_pos m.natAbs
    by_cases h : m.natAbs = 0
    · have h2 : Lib.nDigits m.natAbs = 1 := Lib.nDigits_small (by omega)
      have h3 : (digs m.natAbs).length = 0 := by rw [h, digs_zero]; rfl
      omega
    · rw [digs_count _ h]; omega
  rw [hn]
  have hr : rowU m.natAbs (Lib.nDigits m.natAbs + (s + 1 - (Lib.decDigits m.natAbs).length)) = rowL m s := rowU_rep _ _
  have hl : (rowL m s).length = Lib.nDigits m.natAbs + (s + 1 - (Lib.decDigits m.natAbs).length) := by rw [← hr, rowU_len]
  unfold outU printL
  rw [← hl] at hr ⊢
  rw [hr, Nat.sub_zero, List.take_length]
  by_cases h0 : s = 0
  · subst h0
    rw [if_neg (by omega), if_pos rfl]
    have h1 := Lib.nDigits_pos m.natAbs
    unfold rowL
    rw [Lib.decDigits_length, show 0 + 1 - Lib.nDigits m.natAbs = 0 by omega]
    rfl
  · rw [if_pos (by omega), if_neg h0]
theorem refprint_is (m : Int) (s : Nat) (w : World) (hv : Valid m s) :
    Calls Tryd.prog 11 #[.agg #[.int .i64 m, .int .i64 s]] w (IsText (printL m s) w) := by
  rw [← outU_print]
  exact refprint_ok m s w hv
end Go.Proofs.YtbdnefmkbamdpaaDoor
