/- bigEndian, digitsOf: walked. -/
import Derived.Test.YtbbckpdpahkfkaaAscG
import Derived.Laws.Rows
import Derived.Laws.Tables
namespace Go.Proofs.Ytbbckpdpahkfkaa
open Go.RowKit

theorem big_any (R o e c : Nat) (g : List Nat) (w : World) (h : Bytes w (some ⟨R, o, none⟩) e c g) (h1 : 1 ≤ e) (h4 : e ≤ 4) :
    Calls Try.prog 19 #[.slice (some ⟨R, o, none⟩) e c] w fun e w' => e = .returned (.int .i64 (num4 g : Nat)) ∧ w = w' := by
  have hl := h.len
  have hcap := h.cap
  have htop := h.top
  have key : ∀ i, i < e → w.cell? ⟨R, o + i, none⟩ = some (.int .u8 (g.getD i 0 : Nat)) := fun i hi => two_byte h (by rw [List.getD_eq_getElem?_getD, List.getElem?_eq_getElem (by omega)]; rfl)
  have far : ∀ i, e ≤ i → g.getD i 0 = 0 := fun i hi => by rw [List.getD_eq_getElem?_getD, List.getElem?_eq_none (by omega)]; rfl
  have b0 := getD_lt h.byte 0
  have b1 := getD_lt h.byte 1
  have b2 := getD_lt h.byte 2
  have b3 := getD_lt h.byte 3
  unfold num4
  clear h hl
  rcases (by omega : e = 1 ∨ e = 2 ∨ e = 3 ∨ e = 4) with rfl | rfl | rfl | rfl
  · have c0 := key 0 (by omega)
    rw [Nat.add_zero] at c0
    rw [far 1 (by omega), far 2 (by omega), far 3 (by omega)]
    generalize g.getD 0 0 = x0 at *
    clear key far b1 b2 b3
    go_enter Try.func19, Try.ntmps19
    go_wp2_with fail
    refine wp_loop_rounds 5 ?_
    iterate 5 (rw [rounds_succ]; go_wp2_with fail)
    go_ret
    exact ⟨congrArg (fun z : Int => Ending.returned (Value.int .i64 z)) (by omega), rfl⟩
  · have c0 := key 0 (by omega)
    have c1 := key 1 (by omega)
    rw [Nat.add_zero] at c0
    rw [far 2 (by omega), far 3 (by omega)]
    generalize g.getD 0 0 = x0 at *
    generalize g.getD 1 0 = x1 at *
    clear key far b2 b3
    go_enter Try.func19, Try.ntmps19
    go_wp2_with fail
    refine wp_loop_rounds 5 ?_
    iterate 5 (rw [rounds_succ]; go_wp2_with fail)
    go_ret
    exact ⟨congrArg (fun z : Int => Ending.returned (Value.int .i64 z)) (by omega), rfl⟩
  · have c0 := key 0 (by omega)
    have c1 := key 1 (by omega)
    have c2 := key 2 (by omega)
    rw [Nat.add_zero] at c0
    rw [far 3 (by omega)]
    generalize g.getD 0 0 = x0 at *
    generalize g.getD 1 0 = x1 at *
    generalize g.getD 2 0 = x2 at *
    clear key far b3
    go_enter Try.func19, Try.ntmps19
    go_wp2_with fail
    refine wp_loop_rounds 5 ?_
    iterate 5 (rw [rounds_succ]; go_wp2_with fail)
    go_ret
    exact ⟨congrArg (fun z : Int => Ending.returned (Value.int .i64 z)) (by omega), rfl⟩
  · have c0 := key 0 (by omega)
    have c1 := key 1 (by omega)
    have c2 := key 2 (by omega)
    have c3 := key 3 (by omega)
    rw [Nat.add_zero] at c0
    generalize g.getD 0 0 = x0 at *
    generalize g.getD 1 0 = x1 at *
    generalize g.getD 2 0 = x2 at *
    generalize g.getD 3 0 = x3 at *
    clear key far
    go_enter Try.func19, Try.ntmps19
    go_wp2_with fail
    refine wp_loop_rounds 5 ?_
    iterate 5 (rw [rounds_succ]; go_wp2_with fail)
    go_ret
    exact ⟨congrArg (fun z : Int => Ending.returned (Value.int .i64 z)) (by omega), rfl⟩
theorem digits_any (n : Nat) (w : World) (hn : n < 4294967296) :
    Calls Try.prog 20 #[.int .i64 n] w fun e w' => e = .returned (.agg (bvs (fiveD n)).toArray) ∧ Below w.heap.size w w' := by
  go_enter Try.func20, Try.ntmps20
  go_wp2_with fail
  refine wp_loop_rounds 6 ?_
  iterate 6 (rw [rounds_succ]; go_wp2_with fail)
  have e1 : (bvs (fiveD n)).toArray = #[Value.int .u8 (33 + (n : Int) / 85 / 85 / 85 / 85 % 85), .int .u8 (33 + (n : Int) / 85 / 85 / 85 % 85), .int .u8 (33 + (n : Int) / 85 / 85 % 85), .int .u8 (33 + (n : Int) / 85 % 85), .int .u8 (33 + (n : Int) % 85)] := by
    have h1 : ((33 + n / 52200625 % 85 : Nat) : Int) = 33 + (n : Int) / 85 / 85 / 85 / 85 % 85 := by omega
    have h2 : ((33 + n / 614125 % 85 : Nat) : Int) = 33 + (n : Int) / 85 / 85 / 85 % 85 := by omega
    have h3 : ((33 + n / 7225 % 85 : Nat) : Int) = 33 + (n : Int) / 85 / 85 % 85 := by omega
    have h4 : ((33 + n / 85 % 85 : Nat) : Int) = 33 + (n : Int) / 85 % 85 := by omega
    have h5 : ((33 + n % 85 : Nat) : Int) = 33 + (n : Int) % 85 := by omega
    rw [← h1, ← h2, ← h3, ← h4, ← h5]
    rfl
  rw [← e1]
  have hcs : (bvs (fiveD n)).toArray.size = 5 := rfl
  generalize (bvs (fiveD n)).toArray = cs at *
  clear e1
  refine bodyPost_ret (v := .agg cs) ?_ rfl ⟨rfl, ((Below.refl _ _).alloc (Nat.le_refl _) _).alloc (by simp) _⟩
  refine results_cell_row (p := 2) (ty := 38) rfl _ _ w.heap.size 38 cs (0, 0) _ rfl ((Whole.made w 38 cs).old _) Try.underlying38 rfl (by rw [hcs]; kernel_rfl)
end Go.Proofs.Ytbbckpdpahkfkaa
