/- The walk of RunOften. -/
import Derived.Test.YtbghmbcipekboaaRunBackL
import Derived.Deep.OwnRows
namespace Go.Proofs.Ytbghmbcipekboaa
open Go.RowKit

/-- A row of n cells of which the first i hold x, the others 0. -/
def rowC (x n i : Nat) : Array Value := ((List.range n).map fun j => Value.int .u8 (if j < i then (x : Int) else 0)).toArray
theorem rowC_at (x n i j : Nat) (h : j < n) : (rowC x n i)[j]? = some (.int .u8 (if j < i then (x : Int) else 0)) := by simp [rowC, h]
theorem rowC_zero (x n : Nat) : madeCells #[.int .u8 0] n = rowC x n 0 := by
  apply Array.toList_inj.1
  rw [toList_madeCells_one]
  apply List.ext_getElem
  · simp [rowC]
  · intro i h1 h2
    simp [rowC]
theorem rowC_set (x n i : Nat) : (rowC x n i).setIfInBounds i (.int .u8 x) = rowC x n (i + 1) := by
  apply Array.toList_inj.1
  apply List.ext_getElem
  · simp [rowC]
  · intro j h1 h2
    simp [rowC] at h1 h2 ⊢
    rw [List.getElem_set]
    by_cases e : i = j
    · subst e; simp
    · rw [if_neg e]
      simp
      by_cases e1 : j < i
      · rw [if_pos e1, if_pos (by omega)]
      · rw [if_neg e1, if_neg (by omega)]
theorem rowC_done {w : World} {R x n : Nat} (h : Whole w R 5 (rowC x n n)) (hx : x < 256) (hn : n ≤ 5000) : Bytes w (some ⟨R, 0, none⟩) n n (List.replicate n x) :=
  ⟨by simp, Nat.le_refl _, by omega, fun b hb => by rw [List.eq_of_mem_replicate hb]; exact hx, fun _ => ⟨_, 0, rfl, h.lt, fun i b hb => by
    have hi := (List.getElem?_eq_some_iff.1 hb).1
    rw [List.length_replicate] at hi
    rw [List.getElem?_replicate, if_pos hi] at hb
    injection hb with hb
    subst hb
    rw [h.reads, Nat.zero_add, rowC_at _ _ _ _ hi, if_pos hi]⟩⟩
set_option maxRecDepth 100000 in
set_option maxHeartbeats 4000000 in
theorem often_law (x : Nat) (n : Int) (w : World) (hx : x < 256) :
    Calls Try.prog 5 #[.int .u8 x, .int .i64 n] w (True_ w) := by
  by_cases g3 : n < 0
  · go_enter Try.func5, Try.ntmps5
    go_wp2
    go_ret
    exact ⟨rfl, Below.refl _ _⟩
  by_cases g4 : 5000 < n
  · go_enter Try.func5, Try.ntmps5
    go_wp2
    go_ret
    exact ⟨rfl, Below.refl _ _⟩
  obtain ⟨n, rfl⟩ : ∃ M : Nat, n = M := ⟨n.toNat, by omega⟩
  have hmk := fun W => run_make_row' (P := Try.prog) 22 5 (.int .u8 0) 1 Try.underlying22 (by kernel_rfl) rfl .i64 .i64 n (by omega) (by omega) W
  go_enter Try.func5, Try.ntmps5
  go_wp2
  have hw0 : Whole (w.alloc (.cells (madeCells #[.int .u8 0] n) 5)) w.heap.size 5 (rowC x n 0) := by
    have := Whole.made w 5 (madeCells #[.int .u8 0] n)
    rw [rowC_zero x] at this ⊢
    exact this
  have hb0 : Below w.heap.size w (w.alloc (.cells (madeCells #[.int .u8 0] n) 5)) := (Below.refl _ _).alloc (Nat.le_refl _) _
  have H0 := Lib.hid (And.intro hw0 hb0)
  clear hw0 hb0
  go_loopg [6] n (fun g b wr => ∃ i : Nat, g + i = n ∧ b = .int .i64 i ∧ Whole wr w.heap.size 5 (rowC x n i) ∧ Below w.heap.size w wr)
  case atStart => exact ⟨0, by omega, rfl, H0.out⟩
  case round =>
    obtain ⟨i, hi, rfl, hw, hg⟩ := hrel
    have H2 := Lib.hid hw
    have H3 := Lib.hid hg
    clear hw hg
    by_cases hlt : i < n
    · have cg : wr.cell? ⟨w.heap.size, i, none⟩ = some (.int .u8 0) := by
        rw [H2.out.reads, rowC_at x n i i hlt, if_neg (by omega)]
      have fg := H2.out.thawed i
      go_wp2
      go_roundg (gk - 1)
      case measure => omega
      case rel => exact ⟨i + 1, by omega, by go_num, by have := H2.out.set i (.int .u8 x); rwa [rowC_set] at this, H3.out.setCell (Nat.le_refl _) _⟩
    · obtain rfl : i = n := by omega
      have hy0 := rowC_done H2.out hx (by omega)
      have HY := Lib.hid hy0
      clear hy0
      have hb3 : Below w.heap.size w wr := H3.out
      go_wp2_with fail
      refine (put_ok _ i i _ _ HY.out (by omega)).mono ?_
      rintro e w1 ⟨A1, c1, rfl, hy1, hb1⟩
      rw [putM_often] at hy1 ⊢
      have H4 := Lib.hid (And.intro hy1 hb1)
      clear hy1 hb1
      go_wp2_with fail
      refine (get_is_ok (l := List.replicate i x) H4.out.1 (by omega) (by rw [getM_back, if_neg (by simp)])).mono ?_
      rintro e w2 ⟨A2, c2, rfl, hy2, hb2⟩
      rw [List.length_replicate] at hy2 ⊢
      have H5 := Lib.hid (And.intro hy2 hb2)
      clear hy2 hb2
      go_wp2_with fail
      refine (awake_any _).mono ?_
      rintro e w3 ⟨rfl, hb4⟩
      have b1 := hb3.trans (H4.out.2.mono hb3.size)
      have b2 := b1.trans (H5.out.2.mono b1.size)
      have b3 := b2.trans (hb4.mono b2.size)
      have hs1 := (H5.out.1.below hb4).str
      have hs2 := (((HY.out.below H4.out.2).below H5.out.2).below hb4).str
      have H8 := Lib.hid b3
      clear hb4 b1 b2 b3 hb3
      go_wp2
      go_ret
      exact ⟨rfl, H8.out⟩
theorem often_law' (x : Int) (n : Int) (w : World) (h : 0 ≤ x ∧ x < 256) :
    Calls Try.prog 5 #[.int .u8 x, .int .i64 n] w (True_ w) := by
  obtain ⟨m, rfl⟩ : ∃ M : Nat, x = M := ⟨x.toNat, by omega⟩
  exact often_law m n w (by omega)
end Go.Proofs.Ytbghmbcipekboaa
