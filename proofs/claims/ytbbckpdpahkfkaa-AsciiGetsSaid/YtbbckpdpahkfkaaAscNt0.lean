/- AsciiNoughts: its text, and what the walks of the law and of the reference want. -/
import Derived.Test.YtbbckpdpahkfkaaAscBack
namespace Go.Proofs.Ytbbckpdpahkfkaa
open Go.RowKit

theorem row_nought (n m : Nat) : rowM (List.replicate n 0) 4 m = List.replicate (min 4 (n - m * 4)) 0 := by
  unfold rowM
  rw [List.drop_replicate, List.take_replicate]
theorem putN_nought (n : Nat) : ∀ m, 4 * m ≤ n → putN (List.replicate n 0) m = List.replicate m 122
  | 0, _ => rfl
  | m + 1, h => by
    rw [putN, putN_nought n m (by omega), row_nought, show min 4 (n - m * 4) = 4 by omega, show List.replicate (m + 1) 122 = List.replicate m 122 ++ [122] from List.replicate_succ']
    rfl
theorem putS_nought (n : Nat) : putS (List.replicate n 0) = List.replicate (n / 4) 122 ++ List.replicate (leftN n) 33 := by
  unfold putS leftN
  rw [List.length_replicate]
  by_cases h : 0 < n % 4
  · rw [if_pos h, show (n + 3) / 4 = n / 4 + 1 by omega, putN, putN_nought n _ (by omega), row_nought, show min 4 (n - n / 4 * 4) = n % 4 by omega]
    congr 1
    rcases (by omega : n % 4 = 1 ∨ n % 4 = 2 ∨ n % 4 = 3) with e | e | e <;> rw [e] <;> rfl
  · rw [if_neg h, show (n + 3) / 4 = n / 4 by omega, putN_nought n _ (by omega)]
    simp
/-- The sign at a place of the text of noughts. -/
def nsign (q L i : Nat) : Nat := if i < q then 122 else if i < q + L then 33 else if i < q + L + 1 then 126 else 62
theorem nought_at (q L i : Nat) (h : i < q + L + 2) : (List.replicate q 122 ++ List.replicate L 33 ++ [126, 62])[i]? = some (nsign q L i) := by
  unfold nsign
  by_cases h1 : i < q
  · rw [if_pos h1, List.getElem?_append_left (by simp; omega), List.getElem?_append_left (by simp; omega), List.getElem?_replicate, if_pos h1]
  · rw [if_neg h1]
    by_cases h2 : i < q + L
    · rw [if_pos h2, List.getElem?_append_left (by simp; omega), List.getElem?_append_right (by simp; omega), List.length_replicate, List.getElem?_replicate, if_pos (by omega)]
    · rw [if_neg h2, List.getElem?_append_right (by simp; omega), List.length_append, List.length_replicate, List.length_replicate]
      by_cases h3 : i < q + L + 1
      · rw [if_pos h3, show i - (q + L) = 0 by omega]; rfl
      · rw [if_neg h3, show i - (q + L) = 1 by omega]; rfl
theorem strB_index (l : List Nat) (i x : Nat) (h : l[i]? = some x) (hx : x < 256) (w : World) : (Instr.index 9 (.string (strB l)) (.int .i64 (i : Int))).run Try.prog w = .ok (.int .u8 (x : Int)) w := by
  obtain ⟨hi, hv⟩ := List.getElem?_eq_some_iff.1 h
  rw [run_index_string (h := Try.underlying9), dif_pos (by rw [strB_size]; omega)]
  have : ((strB l)[(i : Int).toNat]'(by rw [strB_size]; omega)).toNat = x := by
    show ((l.map UInt8.ofNat).toArray[(i : Int).toNat]'_).toNat = x
    simp [hv]
    omega
  rw [this]
theorem tail_index (i N : Nat) (w : World) (h : i = N ∨ i = N + 1) : (Instr.index 9 (.string ⟨#[126, 62]⟩) (.int .i64 ((i : Int) - ((N : Int) + 2) + 2))).run Try.prog w = .ok (.int .u8 (if i = N then 126 else 62)) w := by
  rcases h with rfl | rfl
  · rw [if_pos rfl, show (i : Int) - ((i : Int) + 2) + 2 = 0 by omega]; kernel_rfl
  · rw [if_neg (by omega), show ((N + 1 : Nat) : Int) - ((N : Int) + 2) + 2 = 1 by omega]; kernel_rfl
theorem make_bytes (k n : Nat) (hk : k ≤ n) (hn : n ≤ 100000000) (w : World) :
    (Instr.makeSlice 22 (.int .i64 (k : Int)) (.int .i64 (n : Int))).run Try.prog w = .ok (.slice (some ⟨w.heap.size, 0, none⟩) k n) (w.alloc (.cells (bvs (List.replicate n 0)).toArray 5)) := by
  obtain ⟨i, hi, hz, hs, hy⟩ := info_parts info8
  have := run_make (P := Try.prog) w 22 5 i _ Try.underlying22 hi hz .i64 .i64 k n (by omega) (by omega) (by rw [hy]; omega) (by omega)
  simp only [Int.toNat_natCast, hs] at this
  rw [show (Value.int .u8 0).cells = #[.int .u8 0] from by rfl] at this
  rw [this]
  congr 3
  apply Array.ext_getElem?
  intro j
  by_cases hj : j < n
  · simp [madeCells, bvs, hj, Nat.mod_one]
  · rw [Array.getElem?_eq_none (by simp [madeCells]; omega), Array.getElem?_eq_none (by simp [bvs]; omega)]
theorem wrap_fit (q : Nat) (h : q ≤ 1000000) : IntKind.i64.wrap (q : Int) = (q : Int) := by rw [IntKind.wrap_i64]; omega
end Go.Proofs.Ytbbckpdpahkfkaa
