/- inflate: the lengths of the codes. -/
import Derived.Test.YtnjdnldoopgcpaaInfN
namespace Go.Proofs.Ytnjdnldoopgcpaa
open Go.RowKit

theorem infoIn : (Try.prog.info? 3).map (fun i => (i.zero, i.size, i.bytes)) = some (some (.int .i64 0), 1, 8) := by kernel_rfl
theorem info_in : ∃ i, Try.prog.info? 3 = some i ∧ i.zero = some (.int .i64 0) ∧ i.size = 1 ∧ i.bytes = 8 := by
  have h := infoIn
  cases hi : Try.prog.info? 3 with
  | none => rw [hi] at h; cases h
  | some i =>
    rw [hi] at h
    injection h with h
    injection h with h1 h2
    injection h2 with h2 h3
    exact ⟨i, rfl, h1, h2, h3⟩
theorem rep_small {s : Nat} (h1 : 16 ≤ s) (h2 : s ≤ 18) : repB s ≤ 7 ∧ 1 ≤ repL s ∧ repL s ≤ 11 := by
  obtain rfl | rfl | rfl : s = 16 ∨ s = 17 ∨ s = 18 := by omega
  all_goals decide
theorem codeGo_on {cl : List Int} {n f : Nat} {l : List Int} (h : l.length < n) : codeGo cl n (f + 1) l = bnd (readP cl) fun s => if s < 16 then codeGo cl n f (l ++ [(s : Int)]) else if s = 16 ∧ l = [] then bad 4 else
      bnd (bitsP (repB s)) fun m => codeGo cl n f (l ++ List.replicate (repL s + m) (if s = 16 then l.getLastD 0 else 0)) := by rw [codeGo, if_pos h]
theorem codeGo_end {cl : List Int} {n f : Nat} {l : List Int} (h : ¬ l.length < n) : codeGo cl n (f + 1) l = if n < l.length then bad 4 else rtn l := by rw [codeGo, if_neg h]
theorem getLastD_at {l : List Int} {y : Int} (h : l[l.length - 1]? = some y) : l.getLastD 0 = y := by
  rw [List.getLastD_eq_getLast?, List.getLast?_eq_getElem?, h]
  rfl
end Go.Proofs.Ytnjdnldoopgcpaa

