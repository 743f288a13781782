/- inflate: the codes for lengths. -/
import Derived.Test.YtnjdnldoopgcpaaInfL
namespace Go.Proofs.Ytnjdnldoopgcpaa
open Go.RowKit

/-- The variables of the package: order and repeats. -/
def Env (w : World) : Prop := 2 ≤ w.heap.size ∧ (∀ (i v : Nat), orderT[i]? = some v → w.cell? ⟨0, i, none⟩ = some (.int .i64 (v : Int))) ∧
  (∀ s : Nat, 16 ≤ s → s ≤ 18 → w.cell? ⟨1, (s - 16) * 2, none⟩ = some (.int .i64 (repB s : Int)) ∧ w.cell? ⟨1, (s - 16) * 2 + 1, none⟩ = some (.int .i64 (repL s : Int)))
theorem Env.kept {w w' : World} {B : Nat} (h : Env w) (hb : Below B w w') (hB : 2 ≤ B) : Env w' := by
  refine ⟨Nat.le_trans h.1 hb.size, fun i v hv => (hb.cell (p := ⟨0, i, none⟩) (by show 0 < B; omega)).trans (h.2.1 i v hv), fun s h1 h2 => ⟨(hb.cell (p := ⟨1, (s - 16) * 2, none⟩) (by show 1 < B; omega)).trans (h.2.2 s h1 h2).1, (hb.cell (p := ⟨1, (s - 16) * 2 + 1, none⟩) (by show 1 < B; omega)).trans (h.2.2 s h1 h2).2⟩⟩
theorem Env.here {w w' : World} (h : Env w) (hb : Below w.heap.size w w') : Env w' := h.kept hb h.1
theorem orderT_len : orderT.length = 19 := rfl
theorem orderT_lt {i v : Nat} (h : orderT[i]? = some v) : v < 19 := by
  have h2 : ∀ v ∈ orderT, v < 19 := by decide
  exact h2 v (List.mem_of_getElem? h)
theorem placeL_len (told : List Nat) : ∀ i, (placeL told i).length = 19
  | 0 => rfl
  | i + 1 => by rw [placeL, List.length_set, placeL_len told i]
theorem placeL_step {told : List Nat} {i o v : Nat} (ho : orderT[i]? = some o) (hv : told[i]? = some v) : (iiv (placeL told i)).toArray.setIfInBounds o (.int .i64 (v : Int)) = (iiv (placeL told (i + 1))).toArray := by
  rw [placeL, List.getD_eq_getElem?_getD, ho, List.getD_eq_getElem?_getD, hv, List.setIfInBounds_toArray]
  unfold iiv
  rw [List.map_set]
  rfl
end Go.Proofs.Ytnjdnldoopgcpaa

