/- inflate: match, fields. -/
import Derived.Test.YtnjdnldoopgcpaaInfD
namespace Go.Proofs.Ytnjdnldoopgcpaa
open Go.RowKit

theorem lensT_ok : ∀ p ∈ lensT, p.1 ≤ 40000 ∧ p.2 ≤ 13 := by decide +kernel
theorem distT_ok : ∀ p ∈ distT, p.1 ≤ 40000 ∧ p.2 ≤ 13 := by decide +kernel
/-- A row that is filled from its beginning. -/
def fillA (vs : List Nat) (n : Nat) : Array Value := (vs.map (fun v : Nat => Value.int .i64 (v : Int)) ++ List.replicate (n - vs.length) (Value.int .i64 0)).toArray
theorem fillA_step {vs : List Nat} {n v : Nat} (h : vs.length < n) : (fillA vs n).setIfInBounds vs.length (.int .i64 (v : Int)) = fillA (vs ++ [v]) n := by
  unfold fillA
  obtain ⟨m, hm⟩ : ∃ m, n - vs.length = m + 1 := ⟨n - vs.length - 1, by omega⟩
  rw [hm, List.setIfInBounds_toArray, List.set_append_right _ _ (by rw [List.length_map]; exact Nat.le_refl _), List.length_map, Nat.sub_self, List.replicate_succ, List.set_cons_zero, List.map_append, List.length_append, show n - (vs.length + [v].length) = m by simp; omega, List.append_assoc]
  rfl
theorem fillA_zero (n : Nat) : madeCells #[.int .i64 0] n = fillA [] n := by
  apply Array.ext
  · simp [madeCells, fillA]
  · intro i h1 h2
    simp [madeCells, fillA, Nat.mod_one]
theorem fillA_full (vs : List Nat) : fillA vs vs.length = (iiv (vs.map Int.ofNat)).toArray := by
  unfold fillA iiv
  rw [Nat.sub_self, List.replicate_zero, List.append_nil, List.map_map]
  rfl
def preR (vs : List Nat) : Except Int (List Nat × Nat × Nat) → Except Int (List Nat × Nat × Nat)
  | .ok (us, N, L) => .ok (vs ++ us, N, L)
  | .error e => .error e
theorem fields_step {ks : List Nat} {i k : Nat} (h : ks[i]? = some k) : fieldsP (ks.drop i) = bnd (bitsP k) fun v => bnd (fieldsP (ks.drop (i + 1))) fun vs => rtn (v :: vs) := by
  have hi := (List.getElem?_eq_some_iff.1 h).1
  have he := (List.getElem?_eq_some_iff.1 h).2
  rw [List.drop_eq_getElem_cons hi, he, fieldsP]
end Go.Proofs.Ytnjdnldoopgcpaa
/- inflate: compressed. -/
namespace Go.Proofs.Ytnjdnldoopgcpaa
open Go.RowKit

theorem TabAt.drew {w : World} {P : Nat} {l : List Int} (h : TabAt w P l) : TabAt w.drew P l := by
  obtain ⟨hl, base, G, v, ht⟩ := h
  exact ⟨hl, base, G, v, ht.sz, ht.whole, ht.own, ht.words⟩
end Go.Proofs.Ytnjdnldoopgcpaa
/- inflate: stored. -/
namespace Go.Proofs.Ytnjdnldoopgcpaa
open Go.RowKit

theorem fieldsP_len : ∀ (ks : List Nat) {N L : Nat} {vs : List Nat} {N' L' : Nat}, fieldsP ks N L = .ok (vs, N', L') → L = L' + ks.sum
  | [], N, L, vs, N', L', h => by
    injection h with h
    injection h with _ h
    injection h with _ h
  | k :: ks, N, L, vs, N', L', h => by
    rw [fieldsP] at h
    by_cases hk : k ≤ L
    · have e : bitsP k N L = .ok (N % 2 ^ k, N / 2 ^ k, L - k) := by unfold bitsP; rw [if_pos hk]
      rw [bnd_ok e] at h
      cases hq : fieldsP ks (N / 2 ^ k) (L - k) with
      | error e' => rw [bnd_er hq] at h; cases h
      | ok r =>
        obtain ⟨us, N1, L1⟩ := r
        rw [bnd_ok hq] at h
        injection h with h
        injection h with _ h
        injection h with _ h
        have := fieldsP_len ks hq
        rw [List.sum_cons]
        omega
    · have e : bitsP k N L = .error 6 := by unfold bitsP; rw [if_neg hk]
      rw [bnd_er e] at h; cases h
theorem rowB_full (N n : Nat) : rowB N n n = (bvs ((List.range n).map (digit N))).toArray := by
  unfold rowB bvs
  rw [List.map_map]
  congr 1
  refine List.map_congr_left fun j hj => ?_
  have := List.mem_range.1 hj
  rw [if_pos this]
  rfl
theorem addAll_step {most : Int} {bs : List Nat} {i b : Nat} (a : Acc) (h : bs[i]? = some b) : addAll most (bs.drop i) a = bnd (addP most ⟨b, 0, 0⟩ a) (addAll most (bs.drop (i + 1))) := by
  have hi := (List.getElem?_eq_some_iff.1 h).1
  have he := (List.getElem?_eq_some_iff.1 h).2
  rw [List.drop_eq_getElem_cons hi, he, addAll]
end Go.Proofs.Ytnjdnldoopgcpaa

