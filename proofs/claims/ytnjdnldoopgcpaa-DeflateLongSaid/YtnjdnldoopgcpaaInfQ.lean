/- inflate: the codes of a block of its own. -/
import Derived.Test.YtnjdnldoopgcpaaInfO
namespace Go.Proofs.Ytnjdnldoopgcpaa
open Go.RowKit

theorem below_drew1 {w v : World} (h : Below w.drew.heap.size w.drew v) : Below w.heap.size w v := ((Below.refl w.heap.size w).drew).trans h
theorem fieldsP_lt : ∀ (ks : List Nat) {N L : Nat} {vs : List Nat} {N' L' : Nat}, fieldsP ks N L = .ok (vs, N', L') → ∀ (i k v : Nat), ks[i]? = some k → vs[i]? = some v → v < 2 ^ k
  | [], N, L, vs, N', L', h, i, k, v, hk, _ => by simp at hk
  | k0 :: ks, N, L, vs, N', L', h, i, k, v, hk, hv => by
    rw [fieldsP] at h
    by_cases hle : k0 ≤ L
    · have e : bitsP k0 N L = .ok (N % 2 ^ k0, N / 2 ^ k0, L - k0) := by unfold bitsP; rw [if_pos hle]
      rw [bnd_ok e] at h
      cases hq : fieldsP ks (N / 2 ^ k0) (L - k0) with
      | error e' => rw [bnd_er hq] at h; cases h
      | ok r =>
        obtain ⟨us, N1, L1⟩ := r
        rw [bnd_ok hq] at h
        injection h with h
        injection h with h _
        subst h
        match i, hk, hv with
        | 0, hk, hv =>
          simp at hk hv
          subst hk hv
          exact Nat.mod_lt _ (Nat.two_pow_pos _)
        | i + 1, hk, hv => exact fieldsP_lt ks hq i k v (by simpa using hk) (by simpa using hv)
    · have e : bitsP k0 N L = .error 6 := by unfold bitsP; rw [if_neg hle]
      rw [bnd_er e] at h; cases h
theorem IntsAt.left {w : World} {R o n c : Nat} {l : List Int} (h : IntsAt w (some ⟨R, o, none⟩) n c l) {k : Nat} (hk : k ≤ n) : IntsAt w (some ⟨R, o, none⟩) k c (l.take k) := by
  refine ⟨by rw [List.length_take, h.len]; omega, by have := h.cap; omega, h.top, fun h0 => ?_⟩
  obtain ⟨R', o', e, hR, hc⟩ := h.at_ (by omega)
  refine ⟨R', o', e, hR, fun i x hx => hc i x ?_⟩
  rw [List.getElem?_take] at hx
  split at hx
  · exact hx
  · cases hx
theorem IntsAt.right {w : World} {R o n c : Nat} {l : List Int} (h : IntsAt w (some ⟨R, o, none⟩) n c l) {k : Nat} (hk : k ≤ n) : IntsAt w (some ⟨R, o + k, none⟩) (n - k) (c - k) (l.drop k) := by
  refine ⟨by rw [List.length_drop, h.len], by have := h.cap; omega, by have := h.top; omega, fun h0 => ?_⟩
  obtain ⟨R', o', e, hR, hc⟩ := h.at_ (by omega)
  injection e with e
  injection e with e1 e2
  subst e1 e2
  refine ⟨R, o + k, rfl, hR, fun i x hx => ?_⟩
  rw [List.getElem?_drop] at hx
  have := hc (k + i) x hx
  rw [← Nat.add_assoc] at this
  exact this
end Go.Proofs.Ytnjdnldoopgcpaa
/- inflate: all blocks. -/
namespace Go.Proofs.Ytnjdnldoopgcpaa
open Go.RowKit

theorem if_beq {α : Type} (h0 : Nat) (A B : α) : (if ((h0 : Int) == 1) = true then A else B) = if h0 = 1 then A else B := by
  by_cases h : h0 = 1
  · rw [if_pos h, if_pos (by simp [h])]
  · rw [if_neg h, if_neg (by simp; omega)]
end Go.Proofs.Ytnjdnldoopgcpaa

