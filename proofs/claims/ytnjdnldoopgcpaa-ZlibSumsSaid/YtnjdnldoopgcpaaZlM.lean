/- zlib: the sum: pure. -/
import Derived.Test.YtnjdnldoopgcpaaMem
namespace Go.Proofs.Ytnjdnldoopgcpaa

def adl : List Nat → Nat → Nat → Nat × Nat
  | [], a, b => (a, b)
  | x :: r, a, b => adl r ((a + x) % 65521) ((b + (a + x) % 65521) % 65521)
theorem adl_app : ∀ (l r : List Nat) (a b : Nat), adl (l ++ r) a b = adl r (adl l a b).1 (adl l a b).2
  | [], r, a, b => rfl
  | x :: l, r, a, b => by rw [List.cons_append, adl, adl, adl_app l r]
theorem adl_lt : ∀ (l : List Nat) (a b : Nat), a < 65521 → b < 65521 → (adl l a b).1 < 65521 ∧ (adl l a b).2 < 65521
  | [], a, b, ha, hb => ⟨ha, hb⟩
  | x :: l, a, b, _, _ => adl_lt l _ _ (Nat.mod_lt _ (by decide)) (Nat.mod_lt _ (by decide))
def sumS : List Nat → Nat
  | [] => 0
  | x :: r => x + sumS r
def sumW : List Nat → Nat
  | [] => 0
  | x :: r => (r.length + 1) * x + sumW r
theorem adl_is : ∀ (l : List Nat) (a b : Nat), (adl l a b).1 % 65521 = (a + sumS l) % 65521 ∧ (adl l a b).2 % 65521 = (b + l.length * a + sumW l) % 65521
  | [], a, b => by simp [adl, sumS, sumW]
  | x :: l, a, b => by
    obtain ⟨h1, h2⟩ := adl_is l ((a + x) % 65521) ((b + (a + x) % 65521) % 65521)
    rw [adl, h1, h2, sumS, sumW, List.length_cons]
    refine ⟨by omega, ?_⟩
    have e1 : (l.length * ((a + x) % 65521)) % 65521 = (l.length * (a + x)) % 65521 := by rw [Nat.mul_mod, Nat.mod_mod, ← Nat.mul_mod]
    have e2 : l.length * (a + x) = l.length * a + l.length * x := Nat.mul_add _ _ _
    have e3 : (l.length + 1) * a = l.length * a + a := Nat.succ_mul _ _
    have e4 : (l.length + 1) * x = l.length * x + x := Nat.succ_mul _ _
    rw [e3, e4]
    rw [e2] at e1
    generalize l.length * ((a + x) % 65521) = p at *
    generalize l.length * a = q at *
    generalize l.length * x = r at *
    omega
def sumZ (bs : List Nat) : Nat := 65536 * (adl bs 1 0).2 + (adl bs 1 0).1
theorem sumZ_parts (bs : List Nat) : sumZ bs % 65536 = (adl bs 1 0).1 ∧ sumZ bs / 65536 = (adl bs 1 0).2 ∧ (adl bs 1 0).1 < 65521 ∧ (adl bs 1 0).2 < 65521 := by
  obtain ⟨h1, h2⟩ := adl_lt bs 1 0 (by decide) (by decide)
  unfold sumZ
  omega
theorem sumZ_app (a b : List Nat) : sumZ (a ++ b) = 65536 * ((sumZ a / 65536 + sumZ b / 65536 + b.length * (sumZ a % 65536 + 65520)) % 65521) + (sumZ a % 65536 + sumZ b % 65536 + 65520) % 65521 := by
  obtain ⟨a1, a2, a3, a4⟩ := sumZ_parts a
  obtain ⟨b1, b2, b3, b4⟩ := sumZ_parts b
  rw [a1, a2, b1, b2]
  have e : sumZ (a ++ b) = 65536 * (adl b (adl a 1 0).1 (adl a 1 0).2).2 + (adl b (adl a 1 0).1 (adl a 1 0).2).1 := by unfold sumZ; rw [adl_app]
  rw [e]
  obtain ⟨x1, x2⟩ := adl_is b (adl a 1 0).1 (adl a 1 0).2
  obtain ⟨y1, y2⟩ := adl_is b 1 0
  obtain ⟨l1, l2⟩ := adl_lt b (adl a 1 0).1 (adl a 1 0).2 a3 a4
  rw [Nat.mul_add]
  generalize (adl b (adl a 1 0).1 (adl a 1 0).2).1 = za at *
  generalize (adl b (adl a 1 0).1 (adl a 1 0).2).2 = zb at *
  generalize (adl b 1 0).1 = ya at *
  generalize (adl b 1 0).2 = yb at *
  generalize (adl a 1 0).1 = xa at *
  generalize (adl a 1 0).2 = xb at *
  generalize b.length * xa = P at *
  generalize sumS b = S at *
  generalize sumW b = W at *
  rw [Nat.mul_one, Nat.zero_add] at y2
  generalize b.length = n at *
  have h1 : za = (xa + ya + 65520) % 65521 := by omega
  have h2 : zb = (xb + yb + (P + n * 65520)) % 65521 := by omega
  rw [h1, h2]
theorem sumZ_lt (bs : List Nat) : sumZ bs < 4294967296 := by
  obtain ⟨-, -, h1, h2⟩ := sumZ_parts bs
  unfold sumZ
  omega
end Go.Proofs.Ytnjdnldoopgcpaa
