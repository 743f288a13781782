/- Bytes appended to a row of one's own. -/
import Derived.Test.YtnjdnldoopgcpaaInfR
import Derived.Laws.AppendOwnNone
namespace Go.Proofs.Ytnjdnldoopgcpaa
open Go.RowKit

theorem grown_refl (w : World) (row : Option Nat) : w.grownBy w row := ⟨rfl, rfl, rfl, Nat.le_refl _, fun _ _ _ => rfl⟩
set_option maxRecDepth 100000 in
/-- Bytes appended to a row of one's own. -/
theorem app_bytes {w : World} {ops : Array Oper} {rest : List Oper} {o : Oper} {a : Act} {Q : Exit → Act → World → Prop} (hgd : o.guard = none) (s x : Operand)
    (ho : o.op = .call { callee := .builtin .append, args := #[s, x], argTypes := #[22, 22] }) (base : Nat)
    (v : Value) (n : Nat) (xs : List Value) (hs : a.eval s = v) (hown : w.ownsRow base 5 1 v n xs) (A : Option Addr) (m c : Nat) (bs : List Nat) (hx : a.eval x = .slice A m c) (hb : Bytes w A m c bs) (hnil : A = none → c = 0)
    (h63 : n + m ≤ 1000000) (hbase : base ≤ w.heap.size)
    (h : ∀ v' w', w'.ownsRow base 5 1 v' (n + m) (xs ++ bvs bs) → w.grownBy w' v.ownBlock → wpList Try.prog ops Q rest (a.put o.dst v') w') : wpList Try.prog ops Q (o :: rest) a w := by
  obtain ⟨i0, hi, hz0, hz1, hz2⟩ := info_u8
  cases A with
  | none =>
    obtain rfl := hnil rfl
    obtain rfl : m = 0 := by have := hb.cap; omega
    obtain rfl : bs = [] := List.eq_nil_of_length_eq_zero hb.len
    refine wpList_append_own_none hgd s x 22 ho base 5 i0 1 Try.underlying22 hi v n xs hs hown hx (h v w ?_ (grown_refl _ _))
    simpa [bvs] using hown
  | some ad =>
    refine wpList_append_own w hgd s x 22 ho base 5 i0 (.int .u8 0) 1 1 Try.underlying22 hi hz0 hz1 hz2 rfl (by decide) v n xs hs hown ad m c (bvs bs) hx (by rw [bvs_length, hb.len]; omega) ?_ (bvs_one bs) (by unfold maxLen; omega) (by omega) hbase (fun v' w' h1 h2 _ => h v' w' h1 h2)
    intro j u hj
    by_cases hm : m = 0
    · have : bs = [] := List.eq_nil_of_length_eq_zero (by rw [hb.len, hm])
      rw [this] at hj
      simp [bvs] at hj
    · obtain ⟨R, o', e, hR, hc⟩ := hb.at_ (by omega)
      injection e with e
      subst e
      obtain ⟨b, hbj, rfl⟩ := bvs_at hj
      rw [gaddr_add (a := ⟨R, o', none⟩) rfl]
      exact hc j b hbj
/-- What Inflate answers, in one. -/
def InfG (bs : List Nat) (most : Int) (w : World) (e : Ending) (w' : World) : Prop :=
  ∃ (A : Option Addr) (c : Nat) (x : List Nat) (used : Nat) (E : Int), e = .returned (.tuple #[.slice A x.length c, .int .i64 (used : Int), .int .i64 E]) ∧ Bytes w' A x.length c x ∧ Below w.heap.size w w' ∧
    ((E = 0 ∧ inflP bs most = .ok (x, used) ∧ (x.length : Int) ≤ most ∧ used ≤ bs.length) ∨ (E ≠ 0 ∧ x = [] ∧ used = 0 ∧ inflP bs most = .error E))
theorem own_empty2 {w : World} {g base : Nat} {e : TypeId} {size : Nat} (h : Whole w g e #[]) (hb : base ≤ g) : w.ownsRow base e size (.slice (some ⟨g, 0, none⟩) 0 0) 0 [] :=
  ⟨by simp, .inr ⟨g, 0, #[], rfl, hb, h, Nat.le_refl _, by unfold maxLen; omega, by simp, by simp⟩⟩
theorem str_same2 (s : ByteArray) : (s.toList == s.toList) = true := by simp
theorem ne_same (s : ByteArray) : (!(s.toList == s.toList)) = false := by simp
end Go.Proofs.Ytnjdnldoopgcpaa

