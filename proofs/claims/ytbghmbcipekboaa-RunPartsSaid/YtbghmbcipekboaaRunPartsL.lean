/- The walk of RunParts. -/
import Derived.Test.YtbghmbcipekboaaRunDoesL
import Derived.Test.YtbghmbcipekboaaLaidRowsB
namespace Go.Proofs.Ytbghmbcipekboaa
open Go.RowKit

/-- Two rows of one's own that don't share a block. -/
def Apart (v u : Value) : Prop := ∀ g, v.ownBlock = some g → u.ownBlock = some g → False
theorem run_app2 (W : World) (ty : TypeId) (base n m c : Nat) (v : Value) (xs ys : List Nat) (A : Option Addr) (hown : W.ownsRow base 5 1 v n (bvs xs)) (hy : Bytes W A m c ys) (hm : n + m ≤ 100000000) (hb : base ≤ W.heap.size) :
    ∃ v' w', (Builtin.append_ #[22, 22] ty #[v, .slice A m c]).run Try.prog W = .ok v' w' ∧ w'.ownsRow base 5 1 v' (n + m) (bvs (xs ++ ys)) ∧ W.grownBy w' v.ownBlock ∧ (v'.ownBlock = v.ownBlock ∨ v'.ownBlock = some W.heap.size) := by
  obtain ⟨i0, hi, hz0, hz1, hz2⟩ := info_parts info8
  have hl := hy.len
  rw [bvs_append]
  cases A with
  | none =>
    have h0 : m = 0 := by
      rcases Nat.eq_zero_or_pos m with h0 | h0
      · exact h0
      · obtain ⟨R, o, e, _⟩ := hy.at_ h0
        cases e
    subst h0
    obtain rfl : ys = [] := List.eq_nil_of_length_eq_zero hl
    refine ⟨v, W, ?_, by simpa [bvs] using hown, World.grownBy.refl W _, .inl rfl⟩
    rcases hown.2 with ⟨rfl, -⟩ | ⟨g, cap, cur, rfl, -, -, hnc, -⟩
    · simp [Builtin.append_, run_underlying Try.underlying22, sizeOf, typeInfo, hi, Builtin.lenOf, Builtin.firstCells]
    · simp [Builtin.append_, run_underlying Try.underlying22, sizeOf, typeInfo, hi, Builtin.lenOf, Builtin.firstCells, hnc, storeCells]
  | some ad =>
    have hc : ∀ (j : Nat) (u : Value), (bvs ys)[j]? = some u → W.cell? (ad.add j) = some u := fun j u hu => by
      obtain ⟨b, hb, rfl⟩ := bvs_at hu
      have hj := (List.getElem?_eq_some_iff.1 hb).1
      obtain ⟨R, o, e, _, hc⟩ := hy.at_ (by omega)
      injection e with e
      subst e
      have e2 : (⟨R, o, none⟩ : Addr).add j = ⟨R, o + j, none⟩ := by
        unfold Addr.add; by_cases h0 : j = 0 <;> simp [h0]
      rw [e2]
      exact hc j b hb
    obtain ⟨v', w', h1, h2, h3, -, h5⟩ := run_append_own_at (P := Try.prog) W base 22 ty 5 i0 (.int .u8 0) 1 1 Try.underlying22 hi hz0 hz1 hz2 rfl (by omega) v n (bvs xs) hown ad m c (bvs ys) (by rw [bvs_length, hl, Nat.mul_one]) hc (bvs_one ys) (by unfold maxLen; omega) (by omega) hb
    exact ⟨v', w', h1, h2, h3, h5⟩
theorem wpList_app2 {ops : Array Oper} {rest : List Oper} {o : Oper} {a : Act} {Q : Exit → Act → World → Prop} {W : World} (hgd : o.guard = none) (s x : Operand)
    (ho : o.op = .call { callee := .builtin .append, args := #[s, x], argTypes := #[22, 22] })
    (base n m c : Nat) (v : Value) (xs ys : List Nat) (A : Option Addr) (hs : a.eval s = v) (hx : a.eval x = .slice A m c)
    (hown : W.ownsRow base 5 1 v n (bvs xs)) (hy : Bytes W A m c ys) (hm : n + m ≤ 100000000) (hb : base ≤ W.heap.size)
    (h : ∀ v' w', w'.ownsRow base 5 1 v' (n + m) (bvs (xs ++ ys)) → W.grownBy w' v.ownBlock → (v'.ownBlock = v.ownBlock ∨ v'.ownBlock = some W.heap.size) → wpList Try.prog ops Q rest (a.put o.dst v') w') : wpList Try.prog ops Q (o :: rest) a W := by
  obtain ⟨v', w', h1, h2, h3, h4⟩ := run_app2 W o.type base n m c v xs ys A hown hy hm hb
  refine wpList_plain hgd fun K hK => ?_
  unfold Oper.wp
  simp [execOp, ho, resolve, invoke, builtin, hs, hx, h1, Result.andThen]
  exact hK _ _ (h v' w' h2 h3 h4)
/-- What holds behind an append to a row of one's own, another one standing by. -/
theorem pair_app {W W0 w' : World} {base n n' : Nat} {v v' u : Value} {xs zs : List Value} (ho : W.ownsRow base 5 1 v n xs) (hu : W.ownsRow base 5 1 u n' zs) (hap : Apart v u)
    (hg : W.grownBy w' v.ownBlock) (hl : v'.ownBlock = v.ownBlock ∨ v'.ownBlock = some W.heap.size) (hb : Below base W0 W) (hbs : base ≤ W.heap.size) : w'.ownsRow base 5 1 u n' zs ∧ Apart v' u ∧ Below base W0 w' := by
  refine ⟨hu.kept hg ?_, ?_, hb.grown hg hbs (fun j e => (own_lt ho e).1)⟩
  · cases hq : u.ownBlock with
    | none => exact .inl rfl
    | some j => exact .inr fun e => hap j e.symm hq
  · intro g h1 h2
    rcases hl with h | h
    · exact hap g (h ▸ h1) h2
    · have e : some W.heap.size = some g := h ▸ h1
      injection e with e
      have := (own_lt hu h2).2.1
      omega
theorem Apart.symm {v u : Value} (h : Apart v u) : Apart u v := fun g h1 h2 => h g h2 h1
end Go.Proofs.Ytbghmbcipekboaa
