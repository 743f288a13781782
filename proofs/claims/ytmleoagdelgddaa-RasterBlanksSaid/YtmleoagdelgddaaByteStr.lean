/- Texts of bytes; appends of bytes; bytes written out. -/
import Derived.Test.YtmleoagdelgddaaByteRow
import Derived.Laws.BytesString
import Derived.Laws.IdiomStrings
import Derived.Laws.BytesArg
import Derived.Maps.AppendAt
namespace Go.Proofs.Ytmleoagdelgddaa
open Go.RowKit

/-- The text of bytes. -/
def strB (bs : List Nat) : ByteArray := ⟨(bs.map UInt8.ofNat).toArray⟩
theorem Bytes.str {w : World} {A : Option Addr} {n c : Nat} {bs : List Nat} (h : Bytes w A n c bs) : (convert 22 9 (.slice A n c)).run Try.prog w = .ok (.string (strB bs)) w := by
  have hl := h.len
  by_cases hn : n = 0
  · subst hn
    obtain rfl : bs = [] := List.eq_nil_of_length_eq_zero hl
    cases A with
    | none => exact run_convert_bytes_nil w _ _ Try.underlying22 Try.underlying5 0 c _ Try.underlying9
    | some a => exact run_convert_bytes_back w _ _ _ a c [] Try.underlying22 Try.underlying5 Try.underlying9 (fun j hj => by simp at hj)
  · obtain ⟨R, o, rfl, hR, hc⟩ := h.at_ (by omega)
    have := run_convert_bytes_back (P := Try.prog) w 22 9 5 ⟨R, o, none⟩ c (bs.map UInt8.ofNat) Try.underlying22 Try.underlying5 Try.underlying9 (fun j hj => by
      have hj' : j < bs.length := by simpa using hj
      have e2 : (⟨R, o, none⟩ : Addr).add j = ⟨R, o + j, none⟩ := by
        unfold Addr.add; by_cases h0 : j = 0 <;> simp [h0]
      have hb := h.byte bs[j] (List.getElem_mem hj')
      rw [e2, hc j bs[j] (List.getElem?_eq_getElem hj')]
      simp only [List.getElem_map, UInt8.toNat_ofNat']
      rw [Nat.mod_eq_of_lt hb])
    rw [List.length_map, hl] at this
    exact this
theorem strB_ext {a b : List Nat} (ha : ∀ x ∈ a, x < 256) (hb : ∀ x ∈ b, x < 256) (h : strB a = strB b) : a = b := by
  have h1 : a.map UInt8.ofNat = b.map UInt8.ofNat := by
    have := congrArg (fun s : ByteArray => s.data.toList) h
    simpa [strB] using this
  have h2 := congrArg (List.map UInt8.toNat) h1
  rw [List.map_map, List.map_map] at h2
  have key : ∀ l : List Nat, (∀ x ∈ l, x < 256) → l.map (UInt8.toNat ∘ UInt8.ofNat) = l := by
    intro l hl
    induction l with
    | nil => rfl
    | cons x l ih =>
      rw [List.map_cons, ih (fun y hy => hl y (List.mem_cons_of_mem _ hy))]
      have := hl x (List.mem_cons_self ..)
      congr 1
      simp only [Function.comp, UInt8.toNat_ofNat']
      exact Nat.mod_eq_of_lt this
  rwa [key a ha, key b hb] at h2
set_option maxRecDepth 100000 in
/-- append of bytes, wherever they lie, nil let in, to a row of the call's own. -/
theorem run_app (W : World) (ty : TypeId) (base n m c : Nat) (v : Value) (xs ys : List Nat) (A : Option Addr) (hown : W.ownsRow base 5 1 v n (bvs xs)) (hy : Bytes W A m c ys) (hm : n + m ≤ 100000000) (hb : base ≤ W.heap.size) :
    ∃ v' w', (Builtin.append_ #[22, 22] ty #[v, .slice A m c]).run Try.prog W = .ok v' w' ∧ w'.ownsRow base 5 1 v' (n + m) (bvs (xs ++ ys)) ∧ W.grownBy w' v.ownBlock := by
  obtain ⟨i0, hi, hz0, hz1, hz2⟩ := info_parts info8
  have hl := hy.len
  rw [bvs_append]
  cases A with
  | none =>
    have h0 : m = 0 := by
      rcases Nat.eq_zero_or_pos m with h0 | h0
      · exact h0
      · obtain ⟨R, o, e, _⟩ := hy.at_ h0
        cases e
    subst h0
    obtain rfl : ys = [] := List.eq_nil_of_length_eq_zero hl
    refine ⟨v, W, ?_, by simpa [bvs] using hown, World.grownBy.refl W _⟩
    rcases hown.2 with ⟨rfl, -⟩ | ⟨g, cap, cur, rfl, -, -, hnc, -⟩
    · simp [Builtin.append_, run_underlying Try.underlying22, sizeOf, typeInfo, hi, Builtin.lenOf, Builtin.firstCells]
    · simp [Builtin.append_, run_underlying Try.underlying22, sizeOf, typeInfo, hi, Builtin.lenOf, Builtin.firstCells, hnc, storeCells]
  | some ad =>
    have hc : ∀ (j : Nat) (u : Value), (bvs ys)[j]? = some u → W.cell? (ad.add j) = some u := fun j u hu => by
      obtain ⟨b, hb, rfl⟩ := bvs_at hu
      have hj := (List.getElem?_eq_some_iff.1 hb).1
      obtain ⟨R, o, e, _, hc⟩ := hy.at_ (by omega)
      injection e with e
      subst e
      have e2 : (⟨R, o, none⟩ : Addr).add j = ⟨R, o + j, none⟩ := by
        unfold Addr.add; by_cases h0 : j = 0 <;> simp [h0]
      rw [e2]
      exact hc j b hb
    obtain ⟨v', w', h1, h2, h3, -⟩ := run_append_own_at (P := Try.prog) W base 22 ty 5 i0 (.int .u8 0) 1 1 Try.underlying22 hi hz0 hz1 hz2 rfl (by omega) v n (bvs xs) hown ad m c (bvs ys) (by rw [bvs_length, hl, Nat.mul_one]) hc (bvs_one ys) (by unfold maxLen; omega) (by omega) hb
    exact ⟨v', w', h1, h2, h3⟩
set_option maxRecDepth 100000 in
theorem wpList_app {ops : Array Oper} {rest : List Oper} {o : Oper} {a : Act} {Q : Exit → Act → World → Prop} {W : World} (hgd : o.guard = none) (s x : Operand)
    (ho : o.op = .call { callee := .builtin .append, args := #[s, x], argTypes := #[22, 22] })
    (base n m c : Nat) (v : Value) (xs ys : List Nat) (A : Option Addr) (hs : a.eval s = v) (hx : a.eval x = .slice A m c)
    (hown : W.ownsRow base 5 1 v n (bvs xs)) (hy : Bytes W A m c ys) (hm : n + m ≤ 100000000) (hb : base ≤ W.heap.size)
    (h : ∀ v' w', w'.ownsRow base 5 1 v' (n + m) (bvs (xs ++ ys)) → W.grownBy w' v.ownBlock → wpList Try.prog ops Q rest (a.put o.dst v') w') : wpList Try.prog ops Q (o :: rest) a W := by
  obtain ⟨v', w', h1, h2, h3⟩ := run_app W o.type base n m c v xs ys A hown hy hm hb
  refine wpList_plain hgd fun K hK => ?_
  unfold Oper.wp
  simp [execOp, ho, resolve, invoke, builtin, hs, hx, h1, Result.andThen]
  exact hK _ _ (h v' w' h2 h3)
/-- Bytes written out, in a block of their own. -/
theorem bytes_lit (w : World) (bs : List Nat) (hb : ∀ b ∈ bs, b < 256) (hl : bs.length ≤ 100000000) : Bytes (w.alloc (.cells (bvs bs).toArray 5)) (some ⟨w.heap.size, 0, none⟩) bs.length bs.length bs :=
  ⟨rfl, Nat.le_refl _, by omega, hb, fun _ => ⟨w.heap.size, 0, rfl, by simp, fun i b hi => by
    rw [(Whole.made w 5 (bvs bs).toArray).reads, Nat.zero_add, List.getElem?_toArray]
    simp [bvs, hi]⟩⟩
theorem bytes_marked (w : World) (bs : List Nat) (fr : Nat × Nat) (hb : ∀ b ∈ bs, b < 256) (hl : bs.length ≤ 100000000) : Bytes (w.alloc (.cells (bvs bs).toArray 5 fr)) (some ⟨w.heap.size, 0, none⟩) bs.length bs.length bs :=
  ⟨rfl, Nat.le_refl _, by omega, hb, fun _ => ⟨w.heap.size, 0, rfl, by simp, fun i b hi => by
    rw [cell_of_row _ w.heap.size (0 + i) (bvs bs).toArray 5 fr (heap_alloc_new w _), Nat.zero_add, List.getElem?_toArray]
    simp [bvs, hi]⟩⟩
theorem own_lit (w : World) (bs : List Nat) (hl : bs.length ≤ 100000000) : (w.alloc (.cells (bvs bs).toArray 5)).ownsRow w.heap.size 5 1 (.slice (some ⟨w.heap.size, 0, none⟩) bs.length bs.length) bs.length (bvs bs) :=
  ⟨by rw [bvs_length, Nat.mul_one], .inr ⟨_, bs.length, (bvs bs).toArray, rfl, Nat.le_refl _, heap_alloc_new w _, Nat.le_refl _, by unfold maxLen; omega, by simp [bvs], by
    show List.take (bs.length * 1) (bvs bs).toArray.toList = bvs bs
    exact List.take_of_length_le (by rw [bvs_length, Nat.mul_one]; exact Nat.le_refl _)⟩⟩
end Go.Proofs.Ytmleoagdelgddaa
