/- A slice literal of two records. No program stands in it. -/
import Derived.Test.YtdoliloiagfagaaDoorRowW
namespace Go.Proofs.YtdoliloiagfagaaDoor
open Go.RowKit

theorem fold_setO (o : Nat) : ∀ (l : List Value) (k : Nat) (a : Array Value), o + k + l.length ≤ a.size → (l.zipIdx k).foldl (fun cs (p : Value × Nat) => cs.setIfInBounds (o + p.2) p.1) a = (a.toList.take (o + k) ++ l ++ a.toList.drop (o + k + l.length)).toArray
  | [], k, a, h => by simp
  | v :: l, k, a, h => by
    rw [List.zipIdx_cons, List.foldl_cons, fold_setO o l (k + 1) _ (by simp at h ⊢; omega)]
    congr 1
    simp only [List.length_cons] at h
    have e : (a.setIfInBounds (o + k) v).toList = a.toList.set (o + k) v := Array.toList_setIfInBounds
    have hk : o + k < a.toList.length := by rw [Array.length_toList]; omega
    rw [e, List.take_set, List.drop_set_of_lt (by omega), List.length_cons, show o + (k + 1) = o + k + 1 by omega]
    have e2 : (a.toList.take (o + k + 1)).set (o + k) v = a.toList.take (o + k) ++ [v] := by
      rw [List.take_add_one, List.getElem?_eq_getElem hk, Option.toList_some, List.set_append_right _ _ (by rw [List.length_take]; omega), List.length_take, Nat.min_eq_left (by omega), Nat.sub_self]
      rfl
    rw [e2, show o + k + (l.length + 1) = o + k + 1 + l.length by omega]
    simp
theorem fill_two (z : Nat) (zs c1 c2 : Array Value) (h1 : c1.size = z) (h2 : c2.size = z) (hz : zs.size = 2 * z) : Instr.fill (fun i => some (i * z, z)) zs [(0, .agg c1), (1, .agg c2)] = some (c1 ++ c2) := by
  have hc : ∀ c : Array Value, (Value.agg c).cells = c := fun _ => rfl
  unfold Instr.fill
  simp only [Nat.zero_mul, hc]
  rw [if_neg (by simp; omega)]
  have e := fold_setO 0 c1.toList 0 zs (by rw [Array.length_toList]; omega)
  have e1 : c1.zipIdx.foldl (fun cs (p : Value × Nat) => cs.setIfInBounds (0 + p.2) p.1) zs = (c1.toList ++ zs.toList.drop z).toArray := by
    rw [← Array.foldl_toList, Array.toList_zipIdx]
    refine Eq.trans e ?_
    rw [Array.length_toList, Nat.zero_add, Nat.zero_add, List.take_zero, List.nil_append, h1]
  rw [e1]
  unfold Instr.fill
  simp only [Nat.one_mul, hc]
  rw [if_neg (by simp; omega)]
  unfold Instr.fill
  congr 1
  have e2 := fold_setO z c2.toList 0 (c1.toList ++ zs.toList.drop z).toArray (by simp; omega)
  rw [← Array.foldl_toList, Array.toList_zipIdx]
  refine Eq.trans e2 ?_
  rw [Array.length_toList, Nat.add_zero, h2]
  have e3 : (c1.toList ++ zs.toList.drop z).take z = c1.toList := List.take_left' (by rw [Array.length_toList]; exact h1)
  have e4 : (c1.toList ++ zs.toList.drop z).drop (z + z) = [] := List.drop_of_length_le (by simp; omega)
  rw [e3, e4, List.append_nil]
  simp
section
variable {P : Program}
theorem wpList_build_two {ops : Array Oper} {rest : List Oper} {o : Oper} {a : Act} {w w1 : World} {Q : Exit → Act → World → Prop} (hg : o.guard = none) (t e : TypeId) (x y : Operand) (ho : o.op = .buildSlice t 2 #[(0, x), (1, y)])
    (c1 c2 : Array Value) (ie : TypeInfo) (z : Value) (n : Nat) (hx : a.eval x = .agg c1) (hy : a.eval y = .agg c2) (hn : c1.size = n) (hn2 : c2.size = n) (hw : w.alloc (.cells (c1 ++ c2) e) = w1)
    (hu : P.underlying t = some (.slice e)) (hie : P.info? e = some ie) (hz : ie.zero = some z) (hs : ie.size = n) (hpos : 0 < n) (hsmall : n ≤ 1000)
    (h : wpList P ops Q rest (a.put o.dst (.slice (some ⟨w.heap.size, 0, none⟩) 2 2)) w1) : wpList P ops Q (o :: rest) a w := by
  refine wpList_buildSlice hg t e 2 _ ho (c1 ++ c2) ie z hu hie hz (by rw [hs]; omega) (by rw [hs]; omega) ?_ (by rw [hw]; exact h)
  have e1 : ((#[(0, x), (1, y)] : Array (Nat × Operand)).map fun (i, x) => (i, a.eval x)).toList = [(0, .agg c1), (1, .agg c2)] := by simp [hx, hy]
  rw [e1, hs]
  exact fill_two n _ _ _ hn hn2 (by simp)
end
end Go.Proofs.YtdoliloiagfagaaDoor
