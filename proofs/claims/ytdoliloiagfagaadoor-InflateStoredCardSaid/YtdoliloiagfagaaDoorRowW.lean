/- A record's cells as one array: loaded from a row, laid into a new block. No program stands in it. -/
import Derived.Test.YtdoliloiagfagaaDoorRowG
import Derived.Laws.Rows
import Derived.WalkKit
import Derived.Great.BuildSlice
namespace Go.Proofs.YtdoliloiagfagaaDoor
open Go.RowKit

theorem alloc_setRow (w : World) (T : TypeId) (zs cs : Array Value) : (w.alloc (.cells zs T)).setRow w.heap.size cs = w.alloc (.cells cs T) := by
  unfold World.setRow World.alloc
  simp only [World.mk.injEq, and_true]
  apply Array.ext_getElem?
  intro i
  rw [Array.getElem?_modify]
  rw [Array.getElem?_push, Array.getElem?_push]
  by_cases h : i = w.heap.size
  · subst h
    simp
  · simp [h]
    intro h2
    omega
theorem fold_set : ∀ (l : List Value) (k : Nat) (a : Array Value), k + l.length ≤ a.size → (l.zipIdx k).foldl (fun cs (p : Value × Nat) => cs.setIfInBounds (0 + p.2) p.1) a = (a.toList.take k ++ l ++ a.toList.drop (k + l.length)).toArray
  | [], k, a, h => by simp
  | v :: l, k, a, h => by
    rw [List.zipIdx_cons, List.foldl_cons, fold_set l (k + 1) _ (by simp at h ⊢; omega)]
    congr 1
    simp only [List.length_cons] at h
    have e : (a.setIfInBounds (0 + k) v).toList = a.toList.set k v := by rw [Nat.zero_add]; exact Array.toList_setIfInBounds
    have hk : k < a.toList.length := by rw [Array.length_toList]; omega
    rw [e, List.take_set, List.drop_set_of_lt (by omega), List.length_cons]
    have e2 : (a.toList.take (k + 1)).set k v = a.toList.take k ++ [v] := by
      rw [List.take_add_one, List.getElem?_eq_getElem hk, Option.toList_some, List.set_append_right _ _ (by rw [List.length_take]; omega), List.length_take, Nat.min_eq_left (by omega), Nat.sub_self]
      rfl
    rw [e2, show k + (l.length + 1) = k + 1 + l.length by omega]
    simp
theorem fill_one (z : Nat) (zs cells : Array Value) (h : cells.size = z) (hz : zs.size = z) : Instr.fill (fun i => some (i * z, z)) zs [(0, .agg cells)] = some cells := by
  have hc : (Value.agg cells).cells = cells := rfl
  unfold Instr.fill
  simp only [Nat.zero_mul, hc]
  rw [if_neg (by simp; omega)]
  unfold Instr.fill
  congr 1
  have e := fold_set cells.toList 0 zs (by rw [Array.length_toList]; omega)
  rw [← Array.foldl_toList, Array.toList_zipIdx]
  refine Eq.trans e ?_
  rw [Array.length_toList, List.take_zero, List.nil_append, List.drop_of_length_le (by rw [Array.length_toList]; omega), List.append_nil]
section
variable {P : Program}
/-- A slice literal of one record. -/
theorem wpList_build_one {ops : Array Oper} {rest : List Oper} {o : Oper} {a : Act} {w w1 : World} {Q : Exit → Act → World → Prop} (hg : o.guard = none) (t e : TypeId) (x : Operand) (ho : o.op = .buildSlice t 1 #[(0, x)])
    (cells : Array Value) (ie : TypeInfo) (z : Value) (n : Nat) (hx : a.eval x = .agg cells) (hn : cells.size = n) (hw : w.alloc (.cells cells e) = w1)
    (hu : P.underlying t = some (.slice e)) (hie : P.info? e = some ie) (hz : ie.zero = some z) (hs : ie.size = n) (hpos : 0 < n) (hsmall : n ≤ 1000)
    (h : wpList P ops Q rest (a.put o.dst (.slice (some ⟨w.heap.size, 0, none⟩) 1 1)) w1) : wpList P ops Q (o :: rest) a w := by
  refine wpList_buildSlice hg t e 1 _ ho cells ie z hu hie hz (by rw [hs]; omega) (by rw [hs]; omega) ?_ (by rw [hw]; exact h)
  have e1 : ((#[(0, x)] : Array (Nat × Operand)).map fun (i, x) => (i, a.eval x)).toList = [(0, .agg cells)] := by simp [hx]
  rw [e1, hs]
  exact fill_one n _ _ hn (by simp)
theorem run_loadVar_at (w : World) (R o : Nat) (ty : TypeId) (cs : Array Value) (d : TypeDesc) (hc : ∀ (j : Nat) (u : Value), cs.toList[j]? = some u → w.cell? ⟨R, o + j, none⟩ = some u)
    (hu : P.underlying ty = some d) (hd : (match d with | .struct _ | .array _ _ => true | _ => false) = true) (hi : (P.info? ty).map (·.size) = some cs.size) :
    (loadVar ty ⟨R, o, none⟩).run P w = .ok (.agg cs) w := by
  have hl : (loadCells ⟨R, o, none⟩ cs.toList.length).run P w = .ok cs.toList.toArray w :=
    run_loadCells_list (P := P) w ⟨R, o, none⟩ cs.toList (fun j v hv => by
      have hadd : (⟨R, o, none⟩ : Addr).add j = ⟨R, o + j, none⟩ := by unfold Addr.add; split <;> simp_all
      rw [hadd]
      exact hc j v hv)
  cases hq : P.info? ty with
  | none => simp [hq] at hi
  | some i =>
    have hs : i.size = cs.size := by simpa [hq] using hi
    have hagg : (isAgg ty).run P w = .ok true w := by
      unfold isAgg
      rw [Sem.run_bind, run_underlying hu w]
      cases d <;> simp_all
    simp only [Array.length_toList, Array.toArray_toList] at hl
    simp [loadVar, Sem.run_bind, hagg, sizeOf, typeInfo, hq, hs, hl]
theorem wp_load_at {o : Oper} {a : Act} {w : World} {K : Act → World → Prop} {Q : Exit → Act → World → Prop} (ty : TypeId) (x : Operand) (ho : o.op = .load ty x)
    (R k : Nat) (hx : a.eval x = .pointer (some ⟨R, k, none⟩)) (cs : Array Value) (d : TypeDesc) (hc : ∀ (j : Nat) (u : Value), cs.toList[j]? = some u → w.cell? ⟨R, k + j, none⟩ = some u)
    (hu : P.underlying ty = some d) (hd : (match d with | .struct _ | .array _ _ => true | _ => false) = true) (hi : (P.info? ty).map (·.size) = some cs.size)
    (h : K (a.put o.dst (.agg cs)) w) : o.wp P a w K Q := by
  unfold Oper.wp execOp
  simp only [ho, hx, Instr.loadAt, Instr.sureAddr, Sem.run_bind, Sem.run_pure, Result.andThen_ok, run_loadVar_at w R k ty cs d hc hu hd hi]
  exact h
theorem wpList_load_at {ops : Array Oper} {rest : List Oper} {o : Oper} {a : Act} {w : World} {Q : Exit → Act → World → Prop} (hgd : o.guard = none) (ty : TypeId) (x : Operand) (ho : o.op = .load ty x)
    (R k : Nat) (hx : a.eval x = .pointer (some ⟨R, k, none⟩)) (cs : Array Value) (d : TypeDesc) (hc : ∀ (j : Nat) (u : Value), cs.toList[j]? = some u → w.cell? ⟨R, k + j, none⟩ = some u)
    (hu : P.underlying ty = some d) (hd : (match d with | .struct _ | .array _ _ => true | _ => false) = true) (hi : (P.info? ty).map (·.size) = some cs.size)
    (h : wpList P ops Q rest (a.put o.dst (.agg cs)) w) : wpList P ops Q (o :: rest) a w :=
  wpList_plain hgd fun _ hK => wp_load_at ty x ho R k hx cs d hc hu hd hi (hK _ _ h)
/-- A store of a whole record into the block that was made last. -/
theorem wpList_store_new {ops : Array Oper} {rest : List Oper} {o : Oper} {a : Act} {w : World} {Q : Exit → Act → World → Prop} (hgd : o.guard = none) (ty : TypeId) (x y : Operand) (ho : o.op = .store ty x y)
    (hd : o.dst = none) (T : TypeId) (zs cells : Array Value) (hx : a.eval x = .pointer (some ⟨w.heap.size, 0, none⟩)) (hy : a.eval y = .agg cells) (hi : (P.info? ty).map (·.size) = some cells.size)
    (hold : zs.size = cells.size) (h1 : cells.all (·.oneCell') = true)
    (h : wpList P ops Q rest a (w.alloc (.cells cells T))) : wpList P ops Q (o :: rest) a (w.alloc (.cells zs T)) := by
  refine wpList_store_row hgd ty x y ho w.heap.size cells hx hy T zs (Whole.made w T zs) hi hold h1 ?_
  rw [hd, alloc_setRow]
  exact h
/-- The same, the new world by a letter. -/
theorem wpList_store_let {ops : Array Oper} {rest : List Oper} {o : Oper} {a : Act} {w w1 : World} {Q : Exit → Act → World → Prop} (hgd : o.guard = none) (ty : TypeId) (x y : Operand) (ho : o.op = .store ty x y)
    (hd : o.dst = none) (T : TypeId) (zs cells : Array Value) (hw : w.alloc (.cells cells T) = w1) (hx : a.eval x = .pointer (some ⟨w.heap.size, 0, none⟩)) (hy : a.eval y = .agg cells) (hi : (P.info? ty).map (·.size) = some cells.size)
    (hold : zs.size = cells.size) (h1 : cells.all (·.oneCell') = true)
    (h : wpList P ops Q rest a w1) : wpList P ops Q (o :: rest) a (w.alloc (.cells zs T)) :=
  wpList_store_new hgd ty x y ho hd T zs cells hx hy hi hold h1 (by rw [hw]; exact h)
end
end Go.Proofs.YtdoliloiagfagaaDoor
