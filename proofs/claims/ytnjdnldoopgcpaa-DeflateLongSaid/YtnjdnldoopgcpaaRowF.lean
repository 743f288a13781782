/- Slices of records: what their cells read as; how one's own rows, and rows among the arguments, become such. No program stands in it. -/
import Derived.Test.YtnjdnldoopgcpaaMem
import Derived.ProofKit
import Derived.OpenShut
import Derived.Deep.DeepHandedRow
import Derived.Deep.Slices
import Derived.Lib.SmallJoins
import Derived.Lay
import Derived.Carry
import Derived.Laws.Rows
import Derived.WalkKit
import Derived.Great.BuildSlice
import Derived.Laws.AppendOwnNone
import Derived.Laws.OwnMore
import Derived.Laws.AppendOwn
namespace Go.Proofs.Ytnjdnldoopgcpaa
open Go.ChangeShapes Go.WideShapes Go.ChangeAt Go.RowKit Go.Joins Go.Deep

/-- A slice that reads as these records of z cells each, nil let in. -/
structure RowAt (w : World) (A : Option Addr) (n c z : Nat) (cl : List (List Value)) : Prop where
  len : cl.length = n
  cap : n ≤ c
  top : c ≤ 9223372036854775807
  at_ : 0 < n → ∃ R o, A = some ⟨R, o, none⟩ ∧ R < w.heap.size ∧ ∀ (i : Nat) (cs : List Value), cl[i]? = some cs → ∀ (j : Nat) (u : Value), cs[j]? = some u → w.cell? ⟨R, o + i * z + j, none⟩ = some u
theorem RowAt.below {w w' : World} {A : Option Addr} {n c z : Nat} {cl : List (List Value)} (h : RowAt w A n c z cl) (hg : Below w.heap.size w w') : RowAt w' A n c z cl :=
  ⟨h.len, h.cap, h.top, fun hn => by
    obtain ⟨R, o, e, hR, hc⟩ := h.at_ hn
    exact ⟨R, o, e, Nat.lt_of_lt_of_le hR hg.size, fun i cs hi j u hu => (hg.cell (p := ⟨R, o + i * z + j, none⟩) hR).trans (hc i cs hi j u hu)⟩⟩
theorem RowAt.moved {w w' : World} {A : Option Addr} {n c z : Nat} {cl : List (List Value)} (h : RowAt w A n c z cl) (hs : w.heap.size ≤ w'.heap.size) (hc : ∀ R o, A = some ⟨R, o, none⟩ → w'.heap[R]? = w.heap[R]?) : RowAt w' A n c z cl :=
  ⟨h.len, h.cap, h.top, fun hn => by
    obtain ⟨R, o, e, hR, hk⟩ := h.at_ hn
    exact ⟨R, o, e, Nat.lt_of_lt_of_le hR hs, fun i cs hi j u hu => (World.cell?_of_block (w := w) (a := ⟨R, o + i * z + j, none⟩) (hc R o e)).trans (hk i cs hi j u hu)⟩⟩
theorem RowAt.none (w : World) (z : Nat) : RowAt w none 0 0 z [] := ⟨rfl, by omega, by omega, fun h => absurd h (by omega)⟩
theorem RowAt.part {w : World} {R o n c z : Nat} {cl : List (List Value)} (h : RowAt w (some ⟨R, o, Option.none⟩) n c z cl) (a b : Nat) (hab : a ≤ b) (hb : b ≤ n) : RowAt w (some ⟨R, o + a * z, Option.none⟩) (b - a) (c - a) z ((cl.drop a).take (b - a)) := by
  have hl := h.len
  refine ⟨by rw [List.length_take, List.length_drop]; omega, by have := h.cap; omega, by have := h.top; omega, fun hn => ?_⟩
  obtain ⟨R', o', e, hR, hk⟩ := h.at_ (by omega)
  injection e with e
  injection e with e1 e2
  subst e1 e2
  refine ⟨_, _, rfl, hR, fun i cs hi j u hu => ?_⟩
  have hi2 : i < b - a := by
    have := (List.getElem?_eq_some_iff.1 hi).1
    rw [List.length_take] at this
    omega
  rw [List.getElem?_take, if_pos hi2, List.getElem?_drop] at hi
  have := hk (a + i) cs hi j u hu
  rw [Nat.add_mul] at this
  rw [show o + a * z + i * z + j = o + (a * z + i * z) + j by omega]
  exact this
theorem flat_len {z : Nat} : ∀ (cl : List (List Value)), (∀ cs ∈ cl, cs.length = z) → cl.flatten.length = cl.length * z
  | [], _ => by simp
  | a :: cl, h => by
    rw [List.flatten_cons, List.length_append, flat_len cl (fun cs hc => h cs (List.mem_cons_of_mem _ hc)), h a (List.mem_cons_self ..), List.length_cons, Nat.add_mul]
    omega
theorem flat_at {z : Nat} : ∀ (cl : List (List Value)) (i : Nat) (cs : List Value) (j : Nat) (u : Value), (∀ cs ∈ cl, cs.length = z) → cl[i]? = some cs → cs[j]? = some u → cl.flatten[i * z + j]? = some u
  | [], i, cs, j, u, _, h, _ => by simp at h
  | a :: cl, 0, cs, j, u, hz, h, hu => by
    simp at h
    subst h
    have hj : j < a.length := (List.getElem?_eq_some_iff.1 hu).1
    rw [List.flatten_cons, Nat.zero_mul, Nat.zero_add, List.getElem?_append_left hj]
    exact hu
  | a :: cl, i + 1, cs, j, u, hz, h, hu => by
    have := flat_at cl i cs j u (fun cs hc => hz cs (List.mem_cons_of_mem _ hc)) (by simpa using h) hu
    have ha := hz a (List.mem_cons_self ..)
    rw [List.flatten_cons, List.getElem?_append_right (by rw [ha, Nat.add_mul]; omega), ha, show (i + 1) * z + j - z = i * z + j by rw [Nat.add_mul]; omega]
    exact this
theorem RowAt.of_own {w : World} {base z : Nat} {T : TypeId} {v : Value} {n : Nat} {cl : List (List Value)} (hz : ∀ cs ∈ cl, cs.length = z) (hz0 : 0 < z) (h : w.ownsRow base T z v n cl.flatten) : ∃ A c, v = .slice A n c ∧ RowAt w A n c z cl ∧ ∀ R o, A = some ⟨R, o, Option.none⟩ → base ≤ R := by
  obtain ⟨hl, h⟩ := h
  have hl : cl.length = n := by
    rw [flat_len cl hz] at hl
    exact Nat.eq_of_mul_eq_mul_right hz0 hl
  rcases h with ⟨rfl, rfl⟩ | ⟨g, cap, cur, rfl, hg, hw, hnc, hc, hs, ht⟩
  · exact ⟨Option.none, 0, rfl, ⟨hl, by omega, by omega, fun h => absurd h (by omega)⟩, fun R o e => by cases e⟩
  · have hlt : g < w.heap.size := Whole.lt (T := T) hw
    refine ⟨_, cap, rfl, ⟨hl, hnc, by unfold maxLen at hc; omega, fun hn => ⟨g, 0, rfl, hlt, fun i cs hi j u hu => ?_⟩⟩, fun R o e => by cases e; exact hg⟩
    have hil : i < n := by
      have := (List.getElem?_eq_some_iff.1 hi).1
      omega
    have hcs := hz cs (List.mem_of_getElem? hi)
    have hj : j < z := by
      have := (List.getElem?_eq_some_iff.1 hu).1
      omega
    have e1 := flat_at cl i cs j u hz hi hu
    have hle : i * z + j < n * z := by
      have : (i + 1) * z ≤ n * z := Nat.mul_le_mul_right z (by omega)
      rw [Nat.add_mul] at this
      omega
    rw [← ht, List.getElem?_take, if_pos hle] at e1
    have hw' : Whole w g T cur := hw
    rw [hw'.reads, Nat.zero_add, ← e1, Array.getElem?_toList]
theorem flat_one {cl : List (List Value)} (h : ∀ cs ∈ cl, ∀ u ∈ cs, u.oneCell' = true) : ∀ u ∈ cl.flatten, u.oneCell' = true := fun u hu => by
  obtain ⟨cs, h1, h2⟩ := List.mem_flatten.1 hu
  exact h cs h1 u h2
theorem flat_snoc (cl : List (List Value)) (cs : List Value) : cl.flatten ++ cs = (cl ++ [cs]).flatten := by simp
section
variable {H : Type} {enc : TypeId × Value → H} {P : Program} {W : World} {base : Nat} {held : Bool}
theorem gaddr_in {w : World} {a : Addr} {v : Value} (h : w.cell? a = some v) : a.spot = none := by
  unfold World.cell? at h
  cases hs : a.spot with
  | none => rfl
  | some s =>
    rw [hs] at h
    split at h
    · simp at h
    · cases h
theorem gaddr_add {a : Addr} (hs : a.spot = none) (n : Nat) : a.add n = ⟨a.block, a.off + n, none⟩ := by
  obtain ⟨b, o, s⟩ := a
  obtain rfl : s = none := hs
  unfold Addr.add
  split
  · subst n; rfl
  · rfl
/-- A slice of records among the arguments. -/
theorem open_rows {α : Type} (V : α → List Value) (z : Nat) (hz : 0 < z) (hV : ∀ x, (V x).length = z) (Pr : α → Prop) {T E : TypeId} (hT : P.underlying T = some (.slice E)) (hE : P.cellsOf E = z) {fuel : Nat} {cs : List Value} {x : DataW H × List MemPlace}
    (helem : ∀ (f : Nat) (cs' : List Value) (y : DataW H × List MemPlace), SizeOf.sizeOf y.1 < SizeOf.sizeOf x.1 → cs'.length = z → DataW.trod enc P W base (fun _ => true) held f E cs' = some y → ∃ r, cs' = V r ∧ Pr r)
    (h : DataW.trod enc P W base (fun _ => true) held fuel T cs = some x) :
    ∃ (A : Option Addr) (n c : Nat) (l : List α), cs = [.slice A n c] ∧ RowAt W A n c z (l.map V) ∧ (∀ r ∈ l, Pr r) ∧ (A = none → n = 0 ∧ c = 0) := by
  rcases open_slice hT h with ⟨hc, -⟩ | ⟨a', n, c, m, k, D, Pl, hc, hb, hl, hm, hmm, hxx, hi⟩
  · exact ⟨none, 0, 0, [], hc, RowAt.none _ _, fun r hr => by simp at hr, fun _ => ⟨rfl, rfl⟩⟩
  · unfold maxLen at hm
    by_cases hn : n = 0
    · subst hn
      exact ⟨some a', 0, c, [], hc, ⟨rfl, by omega, by omega, fun h => absurd h (by omega)⟩, fun r hr => by simp at hr, fun h => by cases h⟩
    · have key : ∀ i, i < n → ∃ r : α, (∀ j u, (V r)[j]? = some u → W.cell? ((a'.add (i * z)).add j) = some u) ∧ Pr r := fun i hin => by
        obtain ⟨cs', h1, h2⟩ := hi i (by rw [hmm]; simp; omega)
        rw [hE] at h1
        obtain ⟨-, hlen, hat⟩ := World.cells?_some h1
        obtain ⟨r, rfl, hr⟩ := helem _ _ _ (by
          rw [hxx]
          have : D i ∈ (List.range n).map D := List.mem_map.2 ⟨i, List.mem_range.2 hin, rfl⟩
          have := List.sizeOf_lt_of_mem this
          simp only [DataW.slice.sizeOf_spec]
          omega) hlen h2
        refine ⟨r, fun j u hu => ?_, hr⟩
        have hj : j < (V r).length := (List.getElem?_eq_some_iff.1 hu).1
        rw [List.getElem?_eq_getElem hj] at hu
        injection hu with hu
        rw [← hu]
        exact (hat j (by rw [← hlen]; exact hj)).trans (List.getElem?_eq_getElem hj)
      obtain ⟨x0, e0, -⟩ := key 0 (by omega)
      obtain ⟨u0, hu0⟩ : ∃ u, (V x0)[0]? = some u := ⟨_, List.getElem?_eq_getElem (by rw [hV]; exact hz)⟩
      have e0' : W.cell? a' = some u0 := by
        have := e0 0 _ hu0
        rw [show (0 : Nat) * z = 0 by omega] at this
        have e : (a'.add 0).add 0 = a' := by unfold Addr.add; rfl
        rwa [e] at this
      have hs := gaddr_in e0'
      haveI : Inhabited α := ⟨x0⟩
      obtain ⟨F, hF⟩ := choose_lt key
      refine ⟨some a', n, c, (List.range n).map F, hc, ⟨by simp, hl, by omega, fun _ => ⟨a'.block, a'.off, ?_, World.block_lt_of_cell? _ _ e0', fun i cs' hcs => ?_⟩⟩, fun r hr => ?_, fun h => by cases h⟩
      · obtain ⟨b, o, s⟩ := a'
        obtain rfl : s = none := hs
        rfl
      · have hin : i < n := by
          have := (List.getElem?_eq_some_iff.1 hcs).1
          simpa using this
        simp [List.getElem?_range hin] at hcs
        subst hcs
        intro j u hu
        have := (hF i hin).1 j u hu
        rw [gaddr_add hs, gaddr_add rfl] at this
        exact this
      · obtain ⟨j, hj, rfl⟩ := List.mem_map.1 hr
        exact (hF j (List.mem_range.1 hj)).2
end
end Go.Proofs.Ytnjdnldoopgcpaa
/- A record's cells as one array: loaded from a row, laid into a new block. No program stands in it. -/
namespace Go.Proofs.Ytnjdnldoopgcpaa
open Go.RowKit

theorem alloc_setRow (w : World) (T : TypeId) (zs cs : Array Value) : (w.alloc (.cells zs T)).setRow w.heap.size cs = w.alloc (.cells cs T) := by
  unfold World.setRow World.alloc
  simp only [World.mk.injEq, and_true]
  apply Array.ext_getElem?
  intro i
  rw [Array.getElem?_modify]
  rw [Array.getElem?_push, Array.getElem?_push]
  by_cases h : i = w.heap.size
  · subst h
    simp
  · simp [h]
    intro h2
    omega
theorem fold_set : ∀ (l : List Value) (k : Nat) (a : Array Value), k + l.length ≤ a.size → (l.zipIdx k).foldl (fun cs (p : Value × Nat) => cs.setIfInBounds (0 + p.2) p.1) a = (a.toList.take k ++ l ++ a.toList.drop (k + l.length)).toArray
  | [], k, a, h => by simp
  | v :: l, k, a, h => by
    rw [List.zipIdx_cons, List.foldl_cons, fold_set l (k + 1) _ (by simp at h ⊢; omega)]
    congr 1
    simp only [List.length_cons] at h
    have e : (a.setIfInBounds (0 + k) v).toList = a.toList.set k v := by rw [Nat.zero_add]; exact Array.toList_setIfInBounds
    have hk : k < a.toList.length := by rw [Array.length_toList]; omega
    rw [e, List.take_set, List.drop_set_of_lt (by omega), List.length_cons]
    have e2 : (a.toList.take (k + 1)).set k v = a.toList.take k ++ [v] := by
      rw [List.take_add_one, List.getElem?_eq_getElem hk, Option.toList_some, List.set_append_right _ _ (by rw [List.length_take]; omega), List.length_take, Nat.min_eq_left (by omega), Nat.sub_self]
      rfl
    rw [e2, show k + (l.length + 1) = k + 1 + l.length by omega]
    simp
theorem fill_one (z : Nat) (zs cells : Array Value) (h : cells.size = z) (hz : zs.size = z) : Instr.fill (fun i => some (i * z, z)) zs [(0, .agg cells)] = some cells := by
  have hc : (Value.agg cells).cells = cells := rfl
  unfold Instr.fill
  simp only [Nat.zero_mul, hc]
  rw [if_neg (by simp; omega)]
  unfold Instr.fill
  congr 1
  have e := fold_set cells.toList 0 zs (by rw [Array.length_toList]; omega)
  rw [← Array.foldl_toList, Array.toList_zipIdx]
  refine Eq.trans e ?_
  rw [Array.length_toList, List.take_zero, List.nil_append, List.drop_of_length_le (by rw [Array.length_toList]; omega), List.append_nil]
section
variable {P : Program}
/-- A slice literal of one record. -/
theorem wpList_build_one {ops : Array Oper} {rest : List Oper} {o : Oper} {a : Act} {w w1 : World} {Q : Exit → Act → World → Prop} (hg : o.guard = none) (t e : TypeId) (x : Operand) (ho : o.op = .buildSlice t 1 #[(0, x)])
    (cells : Array Value) (ie : TypeInfo) (z : Value) (n : Nat) (hx : a.eval x = .agg cells) (hn : cells.size = n) (hw : w.alloc (.cells cells e) = w1)
    (hu : P.underlying t = some (.slice e)) (hie : P.info? e = some ie) (hz : ie.zero = some z) (hs : ie.size = n) (hpos : 0 < n) (hsmall : n ≤ 1000)
    (h : wpList P ops Q rest (a.put o.dst (.slice (some ⟨w.heap.size, 0, none⟩) 1 1)) w1) : wpList P ops Q (o :: rest) a w := by
  refine wpList_buildSlice hg t e 1 _ ho cells ie z hu hie hz (by rw [hs]; omega) (by rw [hs]; omega) ?_ (by rw [hw]; exact h)
  have e1 : ((#[(0, x)] : Array (Nat × Operand)).map fun (i, x) => (i, a.eval x)).toList = [(0, .agg cells)] := by simp [hx]
  rw [e1, hs]
  exact fill_one n _ _ hn (by simp)
theorem run_loadVar_at (w : World) (R o : Nat) (ty : TypeId) (cs : Array Value) (d : TypeDesc) (hc : ∀ (j : Nat) (u : Value), cs.toList[j]? = some u → w.cell? ⟨R, o + j, none⟩ = some u)
    (hu : P.underlying ty = some d) (hd : (match d with | .struct _ | .array _ _ => true | _ => false) = true) (hi : (P.info? ty).map (·.size) = some cs.size) :
    (loadVar ty ⟨R, o, none⟩).run P w = .ok (.agg cs) w := by
  have hl : (loadCells ⟨R, o, none⟩ cs.toList.length).run P w = .ok cs.toList.toArray w :=
    run_loadCells_list (P := P) w ⟨R, o, none⟩ cs.toList (fun j v hv => by
      have hadd : (⟨R, o, none⟩ : Addr).add j = ⟨R, o + j, none⟩ := by unfold Addr.add; split <;> simp_all
      rw [hadd]
      exact hc j v hv)
  cases hq : P.info? ty with
  | none => simp [hq] at hi
  | some i =>
    have hs : i.size = cs.size := by simpa [hq] using hi
    have hagg : (isAgg ty).run P w = .ok true w := by
      unfold isAgg
      rw [Sem.run_bind, run_underlying hu w]
      cases d <;> simp_all
    simp only [Array.length_toList, Array.toArray_toList] at hl
    simp [loadVar, Sem.run_bind, hagg, sizeOf, typeInfo, hq, hs, hl]
theorem wp_load_at {o : Oper} {a : Act} {w : World} {K : Act → World → Prop} {Q : Exit → Act → World → Prop} (ty : TypeId) (x : Operand) (ho : o.op = .load ty x)
    (R k : Nat) (hx : a.eval x = .pointer (some ⟨R, k, none⟩)) (cs : Array Value) (d : TypeDesc) (hc : ∀ (j : Nat) (u : Value), cs.toList[j]? = some u → w.cell? ⟨R, k + j, none⟩ = some u)
    (hu : P.underlying ty = some d) (hd : (match d with | .struct _ | .array _ _ => true | _ => false) = true) (hi : (P.info? ty).map (·.size) = some cs.size)
    (h : K (a.put o.dst (.agg cs)) w) : o.wp P a w K Q := by
  unfold Oper.wp execOp
  simp only [ho, hx, Instr.loadAt, Instr.sureAddr, Sem.run_bind, Sem.run_pure, Result.andThen_ok, run_loadVar_at w R k ty cs d hc hu hd hi]
  exact h
theorem wpList_load_at {ops : Array Oper} {rest : List Oper} {o : Oper} {a : Act} {w : World} {Q : Exit → Act → World → Prop} (hgd : o.guard = none) (ty : TypeId) (x : Operand) (ho : o.op = .load ty x)
    (R k : Nat) (hx : a.eval x = .pointer (some ⟨R, k, none⟩)) (cs : Array Value) (d : TypeDesc) (hc : ∀ (j : Nat) (u : Value), cs.toList[j]? = some u → w.cell? ⟨R, k + j, none⟩ = some u)
    (hu : P.underlying ty = some d) (hd : (match d with | .struct _ | .array _ _ => true | _ => false) = true) (hi : (P.info? ty).map (·.size) = some cs.size)
    (h : wpList P ops Q rest (a.put o.dst (.agg cs)) w) : wpList P ops Q (o :: rest) a w :=
  wpList_plain hgd fun _ hK => wp_load_at ty x ho R k hx cs d hc hu hd hi (hK _ _ h)
/-- A store of a whole record into the block that was made last. -/
theorem wpList_store_new {ops : Array Oper} {rest : List Oper} {o : Oper} {a : Act} {w : World} {Q : Exit → Act → World → Prop} (hgd : o.guard = none) (ty : TypeId) (x y : Operand) (ho : o.op = .store ty x y)
    (hd : o.dst = none) (T : TypeId) (zs cells : Array Value) (hx : a.eval x = .pointer (some ⟨w.heap.size, 0, none⟩)) (hy : a.eval y = .agg cells) (hi : (P.info? ty).map (·.size) = some cells.size)
    (hold : zs.size = cells.size) (h1 : cells.all (·.oneCell') = true)
    (h : wpList P ops Q rest a (w.alloc (.cells cells T))) : wpList P ops Q (o :: rest) a (w.alloc (.cells zs T)) := by
  refine wpList_store_row hgd ty x y ho w.heap.size cells hx hy T zs (Whole.made w T zs) hi hold h1 ?_
  rw [hd, alloc_setRow]
  exact h
/-- The same, the new world by a letter. -/
theorem wpList_store_let {ops : Array Oper} {rest : List Oper} {o : Oper} {a : Act} {w w1 : World} {Q : Exit → Act → World → Prop} (hgd : o.guard = none) (ty : TypeId) (x y : Operand) (ho : o.op = .store ty x y)
    (hd : o.dst = none) (T : TypeId) (zs cells : Array Value) (hw : w.alloc (.cells cells T) = w1) (hx : a.eval x = .pointer (some ⟨w.heap.size, 0, none⟩)) (hy : a.eval y = .agg cells) (hi : (P.info? ty).map (·.size) = some cells.size)
    (hold : zs.size = cells.size) (h1 : cells.all (·.oneCell') = true)
    (h : wpList P ops Q rest a w1) : wpList P ops Q (o :: rest) a (w.alloc (.cells zs T)) :=
  wpList_store_new hgd ty x y ho hd T zs cells hx hy hi hold h1 (by rw [hw]; exact h)
end
end Go.Proofs.Ytnjdnldoopgcpaa
/- A slice literal of two records. No program stands in it. -/
namespace Go.Proofs.Ytnjdnldoopgcpaa
open Go.RowKit

theorem fold_setO (o : Nat) : ∀ (l : List Value) (k : Nat) (a : Array Value), o + k + l.length ≤ a.size → (l.zipIdx k).foldl (fun cs (p : Value × Nat) => cs.setIfInBounds (o + p.2) p.1) a = (a.toList.take (o + k) ++ l ++ a.toList.drop (o + k + l.length)).toArray
  | [], k, a, h => by simp
  | v :: l, k, a, h => by
    rw [List.zipIdx_cons, List.foldl_cons, fold_setO o l (k + 1) _ (by simp at h ⊢; omega)]
    congr 1
    simp only [List.length_cons] at h
    have e : (a.setIfInBounds (o + k) v).toList = a.toList.set (o + k) v := Array.toList_setIfInBounds
    have hk : o + k < a.toList.length := by rw [Array.length_toList]; omega
    rw [e, List.take_set, List.drop_set_of_lt (by omega), List.length_cons, show o + (k + 1) = o + k + 1 by omega]
    have e2 : (a.toList.take (o + k + 1)).set (o + k) v = a.toList.take (o + k) ++ [v] := by
      rw [List.take_add_one, List.getElem?_eq_getElem hk, Option.toList_some, List.set_append_right _ _ (by rw [List.length_take]; omega), List.length_take, Nat.min_eq_left (by omega), Nat.sub_self]
      rfl
    rw [e2, show o + k + (l.length + 1) = o + k + 1 + l.length by omega]
    simp
theorem fill_two (z : Nat) (zs c1 c2 : Array Value) (h1 : c1.size = z) (h2 : c2.size = z) (hz : zs.size = 2 * z) : Instr.fill (fun i => some (i * z, z)) zs [(0, .agg c1), (1, .agg c2)] = some (c1 ++ c2) := by
  have hc : ∀ c : Array Value, (Value.agg c).cells = c := fun _ => rfl
  unfold Instr.fill
  simp only [Nat.zero_mul, hc]
  rw [if_neg (by simp; omega)]
  have e := fold_setO 0 c1.toList 0 zs (by rw [Array.length_toList]; omega)
  have e1 : c1.zipIdx.foldl (fun cs (p : Value × Nat) => cs.setIfInBounds (0 + p.2) p.1) zs = (c1.toList ++ zs.toList.drop z).toArray := by
    rw [← Array.foldl_toList, Array.toList_zipIdx]
    refine Eq.trans e ?_
    rw [Array.length_toList, Nat.zero_add, Nat.zero_add, List.take_zero, List.nil_append, h1]
  rw [e1]
  unfold Instr.fill
  simp only [Nat.one_mul, hc]
  rw [if_neg (by simp; omega)]
  unfold Instr.fill
  congr 1
  have e2 := fold_setO z c2.toList 0 (c1.toList ++ zs.toList.drop z).toArray (by simp; omega)
  rw [← Array.foldl_toList, Array.toList_zipIdx]
  refine Eq.trans e2 ?_
  rw [Array.length_toList, Nat.add_zero, h2]
  have e3 : (c1.toList ++ zs.toList.drop z).take z = c1.toList := List.take_left' (by rw [Array.length_toList]; exact h1)
  have e4 : (c1.toList ++ zs.toList.drop z).drop (z + z) = [] := List.drop_of_length_le (by simp; omega)
  rw [e3, e4, List.append_nil]
  simp
section
variable {P : Program}
theorem wpList_build_two {ops : Array Oper} {rest : List Oper} {o : Oper} {a : Act} {w w1 : World} {Q : Exit → Act → World → Prop} (hg : o.guard = none) (t e : TypeId) (x y : Operand) (ho : o.op = .buildSlice t 2 #[(0, x), (1, y)])
    (c1 c2 : Array Value) (ie : TypeInfo) (z : Value) (n : Nat) (hx : a.eval x = .agg c1) (hy : a.eval y = .agg c2) (hn : c1.size = n) (hn2 : c2.size = n) (hw : w.alloc (.cells (c1 ++ c2) e) = w1)
    (hu : P.underlying t = some (.slice e)) (hie : P.info? e = some ie) (hz : ie.zero = some z) (hs : ie.size = n) (hpos : 0 < n) (hsmall : n ≤ 1000)
    (h : wpList P ops Q rest (a.put o.dst (.slice (some ⟨w.heap.size, 0, none⟩) 2 2)) w1) : wpList P ops Q (o :: rest) a w := by
  refine wpList_buildSlice hg t e 2 _ ho (c1 ++ c2) ie z hu hie hz (by rw [hs]; omega) (by rw [hs]; omega) ?_ (by rw [hw]; exact h)
  have e1 : ((#[(0, x), (1, y)] : Array (Nat × Operand)).map fun (i, x) => (i, a.eval x)).toList = [(0, .agg c1), (1, .agg c2)] := by simp [hx, hy]
  rw [e1, hs]
  exact fill_two n _ _ _ hn hn2 (by simp)
end
end Go.Proofs.Ytnjdnldoopgcpaa
/- A row of records appended to a row of one's own. No program stands in it. -/
namespace Go.Proofs.Ytnjdnldoopgcpaa
open Go.RowKit

theorem row_news {w : World} {R o n c z : Nat} {cl : List (List Value)} (h : RowAt w (some ⟨R, o, none⟩) n c z cl) (hz : ∀ cs ∈ cl, cs.length = z) (hz0 : 0 < z) (j : Nat) (u : Value) (hu : cl.flatten[j]? = some u) : w.cell? ((⟨R, o, none⟩ : Addr).add j) = some u := by
  have hj : j < n * z := by
    have := (List.getElem?_eq_some_iff.1 hu).1
    rwa [flat_len cl hz, h.len] at this
  have hn : 0 < n := by
    rcases Nat.eq_zero_or_pos n with rfl | hp
    · simp at hj
    · exact hp
  obtain ⟨R', o', e, _, hc⟩ := h.at_ hn
  injection e with e
  injection e with e1 e2
  subst e1 e2
  have hi : j / z < cl.length := by rw [h.len]; exact Nat.div_lt_of_lt_mul (by rw [Nat.mul_comm]; exact hj)
  obtain ⟨cs, hcs⟩ : ∃ cs, cl[j / z]? = some cs := ⟨_, List.getElem?_eq_getElem hi⟩
  have hl := hz cs (List.mem_of_getElem? hcs)
  have hm : j % z < cs.length := by rw [hl]; exact Nat.mod_lt _ hz0
  obtain ⟨x, hx⟩ : ∃ x, cs[j % z]? = some x := ⟨_, List.getElem?_eq_getElem hm⟩
  have hat := hc (j / z) cs hcs (j % z) x hx
  have hr := flat_at cl (j / z) cs (j % z) x hz hcs hx
  have hdm : j / z * z + j % z = j := by rw [Nat.mul_comm]; exact Nat.div_add_mod j z
  rw [hdm] at hr
  rw [hr] at hu
  rw [gaddr_add rfl]
  have e3 : o + j / z * z + j % z = o + j := by omega
  rw [e3] at hat
  rw [hat, hu]
section
variable {P : Program}
theorem wp_none_row {o : Oper} {a : Act} {K : Act → World → Prop} {Q : Exit → Act → World → Prop} {W : World} (s x : Operand) (t : TypeId)
    (ho : o.op = .call { callee := .builtin .append, args := #[s, x], argTypes := #[t, t] })
    (base : Nat) (e : TypeId) (i : TypeInfo) (size : Nat) (ht : P.underlying t = some (.slice e)) (hi : P.info? e = some i) (v : Value) (n : Nat) (xs : List Value) (hs : a.eval s = v) (hown : W.ownsRow base e size v n xs) (hx : a.eval x = .slice none 0 0) (h : K (a.put o.dst v) W) : o.wp P a W K Q := by
  have hrun := run_append_owned_none (P := P) (w := W) base t o.type e i size ht hi v n xs hown
  unfold Oper.wp
  simp [execOp, ho, resolve, invoke, builtin, hs, hx, hrun, Result.andThen]
  exact h
theorem wpList_app_row {ops : Array Oper} {rest : List Oper} {o : Oper} {a : Act} {Q : Exit → Act → World → Prop} {w : World} (hgd : o.guard = none) (s x : Operand) (t : TypeId)
    (ho : o.op = .call { callee := .builtin .append, args := #[s, x], argTypes := #[t, t] })
    (base : Nat) (e : TypeId) (i : TypeInfo) (z : Value) (size bytes : Nat) (ht : P.underlying t = some (.slice e)) (hi : P.info? e = some i) (hz : i.zero = some z)
    (hsize : i.size = size) (hby : i.bytes = bytes) (hzs : z.cells.size = size) (hsz : 0 < size)
    (v : Value) (n : Nat) (xs : List Value) (hs : a.eval s = v) (hown : w.ownsRow base e size v n xs)
    (A : Option Addr) (m c : Nat) (cl : List (List Value)) (hx : a.eval x = .slice A m c) (hA : RowAt w A m c size cl) (hn0 : A = none → m = 0 ∧ c = 0) (hl : ∀ cs ∈ cl, cs.length = size) (h1 : ∀ cs ∈ cl, ∀ u ∈ cs, u.oneCell' = true)
    (h63 : n + m ≤ maxLen) (hbytes : (n + m) * bytes ≤ 140737488355328) (hbase : base ≤ w.heap.size)
    (h : ∀ v' w', w'.ownsRow base e size v' (n + m) (xs ++ cl.flatten) → w.grownBy w' v.ownBlock → wpList P ops Q rest (a.put o.dst v') w') : wpList P ops Q (o :: rest) a w := by
  cases A with
  | none =>
    obtain ⟨rfl, rfl⟩ := hn0 rfl
    obtain rfl : cl = [] := List.eq_nil_of_length_eq_zero hA.len
    have := h v w (by simpa using hown) (below_only (Below.refl _ _) _)
    exact wpList_plain hgd fun _ hK => wp_none_row s x t ho base e i size ht hi v n xs hs hown hx (hK _ _ this)
  | some ad =>
    have hnews : ∀ j u, cl.flatten[j]? = some u → w.cell? (ad.add j) = some u := by
      intro j u hu
      have hj : 0 < m := by
        have := (List.getElem?_eq_some_iff.1 hu).1
        rw [flat_len cl hl, hA.len] at this
        rcases Nat.eq_zero_or_pos m with rfl | hp
        · simp at this
        · exact hp
      obtain ⟨R, q, e, _⟩ := hA.at_ hj
      injection e with e
      subst e
      exact row_news hA hl hsz j u hu
    exact wpList_append_own _ hgd s x t ho base e i z size bytes ht hi hz hsize hby hzs hsz v n xs hs hown ad m c cl.flatten hx (by rw [flat_len cl hl, hA.len]) hnews (flat_one h1) h63 hbytes hbase (fun v' w' h2 h3 _ => h v' w' h2 h3)
end
theorem own_empty {w : World} {g base : Nat} {e : TypeId} {size : Nat} (h : Whole w g e #[]) (hb : base ≤ g) : w.ownsRow base e size (.slice (some ⟨g, 0, none⟩) 0 0) 0 [] :=
  ⟨by simp, .inr ⟨g, 0, #[], rfl, hb, h, by omega, by simp [maxLen], by simp, by simp⟩⟩
end Go.Proofs.Ytnjdnldoopgcpaa
/- What append answers lies in the old block or in a new one. -/
namespace Go.Proofs.Ytnjdnldoopgcpaa
open Go.RowKit
section
variable {P : Program}

theorem append_place (w : World) (base : Nat) (t ty e : TypeId) (i : TypeInfo) (z : Value) (ht : P.underlying t = some (.slice e)) (hi : P.info? e = some i) (hz : i.zero = some z)
    (v : Value) (n : Nat) (xs : List Value) (hown : w.ownsRow base e i.size v n xs) (ad : Addr) (m c : Nat) (news : List Value) (hl : news.length = m * i.size)
    (hnews : ∀ j u, news[j]? = some u → w.cell? (ad.add j) = some u) (h1 : ∀ u ∈ news, u.oneCell' = true) (hm : 0 < m) (h63 : n + m ≤ maxLen) (hbytes : (n + m) * i.bytes ≤ 140737488355328)
    (v' : Value) (w' : World) (hr : (Builtin.append_ #[t, t] ty #[v, .slice (some ad) m c]).run P w = .ok v' w') : v'.ownBlock = v.ownBlock ∨ v'.ownBlock = some w.heap.size := by
  have hml : maxLen ≤ 9223372036854775807 := by unfold maxLen; omega
  rcases hown.2 with ⟨rfl, rfl⟩ | ⟨g, cap, cur, rfl, hbg, hg, hnc, hcm, hcs, htake⟩
  · rw [run_append_nil (P := P) w t ty e i z ht hi hz ad m c news hl hnews hm (by omega) (by simp only [Nat.zero_add] at hbytes; omega)] at hr
    injection hr with h2 h3
    subst h2
    exact .inr rfl
  · by_cases hroom : n + m ≤ cap
    · have hfit : n * i.size + news.length ≤ cur.size := by rw [hl, hcs, ← Nat.add_mul]; exact Nat.mul_le_mul_right _ hroom
      rw [run_append_room (P := P) w t ty e i ht hi g n cap cur hg ad m c news hl hnews h1 hroom hfit] at hr
      injection hr with h2 h3
      subst h2
      exact .inl rfl
    · have holds : ∀ j u, xs[j]? = some u → w.cell? ((⟨g, 0, none⟩ : Addr).add j) = some u := hown.cells (g := g) rfl
      rw [run_append_grow (P := P) w t ty e i z ht hi hz ⟨g, 0, none⟩ n cap xs hown.1 holds ad m c news hl hnews (by omega) (by omega) (growslice_fits (by omega) hbytes)] at hr
      injection hr with h2 h3
      subst h2
      exact .inr rfl
theorem wpList_append_own_f {ops : Array Oper} {rest : List Oper} {o : Oper} {a : Act} {w : World} {Q : Exit → Act → World → Prop} (hgd : o.guard = none) (s x : Operand) (t : TypeId)
    (ho : o.op = .call { callee := .builtin .append, args := #[s, x], argTypes := #[t, t] })
    (base : Nat) (e : TypeId) (i : TypeInfo) (z : Value) (size bytes : Nat) (ht : P.underlying t = some (.slice e)) (hi : P.info? e = some i) (hz : i.zero = some z)
    (hsize : i.size = size) (hby : i.bytes = bytes) (hzs : z.cells.size = size) (hsz : 0 < size)
    (v : Value) (n : Nat) (xs : List Value) (hs : a.eval s = v) (hown : w.ownsRow base e size v n xs)
    (ad : Addr) (m c : Nat) (news : List Value) (hx : a.eval x = .slice (some ad) m c) (hl : news.length = m * size) (hnews : ∀ j u, news[j]? = some u → w.cell? (ad.add j) = some u) (h1 : ∀ u ∈ news, u.oneCell' = true)
    (hm : 0 < m) (h63 : n + m ≤ maxLen) (hbytes : (n + m) * bytes ≤ 140737488355328) (hbase : base ≤ w.heap.size)
    (h : ∀ v' w', w'.ownsRow base e size v' (n + m) (xs ++ news) → w.grownBy w' v.ownBlock → (v'.ownBlock = v.ownBlock ∨ v'.ownBlock = some w.heap.size) → wpList P ops Q rest (a.put o.dst v') w') : wpList P ops Q (o :: rest) a w := by
  obtain ⟨v', w', hr, h2, h3, -⟩ := run_append_own (P := P) w base t o.type e i z size bytes ht hi hz hsize hby hzs hsz v n xs hown ad m c news hl hnews h1 h63 hbytes hbase
  subst hsize hby
  have hp := append_place (P := P) w base t o.type e i z ht hi hz v n xs hown ad m c news hl hnews h1 hm h63 hbytes v' w' hr
  refine wpList_plain hgd fun _ hK => ?_
  unfold Oper.wp execOp
  simp only [ho, resolve, invoke, builtin, Sem.run_bind, Sem.run_pure, Result.andThen_ok, List.map_toArray, List.map_cons, List.map_nil, hs, hx, hr]
  exact hK _ _ (h v' w' h2 h3 hp)
theorem wp_append_own_f {o : Oper} {a : Act} {w : World} {K : Act → World → Prop} {Q : Exit → Act → World → Prop} (s x : Operand) (t : TypeId)
    (ho : o.op = .call { callee := .builtin .append, args := #[s, x], argTypes := #[t, t] })
    (base : Nat) (e : TypeId) (i : TypeInfo) (z : Value) (size bytes : Nat) (ht : P.underlying t = some (.slice e)) (hi : P.info? e = some i) (hz : i.zero = some z)
    (hsize : i.size = size) (hby : i.bytes = bytes) (hzs : z.cells.size = size) (hsz : 0 < size)
    (v : Value) (n : Nat) (xs : List Value) (hs : a.eval s = v) (hown : w.ownsRow base e size v n xs)
    (ad : Addr) (m c : Nat) (news : List Value) (hx : a.eval x = .slice (some ad) m c) (hl : news.length = m * size) (hnews : ∀ j u, news[j]? = some u → w.cell? (ad.add j) = some u) (h1 : ∀ u ∈ news, u.oneCell' = true)
    (hm : 0 < m) (h63 : n + m ≤ maxLen) (hbytes : (n + m) * bytes ≤ 140737488355328) (hbase : base ≤ w.heap.size)
    (h : ∀ v' w', w'.ownsRow base e size v' (n + m) (xs ++ news) → w.grownBy w' v.ownBlock → (v'.ownBlock = v.ownBlock ∨ v'.ownBlock = some w.heap.size) → K (a.put o.dst v') w') : o.wp P a w K Q := by
  obtain ⟨v', w', hr, h2, h3, -⟩ := run_append_own (P := P) w base t o.type e i z size bytes ht hi hz hsize hby hzs hsz v n xs hown ad m c news hl hnews h1 h63 hbytes hbase
  subst hsize hby
  have hp := append_place (P := P) w base t o.type e i z ht hi hz v n xs hown ad m c news hl hnews h1 hm h63 hbytes v' w' hr
  unfold Oper.wp execOp
  simp only [ho, resolve, invoke, builtin, Sem.run_bind, Sem.run_pure, Result.andThen_ok, List.map_toArray, List.map_cons, List.map_nil, hs, hx, hr]
  exact h v' w' h2 h3 hp
theorem wp_build_one {o : Oper} {a : Act} {w w1 : World} {K : Act → World → Prop} {Q : Exit → Act → World → Prop} (t e : TypeId) (x : Operand) (ho : o.op = .buildSlice t 1 #[(0, x)])
    (cells : Array Value) (ie : TypeInfo) (z : Value) (n : Nat) (hx : a.eval x = .agg cells) (hn : cells.size = n) (hw : w.alloc (.cells cells e) = w1)
    (hu : P.underlying t = some (.slice e)) (hie : P.info? e = some ie) (hz : ie.zero = some z) (hs : ie.size = n) (hpos : 0 < n) (hsmall : n ≤ 1000)
    (h : K (a.put o.dst (.slice (some ⟨w.heap.size, 0, none⟩) 1 1)) w1) : o.wp P a w K Q := by
  refine wp_buildSlice t e 1 _ ho cells ie z hu hie hz (by rw [hs]; omega) (by rw [hs]; omega) ?_ (by rw [hw]; exact h)
  have e1 : ((#[(0, x)] : Array (Nat × Operand)).map fun (i, x) => (i, a.eval x)).toList = [(0, .agg cells)] := by simp [hx]
  rw [e1, hs]
  exact fill_one n _ _ hn (by simp)
end
end Go.Proofs.Ytnjdnldoopgcpaa
