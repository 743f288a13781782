/- A slice literal of two records. No program stands in it. -/
import Derived.Test.YtdlmhienolmncaaGreatRowW
import Derived.Laws.AppendOwnNone
import Derived.Laws.OwnMore
namespace Go.Proofs.YtdlmhienolmncaaGreat
open Go.RowKit

theorem fold_setO (o : Nat) : ∀ (l : List Value) (k : Nat) (a : Array Value), o + k + l.length ≤ a.size → (l.zipIdx k).foldl (fun cs (p : Value × Nat) => cs.setIfInBounds (o + p.2) p.1) a = (a.toList.take (o + k) ++ l ++ a.toList.drop (o + k + l.length)).toArray
  | [], k, a, h => by simp
  | v :: l, k, a, h => by
    rw [List.zipIdx_cons, List.foldl_cons, fold_setO o l (k + 1) _ (by simp at h ⊢; omega)]
    congr 1
    simp only [List.length_cons] at h
    have e : (a.setIfInBounds (o + k) v).toList = a.toList.set (o + k) v := Array.toList_setIfInBounds
    have hk : o + k < a.toList.length := by rw [Array.length_toList]; omega
    rw [e, List.take_set, List.drop_set_of_lt (by omega), List.length_cons, show o + (k + 1) = o + k + 1 by omega]
    have e2 : (a.toList.take (o + k + 1)).set (o + k) v = a.toList.take (o + k) ++ [v] := by
      rw [List.take_add_one, List.getElem?_eq_getElem hk, Option.toList_some, List.set_append_right _ _ (by rw [List.length_take]; omega), List.length_take, Nat.min_eq_left (by omega), Nat.sub_self]
      rfl
    rw [e2, show o + k + (l.length + 1) = o + k + 1 + l.length by omega]
    simp
theorem fill_two (z : Nat) (zs c1 c2 : Array Value) (h1 : c1.size = z) (h2 : c2.size = z) (hz : zs.size = 2 * z) : Instr.fill (fun i => some (i * z, z)) zs [(0, .agg c1), (1, .agg c2)] = some (c1 ++ c2) := by
  have hc : ∀ c : Array Value, (Value.agg c).cells = c := fun _ => rfl
  unfold Instr.fill
  simp only [Nat.zero_mul, hc]
  rw [if_neg (by simp; omega)]
  have e := fold_setO 0 c1.toList 0 zs (by rw [Array.length_toList]; omega)
  have e1 : c1.zipIdx.foldl (fun cs (p : Value × Nat) => cs.setIfInBounds (0 + p.2) p.1) zs = (c1.toList ++ zs.toList.drop z).toArray := by
    rw [← Array.foldl_toList, Array.toList_zipIdx]
    refine Eq.trans e ?_
    rw [Array.length_toList, Nat.zero_add, Nat.zero_add, List.take_zero, List.nil_append, h1]
  rw [e1]
  unfold Instr.fill
  simp only [Nat.one_mul, hc]
  rw [if_neg (by simp; omega)]
  unfold Instr.fill
  congr 1
  have e2 := fold_setO z c2.toList 0 (c1.toList ++ zs.toList.drop z).toArray (by simp; omega)
  rw [← Array.foldl_toList, Array.toList_zipIdx]
  refine Eq.trans e2 ?_
  rw [Array.length_toList, Nat.add_zero, h2]
  have e3 : (c1.toList ++ zs.toList.drop z).take z = c1.toList := List.take_left' (by rw [Array.length_toList]; exact h1)
  have e4 : (c1.toList ++ zs.toList.drop z).drop (z + z) = [] := List.drop_of_length_le (by simp; omega)
  rw [e3, e4, List.append_nil]
  simp
section
variable {P : Program}
theorem wpList_build_two {ops : Array Oper} {rest : List Oper} {o : Oper} {a : Act} {w w1 : World} {Q : Exit → Act → World → Prop} (hg : o.guard = none) (t e : TypeId) (x y : Operand) (ho : o.op = .buildSlice t 2 #[(0, x), (1, y)])
    (c1 c2 : Array Value) (ie : TypeInfo) (z : Value) (n : Nat) (hx : a.eval x = .agg c1) (hy : a.eval y = .agg c2) (hn : c1.size = n) (hn2 : c2.size = n) (hw : w.alloc (.cells (c1 ++ c2) e) = w1)
    (hu : P.underlying t = some (.slice e)) (hie : P.info? e = some ie) (hz : ie.zero = some z) (hs : ie.size = n) (hpos : 0 < n) (hsmall : n ≤ 1000)
    (h : wpList P ops Q rest (a.put o.dst (.slice (some ⟨w.heap.size, 0, none⟩) 2 2)) w1) : wpList P ops Q (o :: rest) a w := by
  refine wpList_buildSlice hg t e 2 _ ho (c1 ++ c2) ie z hu hie hz (by rw [hs]; omega) (by rw [hs]; omega) ?_ (by rw [hw]; exact h)
  have e1 : ((#[(0, x), (1, y)] : Array (Nat × Operand)).map fun (i, x) => (i, a.eval x)).toList = [(0, .agg c1), (1, .agg c2)] := by simp [hx, hy]
  rw [e1, hs]
  exact fill_two n _ _ _ hn hn2 (by simp)
end
end Go.Proofs.YtdlmhienolmncaaGreat
/- A row of records appended to a row of one's own. No program stands in it. -/
namespace Go.Proofs.YtdlmhienolmncaaGreat
open Go.RowKit

theorem row_news {w : World} {R o n c z : Nat} {cl : List (List Value)} (h : RowAt w (some ⟨R, o, none⟩) n c z cl) (hz : ∀ cs ∈ cl, cs.length = z) (hz0 : 0 < z) (j : Nat) (u : Value) (hu : cl.flatten[j]? = some u) : w.cell? ((⟨R, o, none⟩ : Addr).add j) = some u := by
  have hj : j < n * z := by
    have := (List.getElem?_eq_some_iff.1 hu).1
    rwa [flat_len cl hz, h.len] at this
  have hn : 0 < n := by
    rcases Nat.eq_zero_or_pos n with rfl | hp
    · simp at hj
    · exact hp
  obtain ⟨R', o', e, _, hc⟩ := h.at_ hn
  injection e with e
  injection e with e1 e2
  subst e1 e2
  have hi : j / z < cl.length := by rw [h.len]; exact Nat.div_lt_of_lt_mul (by rw [Nat.mul_comm]; exact hj)
  obtain ⟨cs, hcs⟩ : ∃ cs, cl[j / z]? = some cs := ⟨_, List.getElem?_eq_getElem hi⟩
  have hl := hz cs (List.mem_of_getElem? hcs)
  have hm : j % z < cs.length := by rw [hl]; exact Nat.mod_lt _ hz0
  obtain ⟨x, hx⟩ : ∃ x, cs[j % z]? = some x := ⟨_, List.getElem?_eq_getElem hm⟩
  have hat := hc (j / z) cs hcs (j % z) x hx
  have hr := flat_at cl (j / z) cs (j % z) x hz hcs hx
  have hdm : j / z * z + j % z = j := by rw [Nat.mul_comm]; exact Nat.div_add_mod j z
  rw [hdm] at hr
  rw [hr] at hu
  rw [gaddr_add rfl]
  have e3 : o + j / z * z + j % z = o + j := by omega
  rw [e3] at hat
  rw [hat, hu]
section
variable {P : Program}
theorem wp_none_row {o : Oper} {a : Act} {K : Act → World → Prop} {Q : Exit → Act → World → Prop} {W : World} (s x : Operand) (t : TypeId)
    (ho : o.op = .call { callee := .builtin .append, args := #[s, x], argTypes := #[t, t] })
    (base : Nat) (e : TypeId) (i : TypeInfo) (size : Nat) (ht : P.underlying t = some (.slice e)) (hi : P.info? e = some i) (v : Value) (n : Nat) (xs : List Value) (hs : a.eval s = v) (hown : W.ownsRow base e size v n xs) (hx : a.eval x = .slice none 0 0) (h : K (a.put o.dst v) W) : o.wp P a W K Q := by
  have hrun := run_append_owned_none (P := P) (w := W) base t o.type e i size ht hi v n xs hown
  unfold Oper.wp
  simp [execOp, ho, resolve, invoke, builtin, hs, hx, hrun, Result.andThen]
  exact h
theorem wpList_app_row {ops : Array Oper} {rest : List Oper} {o : Oper} {a : Act} {Q : Exit → Act → World → Prop} {w : World} (hgd : o.guard = none) (s x : Operand) (t : TypeId)
    (ho : o.op = .call { callee := .builtin .append, args := #[s, x], argTypes := #[t, t] })
    (base : Nat) (e : TypeId) (i : TypeInfo) (z : Value) (size bytes : Nat) (ht : P.underlying t = some (.slice e)) (hi : P.info? e = some i) (hz : i.zero = some z)
    (hsize : i.size = size) (hby : i.bytes = bytes) (hzs : z.cells.size = size) (hsz : 0 < size)
    (v : Value) (n : Nat) (xs : List Value) (hs : a.eval s = v) (hown : w.ownsRow base e size v n xs)
    (A : Option Addr) (m c : Nat) (cl : List (List Value)) (hx : a.eval x = .slice A m c) (hA : RowAt w A m c size cl) (hn0 : A = none → m = 0 ∧ c = 0) (hl : ∀ cs ∈ cl, cs.length = size) (h1 : ∀ cs ∈ cl, ∀ u ∈ cs, u.oneCell' = true)
    (h63 : n + m ≤ maxLen) (hbytes : (n + m) * bytes ≤ 140737488355328) (hbase : base ≤ w.heap.size)
    (h : ∀ v' w', w'.ownsRow base e size v' (n + m) (xs ++ cl.flatten) → w.grownBy w' v.ownBlock → wpList P ops Q rest (a.put o.dst v') w') : wpList P ops Q (o :: rest) a w := by
  cases A with
  | none =>
    obtain ⟨rfl, rfl⟩ := hn0 rfl
    obtain rfl : cl = [] := List.eq_nil_of_length_eq_zero hA.len
    have := h v w (by simpa using hown) (below_only (Below.refl _ _) _)
    exact wpList_plain hgd fun _ hK => wp_none_row s x t ho base e i size ht hi v n xs hs hown hx (hK _ _ this)
  | some ad =>
    have hnews : ∀ j u, cl.flatten[j]? = some u → w.cell? (ad.add j) = some u := by
      intro j u hu
      have hj : 0 < m := by
        have := (List.getElem?_eq_some_iff.1 hu).1
        rw [flat_len cl hl, hA.len] at this
        rcases Nat.eq_zero_or_pos m with rfl | hp
        · simp at this
        · exact hp
      obtain ⟨R, q, e, _⟩ := hA.at_ hj
      injection e with e
      subst e
      exact row_news hA hl hsz j u hu
    exact wpList_append_own _ hgd s x t ho base e i z size bytes ht hi hz hsize hby hzs hsz v n xs hs hown ad m c cl.flatten hx (by rw [flat_len cl hl, hA.len]) hnews (flat_one h1) h63 hbytes hbase (fun v' w' h2 h3 _ => h v' w' h2 h3)
end
theorem own_empty {w : World} {g base : Nat} {e : TypeId} {size : Nat} (h : Whole w g e #[]) (hb : base ≤ g) : w.ownsRow base e size (.slice (some ⟨g, 0, none⟩) 0 0) 0 [] :=
  ⟨by simp, .inr ⟨g, 0, #[], rfl, hb, h, by omega, by simp [maxLen], by simp, by simp⟩⟩
end Go.Proofs.YtdlmhienolmncaaGreat
