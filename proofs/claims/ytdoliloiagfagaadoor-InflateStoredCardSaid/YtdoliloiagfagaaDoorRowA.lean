/- A row of records appended to a row of one's own. No program stands in it. -/
import Derived.Test.YtdoliloiagfagaaDoorRowX
import Derived.Laws.AppendOwnNone
import Derived.Laws.OwnMore
namespace Go.Proofs.YtdoliloiagfagaaDoor
open Go.RowKit

theorem row_news {w : World} {R o n c z : Nat} {cl : List (List Value)} (h : RowAt w (some ⟨R, o, none⟩) n c z cl) (hz : ∀ cs ∈ cl, cs.length = z) (hz0 : 0 < z) (j : Nat) (u : Value) (hu : cl.flatten[j]? = some u) : w.cell? ((⟨R, o, none⟩ : Addr).add j) = some u := by
  have hj : j < n * z := by
    have := (List.getElem?_eq_some_iff.1 hu).1
    rwa [flat_len cl hz, h.len] at this
  have hn : 0 < n := by
    rcases Nat.eq_zero_or_pos n with rfl | hp
    · simp at hj
    · exact hp
  obtain ⟨R', o', e, _, hc⟩ := h.at_ hn
  injection e with e
  injection e with e1 e2
  subst e1 e2
  have hi : j / z < cl.length := by rw [h.len]; exact Nat.div_lt_of_lt_mul (by rw [Nat.mul_comm]; exact hj)
  obtain ⟨cs, hcs⟩ : ∃ cs, cl[j / z]? = some cs := ⟨_, List.getElem?_eq_getElem hi⟩
  have hl := hz cs (List.mem_of_getElem? hcs)
  have hm : j % z < cs.length := by rw [hl]; exact Nat.mod_lt _ hz0
  obtain ⟨x, hx⟩ : ∃ x, cs[j % z]? = some x := ⟨_, List.getElem?_eq_getElem hm⟩
  have hat := hc (j / z) cs hcs (j % z) x hx
  have hr := flat_at cl (j / z) cs (j % z) x hz hcs hx
  have hdm : j / z * z + j % z = j := by rw [Nat.mul_comm]; exact Nat.div_add_mod j z
  rw [hdm] at hr
  rw [hr] at hu
  rw [gaddr_add rfl]
  have e3 : o + j / z * z + j % z = o + j := by omega
  rw [e3] at hat
  rw [hat, hu]
section
variable {P : Program}
theorem wp_none_row {o : Oper} {a : Act} {K : Act → World → Prop} {Q : Exit → Act → World → Prop} {W : World} (s x : Operand) (t : TypeId)
    (ho : o.op = .call { callee := .builtin .append, args := #[s, x], argTypes := #[t, t] })
    (base : Nat) (e : TypeId) (i : TypeInfo) (size : Nat) (ht : P.underlying t = some (.slice e)) (hi : P.info? e = some i) (v : Value) (n : Nat) (xs : List Value) (hs : a.eval s = v) (hown : W.ownsRow base e size v n xs) (hx : a.eval x = .slice none 0 0) (h : K (a.put o.dst v) W) : o.wp P a W K Q := by
  have hrun := run_append_owned_none (P := P) (w := W) base t o.type e i size ht hi v n xs hown
  unfold Oper.wp
  simp [execOp, ho, resolve, invoke, builtin, hs, hx, hrun, Result.andThen]
  exact h
theorem wpList_app_row {ops : Array Oper} {rest : List Oper} {o : Oper} {a : Act} {Q : Exit → Act → World → Prop} {w : World} (hgd : o.guard = none) (s x : Operand) (t : TypeId)
    (ho : o.op = .call { callee := .builtin .append, args := #[s, x], argTypes := #[t, t] })
    (base : Nat) (e : TypeId) (i : TypeInfo) (z : Value) (size bytes : Nat) (ht : P.underlying t = some (.slice e)) (hi : P.info? e = some i) (hz : i.zero = some z)
    (hsize : i.size = size) (hby : i.bytes = bytes) (hzs : z.cells.size = size) (hsz : 0 < size)
    (v : Value) (n : Nat) (xs : List Value) (hs : a.eval s = v) (hown : w.ownsRow base e size v n xs)
    (A : Option Addr) (m c : Nat) (cl : List (List Value)) (hx : a.eval x = .slice A m c) (hA : RowAt w A m c size cl) (hn0 : A = none → m = 0 ∧ c = 0) (hl : ∀ cs ∈ cl, cs.length = size) (h1 : ∀ cs ∈ cl, ∀ u ∈ cs, u.oneCell' = true)
    (h63 : n + m ≤ maxLen) (hbytes : (n + m) * bytes ≤ 140737488355328) (hbase : base ≤ w.heap.size)
    (h : ∀ v' w', w'.ownsRow base e size v' (n + m) (xs ++ cl.flatten) → w.grownBy w' v.ownBlock → wpList P ops Q rest (a.put o.dst v') w') : wpList P ops Q (o :: rest) a w := by
  cases A with
  | none =>
    obtain ⟨rfl, rfl⟩ := hn0 rfl
    obtain rfl : cl = [] := List.eq_nil_of_length_eq_zero hA.len
    have := h v w (by simpa using hown) (below_only (Below.refl _ _) _)
    exact wpList_plain hgd fun _ hK => wp_none_row s x t ho base e i size ht hi v n xs hs hown hx (hK _ _ this)
  | some ad =>
    have hnews : ∀ j u, cl.flatten[j]? = some u → w.cell? (ad.add j) = some u := by
      intro j u hu
      have hj : 0 < m := by
        have := (List.getElem?_eq_some_iff.1 hu).1
        rw [flat_len cl hl, hA.len] at this
        rcases Nat.eq_zero_or_pos m with rfl | hp
        · simp at this
        · exact hp
      obtain ⟨R, q, e, _⟩ := hA.at_ hj
      injection e with e
      subst e
      exact row_news hA hl hsz j u hu
    exact wpList_append_own _ hgd s x t ho base e i z size bytes ht hi hz hsize hby hzs hsz v n xs hs hown ad m c cl.flatten hx (by rw [flat_len cl hl, hA.len]) hnews (flat_one h1) h63 hbytes hbase (fun v' w' h2 h3 _ => h v' w' h2 h3)
end
theorem own_empty {w : World} {g base : Nat} {e : TypeId} {size : Nat} (h : Whole w g e #[]) (hb : base ≤ g) : w.ownsRow base e size (.slice (some ⟨g, 0, none⟩) 0 0) 0 [] :=
  ⟨by simp, .inr ⟨g, 0, #[], rfl, hb, h, by omega, by simp [maxLen], by simp, by simp⟩⟩
end Go.Proofs.YtdoliloiagfagaaDoor
