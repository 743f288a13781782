/- A region that draws its order, by an invariant: it holds at the start, each operation that may come up keeps it, and behind all it gives the post. No program stands in it. -/
import Derived.Test.YtdoliloiagfagaaDoorRegionC
namespace Go.Proofs.YtdoliloiagfagaaDoor
open Go

section
variable {P : Program} {ops : Array Oper} {Q : Exit → Act → World → Prop} {md : Region.Mode}

theorem countP_drop {α : Type} {p q : α → Bool} : ∀ (l : List α), (∀ x ∈ l, q x = true → p x = true) → l.countP q ≤ l.countP p
  | [], _ => Nat.le_refl _
  | a :: l, h => by
    have ih := countP_drop l (fun x hx => h x (List.mem_cons_of_mem _ hx))
    rw [List.countP_cons, List.countP_cons]
    cases hq : q a
    · simp; omega
    · rw [h a (List.mem_cons_self ..) hq]; simp; omega
theorem countP_less {α : Type} {p q : α → Bool} : ∀ (l : List α), (∀ x ∈ l, q x = true → p x = true) → (∃ x ∈ l, p x = true ∧ q x = false) → l.countP q < l.countP p
  | [], _, ⟨_, h, _⟩ => by cases h
  | a :: l, h, ⟨x, hx, hp, hq⟩ => by
    have ih := countP_drop l (fun x hx => h x (List.mem_cons_of_mem _ hx))
    rw [List.countP_cons, List.countP_cons]
    rcases List.mem_cons.1 hx with rfl | hx
    · rw [hp, hq]; simp; omega
    · have ih2 := countP_less l (fun x hx => h x (List.mem_cons_of_mem _ hx)) ⟨x, hx, hp, hq⟩
      cases hqa : q a
      · simp; omega
      · rw [h a (List.mem_cons_self ..) hqa]; simp; omega

/-- How many have not come up. -/
def leftOf (ops : Array Oper) (listed : Array Bool) : Nat := (List.range ops.size).countP fun i => !(listed.getD i true)
theorem leftOf_set {i : Nat} {listed : Array Bool} (h : i ∈ Region.ready md ops listed) : leftOf ops (listed.setIfInBounds i true) < leftOf ops listed := by
  obtain ⟨hun, o, ho, -⟩ := mem_ready.1 h
  refine countP_less _ (fun x _ hx => ?_) ⟨i, List.mem_range.2 (lt_of_at ho), by rw [hun]; rfl, by rw [set_self]; rfl⟩
  by_cases hxi : i = x
  · subst hxi; rw [set_self] at hx; cases hx
  · rw [getD_set_ne true hxi] at hx; exact hx

theorem wpAny_inv (Inv : Array Bool → Act → World → Prop)
    (hstep : ∀ i o listed a w, ops[i]? = some o → i ∈ Region.ready md ops listed → Inv listed a w → wpOp P ops Q i (fun a' w' => Inv (listed.setIfInBounds i true) a' w') a w)
    (hend : ∀ listed a w, Region.ready md ops listed = [] → Inv listed a w → Q .normal a w) :
    ∀ (fuel : Nat) (listed : Array Bool) (a : Act) (w : World), leftOf ops listed ≤ fuel → Inv listed a w → wpAny P md ops Q fuel listed a w := by
  intro fuel
  induction fuel with
  | zero =>
    intro listed a w hl hI
    have hr : Region.ready md ops listed = [] := by
      cases hh : Region.ready md ops listed with
      | nil => rfl
      | cons i r =>
        have hi : i ∈ Region.ready md ops listed := by rw [hh]; exact List.mem_cons_self ..
        have := leftOf_set hi
        omega
    exact ⟨hr, hend _ _ _ hr hI⟩
  | succ fuel ih =>
    intro listed a w hl hI
    refine ⟨fun hr => hend _ _ _ hr hI, fun i hi => ?_⟩
    obtain ⟨hun, o, ho, hall⟩ := mem_ready.1 hi
    have := leftOf_set hi
    exact wpOp_mono (fun a' w' h' => ih _ a' w' (by omega) h') (hstep i o listed a w ho hi hI)

theorem wp_region_inv (Inv : Array Bool → Act → World → Prop) {id : Nat} {a : Act} {w : World} (hm : P.follows .mixedOrders = true)
    (h0 : Inv (Array.replicate ops.size false) a w.drew)
    (hstep : ∀ i o listed a w, ops[i]? = some o → i ∈ Region.ready .any ops listed → Inv listed a w → wpOp P ops Q i (fun a' w' => Inv (listed.setIfInBounds i true) a' w') a w)
    (hend : ∀ listed a w, Region.ready .any ops listed = [] → Inv listed a w → Q .normal a w) : (Code.region id ops true).wp P Q a w := by
  refine wp_region_any hm (wpAny_inv Inv hstep hend _ _ _ _ ?_ h0)
  have h := List.countP_le_length (p := fun i => !((Array.replicate ops.size false).getD i true)) (l := List.range ops.size)
  simpa [leftOf] using h

/-- Number k has come up. -/
def On (listed : Array Bool) (k : Nat) : Prop := listed.getD k false = true
theorem on_set {listed : Array Bool} {i k : Nat} (h : On (listed.setIfInBounds i true) k) : k = i ∨ On listed k := by
  by_cases hk : i = k
  · exact .inl hk.symm
  · right; unfold On at h ⊢; rw [getD_set_ne false hk] at h; exact h
theorem on_old {listed : Array Bool} {i k : Nat} (hk : k ≠ i) (h : On (listed.setIfInBounds i true) k) : On listed k := (on_set h).resolve_left hk
theorem off_old {listed : Array Bool} {i k : Nat} (hk : k ≠ i) (h : ¬ On (listed.setIfInBounds i true) k) : ¬ On listed k := fun h' => h (by
  unfold On at h' ⊢; rw [getD_set_ne false (Ne.symm hk)]; exact h')
theorem on_new {listed : Array Bool} {i : Nat} (h : listed.getD i true = false) : On (listed.setIfInBounds i true) i := by
  rcases Nat.lt_or_ge i listed.size with h' | h'
  · unfold On; simp [h']
  · simp [Array.getElem?_eq_none h'] at h
theorem off_of {listed : Array Bool} {i : Nat} (h : listed.getD i true = false) : ¬ On listed i := by
  unfold On; rw [getD_both h]; simp
theorem on_none {n k : Nat} : ¬ On (Array.replicate n false) k := by unfold On; rw [getD_replicate_false]; simp

theorem drop_of_at {i : Nat} {o : Oper} (h : ops[i]? = some o) : ops.toList.drop i = o :: ops.toList.drop (i + 1) := by
  have hi := lt_of_at h
  rw [List.drop_eq_getElem_cons (by simpa using hi)]
  congr 1
  have : ops[i]? = some ops[i] := Array.getElem?_eq_getElem hi
  rw [this] at h
  simpa using Option.some.inj h

/-- Each waits for earlier ones alone. -/
def backB (ops : Array Oper) : Bool := (List.range ops.size).all fun i => match ops[i]? with
  | some o => o.after.all fun e => decide (e.on < i)
  | none => true
theorem all_on {listed : Array Bool} (hb : backB ops = true) (hs : listed.size = ops.size) (hr : Region.ready md ops listed = []) : ∀ n i, i < n → i < ops.size → On listed i := by
  intro n
  induction n with
  | zero => intro i h; omega
  | succ n ih =>
    intro i hin hi
    refine Classical.byContradiction fun hn => ?_
    have ho : ops[i]? = some ops[i] := Array.getElem?_eq_getElem hi
    have hk := List.all_eq_true.1 hb i (List.mem_range.2 hi)
    rw [ho] at hk
    have hun : listed.getD i true = false := by
      unfold On at hn
      have hi' : i < listed.size := by omega
      simp [hi'] at hn ⊢
      exact hn
    have : i ∈ Region.ready md ops listed := mem_ready.2 ⟨hun, ops[i], ho, fun e he hb' => ih e.on (by
      have := Array.all_eq_true'.1 hk e he
      have := of_decide_eq_true this
      omega) (by
      have := Array.all_eq_true'.1 hk e he
      have := of_decide_eq_true this
      omega)⟩
    rw [hr] at this
    cases this

/-- The same; each operation is handed over written out, with what it waits for. -/
theorem wp_region_inv2 (Inv : Array Bool → Act → World → Prop) {id : Nat} {a : Act} {w : World} (hm : P.follows .mixedOrders = true) (hback : backB ops = true)
    (h0 : Inv (Array.replicate ops.size false) a w.drew)
    (hstep : ∀ i o r listed a w, ops.toList.drop i = o :: r → i < ops.size → listed.getD i true = false → (∀ e ∈ o.after, Region.binds .any e = true → On listed e.on) → Inv listed a w →
      ∀ K : Act → World → Prop, Shut (∀ a' w', Inv (listed.setIfInBounds i true) a' w' → K a' w') → if Region.wanted o (yielded ops a.tmps) = true then Oper.wp P o a w K Q else K (a.put o.dst undef) w)
    (hend : ∀ listed a w, (∀ i < ops.size, On listed i) → Inv listed a w → Q .normal a w) : (Code.region id ops true).wp P Q a w := by
  refine wp_region_inv (fun l a w => l.size = ops.size ∧ Inv l a w) hm ⟨by simp, h0⟩ (fun i o listed a w ho hr hI => ?_) (fun listed a w hr hI => hend listed a w (fun i hi => all_on hback hI.1 hr (i + 1) i (by omega) hi) hI.2)
  obtain ⟨hun, o', ho', hall⟩ := mem_ready.1 hr
  obtain rfl : o = o' := Option.some.inj (ho.symm.trans ho')
  exact wpOp_step ho (fun K hK => hstep i o _ listed a w (drop_of_at ho) (lt_of_at ho) hun hall hI.2 K (fun a' w' h => hK a' w' ⟨by simp [hI.1], h⟩))
end
end Go.Proofs.YtdoliloiagfagaaDoor
