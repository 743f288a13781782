/- A region that draws its order, whose last operations store into cells that its loads read: a condition on the world that is asked only as long as one operation (the first store) has not come up. No program stands in it. -/
import Derived.Deep.RegionHeld3
import Derived.StillTail
namespace Go.Proofs.Ytnjdnldoopgcpaa
open Go

section
variable {P : Program} {ops : Array Oper} {Q : Exit → Act → World → Prop} {md : Region.Mode} {s : Nat} {C : World → Prop}

/-- Whatever order is picked, and C holds behind every operation up to number s. -/
def wpAnyS (P : Program) (md : Region.Mode) (ops : Array Oper) (Q : Exit → Act → World → Prop) (s : Nat) (C : World → Prop) : Nat → Array Bool → Act → World → Prop
  | 0, listed, a, w => Region.ready md ops listed = [] ∧ Q .normal a w
  | fuel + 1, listed, a, w =>
    (Region.ready md ops listed = [] → Q .normal a w) ∧
    ∀ i ∈ Region.ready md ops listed, wpOp P ops Q i (fun a' w' => (i ≠ s → listed.getD s true = false → C w') ∧ wpAnyS P md ops Q s C fuel (listed.setIfInBounds i true) a' w') a w

theorem wpAny_of_S : ∀ (fuel : Nat) (listed : Array Bool) (a : Act) (w : World), wpAnyS P md ops Q s C fuel listed a w → wpAny P md ops Q fuel listed a w
  | 0, _, _, _, h => h
  | fuel + 1, _, _, _, h => ⟨h.1, fun i hi => wpOp_mono (fun a' w' h' => wpAny_of_S fuel _ a' w' h'.2) (h.2 i hi)⟩

/-- Number s waits for number i, or for one that waits for it. -/
def waits2 (md : Region.Mode) (ops : Array Oper) (s i : Nat) : Bool := Region.waitsFor md ops s i || (List.range ops.size).any fun m => Region.waitsFor md ops s m && Region.waitsFor md ops m i
theorem lt_of_at {j : Nat} {o : Oper} (h : ops[j]? = some o) : j < ops.size := by
  rcases Nat.lt_or_ge j ops.size with h' | h'
  · exact h'
  · rw [Array.getElem?_eq_none h'] at h; cases h
/-- Those that have come up came up behind those that they wait for. -/
def closedB (md : Region.Mode) (ops : Array Oper) (listed : Array Bool) : Bool :=
  (listed.size == ops.size) && (List.range ops.size).all fun j => !(listed.getD j false) || match ops[j]? with
    | some oj => oj.after.all fun e => !(Region.binds md e) || listed.getD e.on false
    | none => true
theorem inv_of {listed : Array Bool} (h : closedB md ops listed = true) : HeadInv md ops ops.size listed := by
  unfold closedB at h
  rw [Bool.and_eq_true, beq_iff_eq, List.all_eq_true] at h
  refine ⟨h.1, fun j oj hj hl e he hb => ?_, fun t h1 h2 => absurd h1 (by omega)⟩
  have k := h.2 j (List.mem_range.2 (lt_of_at hj))
  rw [hl, hj] at k
  simp only [Bool.not_true, Bool.false_or] at k
  have k2 := Array.all_eq_true'.1 k e he
  rw [hb] at k2
  simpa using k2

theorem wpAnyS_first {i : Nat} {oi : Oper} {v : Value} (hi : ops[i]? = some oi) (hsel : ∀ (j : Nat) (o : Oper) cs b, ops[j]? = some o → o.op ≠ .select cs b)
    (hQ : ∀ c a w, Q (.panic c) (a.put oi.dst v) w → Q (.panic c) a w) (hw : waits2 md ops s i = true) (his : i ≠ s) :
    ∀ (fuel : Nat) (listed : Array Bool) (a : Act) (w : World),
      (∀ j oj, ops[j]? = some oj → j ≠ i → listed.getD j true = false → (∀ e ∈ oj.after, Region.binds md e = true → e.on ≠ i) → oi.apart ops oj = true) →
      i ∈ Region.ready md ops listed → YieldsIf P ops C oi v a → C w → listed.getD s true = false → HeadInv md ops ops.size listed →
      wpAnyS P md ops Q s C fuel (listed.setIfInBounds i true) (a.put oi.dst v) w → wpAnyS P md ops Q s C (fuel + 1) listed a w := by
  intro fuel
  induction fuel with
  | zero =>
    intro listed a w _ hr hy hC _ _ H
    refine ⟨fun h => (by rw [h] at hr; cases hr), fun j hj => ?_⟩
    by_cases hji : j = i
    · subst hji; exact hy.wpOp hi hC ⟨fun _ _ => hC, H⟩
    · have := ready_mono hj hji
      rw [H.1] at this
      cases this
  | succ fuel ih =>
    intro listed a w hfree hr hy hC hs hinv H
    refine ⟨fun h => (by rw [h] at hr; cases hr), fun j hj => ?_⟩
    by_cases hji : j = i
    · subst hji; exact hy.wpOp hi hC ⟨fun _ _ => hC, H⟩
    · have h1 := H.2 j (ready_mono hj hji)
      obtain ⟨hjun, oj, hoj, hall⟩ := mem_ready.1 hj
      have hnot : ∀ e ∈ oj.after, Region.binds md e = true → e.on ≠ i := fun e he hb heq => by
        have k1 := hall e he hb
        have k0 := (mem_ready.1 hr).1
        rw [heq] at k1
        rw [getD_both k0] at k1
        cases k1
      have hjs : j ≠ s := fun hjs => by
        rw [hjs] at hoj
        unfold waits2 at hw
        rw [Bool.or_eq_true] at hw
        rcases hw with hw | hw
        · obtain ⟨os, hos, e, he, hb, hon⟩ := Region.waitsFor_spec hw
          obtain rfl : oj = os := Option.some.inj (hoj.symm.trans hos)
          exact hnot e he hb hon
        · obtain ⟨m, -, hm⟩ := List.any_eq_true.1 hw
          rw [Bool.and_eq_true] at hm
          obtain ⟨os, hos, e, he, hb, hon⟩ := Region.waitsFor_spec hm.1
          obtain rfl : oj = os := Option.some.inj (hoj.symm.trans hos)
          obtain ⟨om, hom, e', he', hb', hon'⟩ := Region.waitsFor_spec hm.2
          have k1 := hall e he hb
          rw [hon] at k1
          have k2 := hinv.closed m om hom k1 e' he' hb'
          rw [hon', getD_both (mem_ready.1 hr).1] at k2
          cases k2
      have h2 := wpOp_putIf hoj (hfree j oj hoj hji hjun hnot) (fun cs b => hsel i oi cs b hi) (fun cs b => hsel j oj cs b hoj) hQ hy h1
      have hfree' : ∀ k ok, ops[k]? = some ok → k ≠ i → (listed.setIfInBounds j true).getD k true = false →
          (∀ e ∈ ok.after, Region.binds md e = true → e.on ≠ i) → oi.apart ops ok = true := fun k ok hk hki hun hno => by
        refine hfree k ok hk hki ?_ hno
        by_cases hjk : j = k
        · subst hjk; exact hjun
        · rw [getD_set_ne true hjk] at hun; exact hun
      refine wpOp_mono (fun a' w' h3 => ?_) h2
      have hC' := h3.2.1 hjs (by rw [getD_set_ne true his]; exact hs)
      refine ⟨fun _ _ => hC', ih (listed.setIfInBounds j true) a' w' hfree' (ready_mono hr (Ne.symm hji)) h3.1 hC' (by rw [getD_set_ne true hjs]; exact hs) (hinv.set hj (lt_of_at hoj)) ?_⟩
      rw [Array.setIfInBounds_comm _ _ hji]
      exact h3.2.2

theorem set_self (listed : Array Bool) (s : Nat) : (listed.setIfInBounds s true).getD s true = true := by
  rcases Nat.lt_or_ge s listed.size with h | h
  · simp [h]
  · simp [h]

theorem wpAnyS_firstW {i : Nat} {oi : Oper} {v : Value} (hi : ops[i]? = some oi) (hsel : ∀ (j : Nat) (o : Oper) cs b, ops[j]? = some o → o.op ≠ .select cs b)
    (hQ : ∀ c a w, Q (.panic c) (a.put oi.dst v) w → Q (.panic c) a w) (his : i ≠ s) :
    ∀ (fuel : Nat) (listed : Array Bool) (a : Act) (w : World),
      (∀ j oj, ops[j]? = some oj → j ≠ i → listed.getD j true = false → (∀ e ∈ oj.after, Region.binds md e = true → e.on ≠ i) → oi.apart ops oj = true) →
      i ∈ Region.ready md ops listed → YieldsIf P ops (fun _ => True) oi v a → (listed.getD s true = false → C w) →
      wpAnyS P md ops Q s C fuel (listed.setIfInBounds i true) (a.put oi.dst v) w → wpAnyS P md ops Q s C (fuel + 1) listed a w := by
  intro fuel
  induction fuel with
  | zero =>
    intro listed a w _ hr hy hC H
    refine ⟨fun h => (by rw [h] at hr; cases hr), fun j hj => ?_⟩
    by_cases hji : j = i
    · subst hji; exact hy.wpOp hi trivial ⟨fun _ => hC, H⟩
    · have := ready_mono hj hji
      rw [H.1] at this
      cases this
  | succ fuel ih =>
    intro listed a w hfree hr hy hC H
    refine ⟨fun h => (by rw [h] at hr; cases hr), fun j hj => ?_⟩
    by_cases hji : j = i
    · subst hji; exact hy.wpOp hi trivial ⟨fun _ => hC, H⟩
    · have h1 := H.2 j (ready_mono hj hji)
      obtain ⟨hjun, oj, hoj, hall⟩ := mem_ready.1 hj
      have hnot : ∀ e ∈ oj.after, Region.binds md e = true → e.on ≠ i := fun e he hb heq => by
        have k1 := hall e he hb
        have k0 := (mem_ready.1 hr).1
        rw [heq] at k1
        rw [getD_both k0] at k1
        cases k1
      have h2 := wpOp_putIf hoj (hfree j oj hoj hji hjun hnot) (fun cs b => hsel i oi cs b hi) (fun cs b => hsel j oj cs b hoj) hQ hy h1
      have hfree' : ∀ k ok, ops[k]? = some ok → k ≠ i → (listed.setIfInBounds j true).getD k true = false →
          (∀ e ∈ ok.after, Region.binds md e = true → e.on ≠ i) → oi.apart ops ok = true := fun k ok hk hki hun hno => by
        refine hfree k ok hk hki ?_ hno
        by_cases hjk : j = k
        · subst hjk; exact hjun
        · rw [getD_set_ne true hjk] at hun; exact hun
      refine wpOp_mono (fun a' w' h3 => ?_) h2
      have hC' : j ≠ s → listed.getD s true = false → C w' := fun hjs hs => h3.2.1 hjs (by rw [getD_set_ne true his]; exact hs)
      refine ⟨hC', ih (listed.setIfInBounds j true) a' w' hfree' (ready_mono hr (Ne.symm hji)) h3.1 (fun hs => ?_) ?_⟩
      · by_cases hjs : j = s
        · rw [hjs, set_self] at hs; cases hs
        · exact hC' hjs (by rw [getD_set_ne true hjs] at hs; exact hs)
      · rw [Array.setIfInBounds_comm _ _ hji]
        exact h3.2.2

theorem at_of_drop {i : Nat} {oi : Oper} {r : List Oper} (h : ops.toList.drop i = oi :: r) : ops[i]? = some oi := by
  have := congrArg List.head? h
  simpa using this

/-- Take number i first: it yields v wherever C holds, and number s waits for it. -/
theorem wpAnyS_take {i : Nat} {oi : Oper} {v : Value} {r : List Oper} {fuel : Nat} {listed : Array Bool} {a : Act} {w : World} (hi : ops.toList.drop i = oi :: r)
    (hB : (Region.noSelect ops && Region.free md ops listed i && (Region.ready md ops listed).contains i && waits2 md ops s i && (i != s) && !(listed.getD s true) && closedB md ops listed) = true)
    (hQ : ∀ c a w, Q (.panic c) (a.put oi.dst v) w → Q (.panic c) a w) (hy : YieldsIf P ops C oi v a) (hC : C w)
    (h : wpAnyS P md ops Q s C fuel (listed.setIfInBounds i true) (a.put oi.dst v) w) : wpAnyS P md ops Q s C (fuel + 1) listed a w := by
  simp only [Bool.and_eq_true, bne_iff_ne, ne_eq, Bool.not_eq_true'] at hB
  obtain ⟨⟨⟨⟨⟨⟨hs, hf⟩, hr⟩, hw⟩, his⟩, hl⟩, hcl⟩ := hB
  exact wpAnyS_first (at_of_drop hi) (Region.noSelect_spec hs) hQ hw his fuel listed a w (Region.free_spec (at_of_drop hi) hf) (by simpa using hr) hy hC hl (inv_of hcl) h

/-- The same, where it yields v in whatever world. -/
theorem wpAnyS_takeW {i : Nat} {oi : Oper} {v : Value} {r : List Oper} {fuel : Nat} {listed : Array Bool} {a : Act} {w : World} (hi : ops.toList.drop i = oi :: r)
    (hB : (Region.noSelect ops && Region.free md ops listed i && (Region.ready md ops listed).contains i && (i != s)) = true)
    (hQ : ∀ c a w, Q (.panic c) (a.put oi.dst v) w → Q (.panic c) a w) (hy : YieldsIf P ops (fun _ => True) oi v a) (hC : listed.getD s true = false → C w)
    (h : wpAnyS P md ops Q s C fuel (listed.setIfInBounds i true) (a.put oi.dst v) w) : wpAnyS P md ops Q s C (fuel + 1) listed a w := by
  simp only [Bool.and_eq_true, bne_iff_ne, ne_eq] at hB
  obtain ⟨⟨⟨hs, hf⟩, hr⟩, his⟩ := hB
  exact wpAnyS_firstW (at_of_drop hi) (Region.noSelect_spec hs) hQ his fuel listed a w (Region.free_spec (at_of_drop hi) hf) (by simpa using hr) hy hC h

/-- Number j alone may come up. -/
theorem wpAnyS_one {j : Nat} {o : Oper} {r : List Oper} {fuel : Nat} {listed : Array Bool} {a : Act} {w : World} (hr : Region.ready md ops listed = [j]) (ho : ops.toList.drop j = o :: r)
    (h : ∀ K' : Act → World → Prop, Shut (∀ a w, ((j ≠ s → listed.getD s true = false → C w) ∧ wpAnyS P md ops Q s C fuel (listed.setIfInBounds j true) a w) → K' a w) → if Region.wanted o (yielded ops a.tmps) = true then Oper.wp P o a w K' Q else K' (a.put o.dst undef) w) :
    wpAnyS P md ops Q s C (fuel + 1) listed a w := by
  refine ⟨fun h0 => absurd (hr ▸ h0) (by simp), fun i hi => ?_⟩
  rw [hr] at hi
  obtain rfl : i = j := by simpa using hi
  exact wpOp_step (at_of_drop ho) (fun K' hK => h K' (fun a w hS => hK a w hS))

theorem wpAnyS_done {listed : Array Bool} {a : Act} {w : World} (hr : Region.ready md ops listed = []) (h : Q .normal a w) :
    ∀ fuel, wpAnyS P md ops Q s C fuel listed a w
  | 0 => ⟨hr, h⟩
  | _ + 1 => ⟨fun _ => h, by rw [hr]; simp⟩

theorem wp_region_S (s : Nat) (C : World → Prop) {id : Nat} {a : Act} {w : World} (hm : P.follows .mixedOrders = true)
    (h : wpAnyS P .any ops Q s C ops.size (Array.replicate ops.size false) a w.drew) : (Code.region id ops true).wp P Q a w :=
  wp_region_any hm (wpAny_of_S _ _ _ _ h)
end
end Go.Proofs.Ytnjdnldoopgcpaa
/- A region that draws its order and only reads and calls: a condition on the world that every operation keeps; no operation needs to be waited for. No program stands in it. -/
namespace Go.Proofs.Ytnjdnldoopgcpaa
open Go

section
variable {P : Program} {ops : Array Oper} {Q : Exit → Act → World → Prop} {md : Region.Mode} {C : World → Prop}

/-- Whatever order is picked, and C holds behind every operation. -/
def wpAnyC (P : Program) (md : Region.Mode) (ops : Array Oper) (Q : Exit → Act → World → Prop) (C : World → Prop) : Nat → Array Bool → Act → World → Prop
  | 0, listed, a, w => Region.ready md ops listed = [] ∧ Q .normal a w
  | fuel + 1, listed, a, w =>
    (Region.ready md ops listed = [] → Q .normal a w) ∧
    ∀ i ∈ Region.ready md ops listed, wpOp P ops Q i (fun a' w' => C w' ∧ wpAnyC P md ops Q C fuel (listed.setIfInBounds i true) a' w') a w

theorem wpAny_of_C : ∀ (fuel : Nat) (listed : Array Bool) (a : Act) (w : World), wpAnyC P md ops Q C fuel listed a w → wpAny P md ops Q fuel listed a w
  | 0, _, _, _, h => h
  | fuel + 1, _, _, _, h => ⟨h.1, fun i hi => wpOp_mono (fun a' w' h' => wpAny_of_C fuel _ a' w' h'.2) (h.2 i hi)⟩

theorem wpAnyC_first {i : Nat} {oi : Oper} {v : Value} (hi : ops[i]? = some oi) (hsel : ∀ (j : Nat) (o : Oper) cs b, ops[j]? = some o → o.op ≠ .select cs b)
    (hQ : ∀ c a w, Q (.panic c) (a.put oi.dst v) w → Q (.panic c) a w) :
    ∀ (fuel : Nat) (listed : Array Bool) (a : Act) (w : World),
      (∀ j oj, ops[j]? = some oj → j ≠ i → listed.getD j true = false → (∀ e ∈ oj.after, Region.binds md e = true → e.on ≠ i) → oi.apart ops oj = true) →
      i ∈ Region.ready md ops listed → YieldsIf P ops C oi v a → C w →
      wpAnyC P md ops Q C fuel (listed.setIfInBounds i true) (a.put oi.dst v) w → wpAnyC P md ops Q C (fuel + 1) listed a w := by
  intro fuel
  induction fuel with
  | zero =>
    intro listed a w _ hr hy hC H
    refine ⟨fun h => (by rw [h] at hr; cases hr), fun j hj => ?_⟩
    by_cases hji : j = i
    · subst hji; exact hy.wpOp hi hC ⟨hC, H⟩
    · have := ready_mono hj hji
      rw [H.1] at this
      cases this
  | succ fuel ih =>
    intro listed a w hfree hr hy hC H
    refine ⟨fun h => (by rw [h] at hr; cases hr), fun j hj => ?_⟩
    by_cases hji : j = i
    · subst hji; exact hy.wpOp hi hC ⟨hC, H⟩
    · have h1 := H.2 j (ready_mono hj hji)
      obtain ⟨hjun, oj, hoj, hall⟩ := mem_ready.1 hj
      have hnot : ∀ e ∈ oj.after, Region.binds md e = true → e.on ≠ i := fun e he hb heq => by
        have k1 := hall e he hb
        have k0 := (mem_ready.1 hr).1
        rw [heq] at k1
        rw [getD_both k0] at k1
        cases k1
      have h2 := wpOp_putIf hoj (hfree j oj hoj hji hjun hnot) (fun cs b => hsel i oi cs b hi) (fun cs b => hsel j oj cs b hoj) hQ hy h1
      have hfree' : ∀ k ok, ops[k]? = some ok → k ≠ i → (listed.setIfInBounds j true).getD k true = false →
          (∀ e ∈ ok.after, Region.binds md e = true → e.on ≠ i) → oi.apart ops ok = true := fun k ok hk hki hun hno => by
        refine hfree k ok hk hki ?_ hno
        by_cases hjk : j = k
        · subst hjk; exact hjun
        · rw [getD_set_ne true hjk] at hun; exact hun
      refine wpOp_mono (fun a' w' h3 => ?_) h2
      refine ⟨h3.2.1, ih (listed.setIfInBounds j true) a' w' hfree' (ready_mono hr (Ne.symm hji)) h3.1 h3.2.1 ?_⟩
      rw [Array.setIfInBounds_comm _ _ hji]
      exact h3.2.2

/-- Take number i first: it yields v wherever C holds. -/
theorem wpAnyC_take {i : Nat} {oi : Oper} {v : Value} {r : List Oper} {fuel : Nat} {listed : Array Bool} {a : Act} {w : World} (hi : ops.toList.drop i = oi :: r)
    (hB : (Region.noSelect ops && Region.free md ops listed i && (Region.ready md ops listed).contains i) = true)
    (hQ : ∀ c a w, Q (.panic c) (a.put oi.dst v) w → Q (.panic c) a w) (hy : YieldsIf P ops C oi v a) (hC : C w)
    (h : wpAnyC P md ops Q C fuel (listed.setIfInBounds i true) (a.put oi.dst v) w) : wpAnyC P md ops Q C (fuel + 1) listed a w := by
  simp only [Bool.and_eq_true] at hB
  obtain ⟨⟨hs, hf⟩, hr⟩ := hB
  exact wpAnyC_first (at_of_drop hi) (Region.noSelect_spec hs) hQ fuel listed a w (Region.free_spec (at_of_drop hi) hf) (by simpa using hr) hy hC h

/-- Number j alone may come up. -/
theorem wpAnyC_one {j : Nat} {o : Oper} {r : List Oper} {fuel : Nat} {listed : Array Bool} {a : Act} {w : World} (hr : Region.ready md ops listed = [j]) (ho : ops.toList.drop j = o :: r)
    (h : ∀ K' : Act → World → Prop, Shut (∀ a w, (C w ∧ wpAnyC P md ops Q C fuel (listed.setIfInBounds j true) a w) → K' a w) → if Region.wanted o (yielded ops a.tmps) = true then Oper.wp P o a w K' Q else K' (a.put o.dst undef) w) :
    wpAnyC P md ops Q C (fuel + 1) listed a w := by
  refine ⟨fun h0 => absurd (hr ▸ h0) (by simp), fun i hi => ?_⟩
  rw [hr] at hi
  obtain rfl : i = j := by simpa using hi
  exact wpOp_step (at_of_drop ho) (fun K' hK => h K' (fun a w hS => hK a w hS))

theorem wpAnyC_done {listed : Array Bool} {a : Act} {w : World} (hr : Region.ready md ops listed = []) (h : Q .normal a w) :
    ∀ fuel, wpAnyC P md ops Q C fuel listed a w
  | 0 => ⟨hr, h⟩
  | _ + 1 => ⟨fun _ => h, by rw [hr]; simp⟩

theorem wp_region_C (C : World → Prop) {id : Nat} {a : Act} {w : World} (hm : P.follows .mixedOrders = true)
    (h : wpAnyC P .any ops Q C ops.size (Array.replicate ops.size false) a w.drew) : (Code.region id ops true).wp P Q a w :=
  wp_region_any hm (wpAny_of_C _ _ _ _ h)
end
end Go.Proofs.Ytnjdnldoopgcpaa
/- A region that draws its order, by an invariant: it holds at the start, each operation that may come up keeps it, and behind all it gives the post. No program stands in it. -/
namespace Go.Proofs.Ytnjdnldoopgcpaa
open Go

section
variable {P : Program} {ops : Array Oper} {Q : Exit → Act → World → Prop} {md : Region.Mode}

theorem countP_drop {α : Type} {p q : α → Bool} : ∀ (l : List α), (∀ x ∈ l, q x = true → p x = true) → l.countP q ≤ l.countP p
  | [], _ => Nat.le_refl _
  | a :: l, h => by
    have ih := countP_drop l (fun x hx => h x (List.mem_cons_of_mem _ hx))
    rw [List.countP_cons, List.countP_cons]
    cases hq : q a
    · simp; omega
    · rw [h a (List.mem_cons_self ..) hq]; simp; omega
theorem countP_less {α : Type} {p q : α → Bool} : ∀ (l : List α), (∀ x ∈ l, q x = true → p x = true) → (∃ x ∈ l, p x = true ∧ q x = false) → l.countP q < l.countP p
  | [], _, ⟨_, h, _⟩ => by cases h
  | a :: l, h, ⟨x, hx, hp, hq⟩ => by
    have ih := countP_drop l (fun x hx => h x (List.mem_cons_of_mem _ hx))
    rw [List.countP_cons, List.countP_cons]
    rcases List.mem_cons.1 hx with rfl | hx
    · rw [hp, hq]; simp; omega
    · have ih2 := countP_less l (fun x hx => h x (List.mem_cons_of_mem _ hx)) ⟨x, hx, hp, hq⟩
      cases hqa : q a
      · simp; omega
      · rw [h a (List.mem_cons_self ..) hqa]; simp; omega

/-- How many have not come up. -/
def leftOf (ops : Array Oper) (listed : Array Bool) : Nat := (List.range ops.size).countP fun i => !(listed.getD i true)
theorem leftOf_set {i : Nat} {listed : Array Bool} (h : i ∈ Region.ready md ops listed) : leftOf ops (listed.setIfInBounds i true) < leftOf ops listed := by
  obtain ⟨hun, o, ho, -⟩ := mem_ready.1 h
  refine countP_less _ (fun x _ hx => ?_) ⟨i, List.mem_range.2 (lt_of_at ho), by rw [hun]; rfl, by rw [set_self]; rfl⟩
  by_cases hxi : i = x
  · subst hxi; rw [set_self] at hx; cases hx
  · rw [getD_set_ne true hxi] at hx; exact hx

theorem wpAny_inv (Inv : Array Bool → Act → World → Prop)
    (hstep : ∀ i o listed a w, ops[i]? = some o → i ∈ Region.ready md ops listed → Inv listed a w → wpOp P ops Q i (fun a' w' => Inv (listed.setIfInBounds i true) a' w') a w)
    (hend : ∀ listed a w, Region.ready md ops listed = [] → Inv listed a w → Q .normal a w) :
    ∀ (fuel : Nat) (listed : Array Bool) (a : Act) (w : World), leftOf ops listed ≤ fuel → Inv listed a w → wpAny P md ops Q fuel listed a w := by
  intro fuel
  induction fuel with
  | zero =>
    intro listed a w hl hI
    have hr : Region.ready md ops listed = [] := by
      cases hh : Region.ready md ops listed with
      | nil => rfl
      | cons i r =>
        have hi : i ∈ Region.ready md ops listed := by rw [hh]; exact List.mem_cons_self ..
        have := leftOf_set hi
        omega
    exact ⟨hr, hend _ _ _ hr hI⟩
  | succ fuel ih =>
    intro listed a w hl hI
    refine ⟨fun hr => hend _ _ _ hr hI, fun i hi => ?_⟩
    obtain ⟨hun, o, ho, hall⟩ := mem_ready.1 hi
    have := leftOf_set hi
    exact wpOp_mono (fun a' w' h' => ih _ a' w' (by omega) h') (hstep i o listed a w ho hi hI)

theorem wp_region_inv (Inv : Array Bool → Act → World → Prop) {id : Nat} {a : Act} {w : World} (hm : P.follows .mixedOrders = true)
    (h0 : Inv (Array.replicate ops.size false) a w.drew)
    (hstep : ∀ i o listed a w, ops[i]? = some o → i ∈ Region.ready .any ops listed → Inv listed a w → wpOp P ops Q i (fun a' w' => Inv (listed.setIfInBounds i true) a' w') a w)
    (hend : ∀ listed a w, Region.ready .any ops listed = [] → Inv listed a w → Q .normal a w) : (Code.region id ops true).wp P Q a w := by
  refine wp_region_any hm (wpAny_inv Inv hstep hend _ _ _ _ ?_ h0)
  have h := List.countP_le_length (p := fun i => !((Array.replicate ops.size false).getD i true)) (l := List.range ops.size)
  simpa [leftOf] using h

/-- Number k has come up. -/
def On (listed : Array Bool) (k : Nat) : Prop := listed.getD k false = true
theorem on_set {listed : Array Bool} {i k : Nat} (h : On (listed.setIfInBounds i true) k) : k = i ∨ On listed k := by
  by_cases hk : i = k
  · exact .inl hk.symm
  · right; unfold On at h ⊢; rw [getD_set_ne false hk] at h; exact h
theorem on_old {listed : Array Bool} {i k : Nat} (hk : k ≠ i) (h : On (listed.setIfInBounds i true) k) : On listed k := (on_set h).resolve_left hk
theorem off_old {listed : Array Bool} {i k : Nat} (hk : k ≠ i) (h : ¬ On (listed.setIfInBounds i true) k) : ¬ On listed k := fun h' => h (by
  unfold On at h' ⊢; rw [getD_set_ne false (Ne.symm hk)]; exact h')
theorem on_new {listed : Array Bool} {i : Nat} (h : listed.getD i true = false) : On (listed.setIfInBounds i true) i := by
  rcases Nat.lt_or_ge i listed.size with h' | h'
  · unfold On; simp [h']
  · simp [Array.getElem?_eq_none h'] at h
theorem off_of {listed : Array Bool} {i : Nat} (h : listed.getD i true = false) : ¬ On listed i := by
  unfold On; rw [getD_both h]; simp
theorem on_none {n k : Nat} : ¬ On (Array.replicate n false) k := by unfold On; rw [getD_replicate_false]; simp

theorem drop_of_at {i : Nat} {o : Oper} (h : ops[i]? = some o) : ops.toList.drop i = o :: ops.toList.drop (i + 1) := by
  have hi := lt_of_at h
  rw [List.drop_eq_getElem_cons (by simpa using hi)]
  congr 1
  have : ops[i]? = some ops[i] := Array.getElem?_eq_getElem hi
  rw [this] at h
  simpa using Option.some.inj h

/-- Each waits for earlier ones alone. -/
def backB (ops : Array Oper) : Bool := (List.range ops.size).all fun i => match ops[i]? with
  | some o => o.after.all fun e => decide (e.on < i)
  | none => true
theorem all_on {listed : Array Bool} (hb : backB ops = true) (hs : listed.size = ops.size) (hr : Region.ready md ops listed = []) : ∀ n i, i < n → i < ops.size → On listed i := by
  intro n
  induction n with
  | zero => intro i h; omega
  | succ n ih =>
    intro i hin hi
    refine Classical.byContradiction fun hn => ?_
    have ho : ops[i]? = some ops[i] := Array.getElem?_eq_getElem hi
    have hk := List.all_eq_true.1 hb i (List.mem_range.2 hi)
    rw [ho] at hk
    have hun : listed.getD i true = false := by
      unfold On at hn
      have hi' : i < listed.size := by omega
      simp [hi'] at hn ⊢
      exact hn
    have : i ∈ Region.ready md ops listed := mem_ready.2 ⟨hun, ops[i], ho, fun e he hb' => ih e.on (by
      have := Array.all_eq_true'.1 hk e he
      have := of_decide_eq_true this
      omega) (by
      have := Array.all_eq_true'.1 hk e he
      have := of_decide_eq_true this
      omega)⟩
    rw [hr] at this
    cases this

/-- The same; each operation is handed over written out, with what it waits for. -/
theorem wp_region_inv2 (Inv : Array Bool → Act → World → Prop) {id : Nat} {a : Act} {w : World} (hm : P.follows .mixedOrders = true) (hback : backB ops = true)
    (h0 : Inv (Array.replicate ops.size false) a w.drew)
    (hstep : ∀ i o r listed a w, ops.toList.drop i = o :: r → i < ops.size → listed.getD i true = false → (∀ e ∈ o.after, Region.binds .any e = true → On listed e.on) → Inv listed a w →
      ∀ K : Act → World → Prop, Shut (∀ a' w', Inv (listed.setIfInBounds i true) a' w' → K a' w') → if Region.wanted o (yielded ops a.tmps) = true then Oper.wp P o a w K Q else K (a.put o.dst undef) w)
    (hend : ∀ listed a w, (∀ i < ops.size, On listed i) → Inv listed a w → Q .normal a w) : (Code.region id ops true).wp P Q a w := by
  refine wp_region_inv (fun l a w => l.size = ops.size ∧ Inv l a w) hm ⟨by simp, h0⟩ (fun i o listed a w ho hr hI => ?_) (fun listed a w hr hI => hend listed a w (fun i hi => all_on hback hI.1 hr (i + 1) i (by omega) hi) hI.2)
  obtain ⟨hun, o', ho', hall⟩ := mem_ready.1 hr
  obtain rfl : o = o' := Option.some.inj (ho.symm.trans ho')
  exact wpOp_step ho (fun K hK => hstep i o _ listed a w (drop_of_at ho) (lt_of_at ho) hun hall hI.2 K (fun a' w' h => hK a' w' ⟨by simp [hI.1], h⟩))
end
end Go.Proofs.Ytnjdnldoopgcpaa
