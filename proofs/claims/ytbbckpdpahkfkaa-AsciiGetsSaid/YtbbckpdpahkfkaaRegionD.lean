/- A region that draws its order: an operation is taken first where the sentinel waits for it, however many steps lie between. No program stands in it. -/
import Derived.Test.YtbbckpdpahkfkaaRegionS
namespace Go.Proofs.Ytbbckpdpahkfkaa
open Go

section
variable {P : Program} {ops : Array Oper} {Q : Exit → Act → World → Prop} {md : Region.Mode} {s : Nat} {C : World → Prop}
/-- Number s waits for number i, or for one that waits for it, and so on. -/
def waitsD (md : Region.Mode) (ops : Array Oper) (i : Nat) : Nat → Nat → Bool
  | 0, s => Region.waitsFor md ops s i
  | f + 1, s => Region.waitsFor md ops s i || (List.range ops.size).any fun m => Region.waitsFor md ops s m && waitsD md ops i f m
theorem waitsD_listed {i : Nat} {listed : Array Bool} (hinv : HeadInv md ops ops.size listed) : ∀ (f m : Nat), listed.getD m false = true → waitsD md ops i f m = true → listed.getD i false = true
  | 0, m, hm, hw => by
    obtain ⟨om, hom, e, he, hb, hon⟩ := Region.waitsFor_spec hw
    have := hinv.closed m om hom hm e he hb
    rwa [hon] at this
  | f + 1, m, hm, hw => by
    unfold waitsD at hw
    rw [Bool.or_eq_true] at hw
    rcases hw with hw | hw
    · exact waitsD_listed hinv 0 m hm hw
    · obtain ⟨q, -, hq⟩ := List.any_eq_true.1 hw
      rw [Bool.and_eq_true] at hq
      obtain ⟨om, hom, e, he, hb, hon⟩ := Region.waitsFor_spec hq.1
      have := hinv.closed m om hom hm e he hb
      rw [hon] at this
      exact waitsD_listed hinv f q this hq.2
theorem wpAnyS_firstD {i : Nat} {oi : Oper} {v : Value} (hi : ops[i]? = some oi) (hsel : ∀ (j : Nat) (o : Oper) cs b, ops[j]? = some o → o.op ≠ .select cs b)
    (hQ : ∀ c a w, Q (.panic c) (a.put oi.dst v) w → Q (.panic c) a w) (hw : waitsD md ops i 12 s = true) (his : i ≠ s) :
    ∀ (fuel : Nat) (listed : Array Bool) (a : Act) (w : World),
      (∀ j oj, ops[j]? = some oj → j ≠ i → listed.getD j true = false → (∀ e ∈ oj.after, Region.binds md e = true → e.on ≠ i) → oi.apart ops oj = true) →
      i ∈ Region.ready md ops listed → YieldsIf P ops C oi v a → C w → listed.getD s true = false → HeadInv md ops ops.size listed →
      wpAnyS P md ops Q s C fuel (listed.setIfInBounds i true) (a.put oi.dst v) w → wpAnyS P md ops Q s C (fuel + 1) listed a w := by
  intro fuel
  induction fuel with
  | zero =>
    intro listed a w _ hr hy hC _ _ H
    refine ⟨fun h => (by rw [h] at hr; cases hr), fun j hj => ?_⟩
    by_cases hji : j = i
    · subst hji; exact hy.wpOp hi hC ⟨fun _ _ => hC, H⟩
    · have := ready_mono hj hji
      rw [H.1] at this
      cases this
  | succ fuel ih =>
    intro listed a w hfree hr hy hC hs hinv H
    refine ⟨fun h => (by rw [h] at hr; cases hr), fun j hj => ?_⟩
    by_cases hji : j = i
    · subst hji; exact hy.wpOp hi hC ⟨fun _ _ => hC, H⟩
    · have h1 := H.2 j (ready_mono hj hji)
      obtain ⟨hjun, oj, hoj, hall⟩ := mem_ready.1 hj
      have hnot : ∀ e ∈ oj.after, Region.binds md e = true → e.on ≠ i := fun e he hb heq => by
        have k1 := hall e he hb
        have k0 := (mem_ready.1 hr).1
        rw [heq] at k1
        rw [getD_both k0] at k1
        cases k1
      have hjs : j ≠ s := fun hjs => by
        rw [hjs] at hoj
        unfold waitsD at hw
        rw [Bool.or_eq_true] at hw
        rcases hw with hw | hw
        · obtain ⟨os, hos, e, he, hb, hon⟩ := Region.waitsFor_spec hw
          obtain rfl : oj = os := Option.some.inj (hoj.symm.trans hos)
          exact hnot e he hb hon
        · obtain ⟨m, -, hm⟩ := List.any_eq_true.1 hw
          rw [Bool.and_eq_true] at hm
          obtain ⟨os, hos, e, he, hb, hon⟩ := Region.waitsFor_spec hm.1
          obtain rfl : oj = os := Option.some.inj (hoj.symm.trans hos)
          have k1 := hall e he hb
          rw [hon] at k1
          have k2 := waitsD_listed hinv _ m k1 hm.2
          rw [getD_both (mem_ready.1 hr).1] at k2
          cases k2
      have h2 := wpOp_putIf hoj (hfree j oj hoj hji hjun hnot) (fun cs b => hsel i oi cs b hi) (fun cs b => hsel j oj cs b hoj) hQ hy h1
      have hfree' : ∀ k ok, ops[k]? = some ok → k ≠ i → (listed.setIfInBounds j true).getD k true = false →
          (∀ e ∈ ok.after, Region.binds md e = true → e.on ≠ i) → oi.apart ops ok = true := fun k ok hk hki hun hno => by
        refine hfree k ok hk hki ?_ hno
        by_cases hjk : j = k
        · subst hjk; exact hjun
        · rw [getD_set_ne true hjk] at hun; exact hun
      refine wpOp_mono (fun a' w' h3 => ?_) h2
      have hC' := h3.2.1 hjs (by rw [getD_set_ne true his]; exact hs)
      refine ⟨fun _ _ => hC', ih (listed.setIfInBounds j true) a' w' hfree' (ready_mono hr (Ne.symm hji)) h3.1 hC' (by rw [getD_set_ne true hjs]; exact hs) (hinv.set hj (lt_of_at hoj)) ?_⟩
      rw [Array.setIfInBounds_comm _ _ hji]
      exact h3.2.2
/-- Take number i first: it yields v wherever C holds, and number s waits for it. -/
theorem wpAnyS_takeD {i : Nat} {oi : Oper} {v : Value} {r : List Oper} {fuel : Nat} {listed : Array Bool} {a : Act} {w : World} (hi : ops.toList.drop i = oi :: r)
    (hB : (Region.noSelect ops && Region.free md ops listed i && (Region.ready md ops listed).contains i && waitsD md ops i 12 s && (i != s) && !(listed.getD s true) && closedB md ops listed) = true)
    (hQ : ∀ c a w, Q (.panic c) (a.put oi.dst v) w → Q (.panic c) a w) (hy : YieldsIf P ops C oi v a) (hC : C w)
    (h : wpAnyS P md ops Q s C fuel (listed.setIfInBounds i true) (a.put oi.dst v) w) : wpAnyS P md ops Q s C (fuel + 1) listed a w := by
  simp only [Bool.and_eq_true, bne_iff_ne, ne_eq, Bool.not_eq_true'] at hB
  obtain ⟨⟨⟨⟨⟨⟨hs, hf⟩, hr⟩, hw⟩, his⟩, hl⟩, hcl⟩ := hB
  exact wpAnyS_firstD (at_of_drop hi) (Region.noSelect_spec hs) hQ hw his fuel listed a w (Region.free_spec (at_of_drop hi) hf) (by simpa using hr) hy hC hl (inv_of hcl) h
end
end Go.Proofs.Ytbbckpdpahkfkaa
