/- A region that draws its order, by an invariant: it holds at the start, each operation that may come up keeps it, and behind all it gives the post. No program stands in it. -/
import Derived.Test.YtdlmhienolmncaaGreatRegionC
import Derived.Test.YtdlmhienolmncaaGreatBoxMapC0
import Derived.Laws.CopyRow
import Derived.Laws.CopyOwn
namespace Go.Proofs.YtdlmhienolmncaaGreat
open Go

section
variable {P : Program} {ops : Array Oper} {Q : Exit → Act → World → Prop} {md : Region.Mode}

theorem countP_drop {α : Type} {p q : α → Bool} : ∀ (l : List α), (∀ x ∈ l, q x = true → p x = true) → l.countP q ≤ l.countP p
  | [], _ => Nat.le_refl _
  | a :: l, h => by
    have ih := countP_drop l (fun x hx => h x (List.mem_cons_of_mem _ hx))
    rw [List.countP_cons, List.countP_cons]
    cases hq : q a
    · simp; omega
    · rw [h a (List.mem_cons_self ..) hq]; simp; omega
theorem countP_less {α : Type} {p q : α → Bool} : ∀ (l : List α), (∀ x ∈ l, q x = true → p x = true) → (∃ x ∈ l, p x = true ∧ q x = false) → l.countP q < l.countP p
  | [], _, ⟨_, h, _⟩ => by cases h
  | a :: l, h, ⟨x, hx, hp, hq⟩ => by
    have ih := countP_drop l (fun x hx => h x (List.mem_cons_of_mem _ hx))
    rw [List.countP_cons, List.countP_cons]
    rcases List.mem_cons.1 hx with rfl | hx
    · rw [hp, hq]; simp; omega
    · have ih2 := countP_less l (fun x hx => h x (List.mem_cons_of_mem _ hx)) ⟨x, hx, hp, hq⟩
      cases hqa : q a
      · simp; omega
      · rw [h a (List.mem_cons_self ..) hqa]; simp; omega

/-- How many have not come up. -/
def leftOf (ops : Array Oper) (listed : Array Bool) : Nat := (List.range ops.size).countP fun i => !(listed.getD i true)
theorem leftOf_set {i : Nat} {listed : Array Bool} (h : i ∈ Region.ready md ops listed) : leftOf ops (listed.setIfInBounds i true) < leftOf ops listed := by
  obtain ⟨hun, o, ho, -⟩ := mem_ready.1 h
  refine countP_less _ (fun x _ hx => ?_) ⟨i, List.mem_range.2 (lt_of_at ho), by rw [hun]; rfl, by rw [set_self]; rfl⟩
  by_cases hxi : i = x
  · subst hxi; rw [set_self] at hx; cases hx
  · rw [getD_set_ne true hxi] at hx; exact hx

theorem wpAny_inv (Inv : Array Bool → Act → World → Prop)
    (hstep : ∀ i o listed a w, ops[i]? = some o → i ∈ Region.ready md ops listed → Inv listed a w → wpOp P ops Q i (fun a' w' => Inv (listed.setIfInBounds i true) a' w') a w)
    (hend : ∀ listed a w, Region.ready md ops listed = [] → Inv listed a w → Q .normal a w) :
    ∀ (fuel : Nat) (listed : Array Bool) (a : Act) (w : World), leftOf ops listed ≤ fuel → Inv listed a w → wpAny P md ops Q fuel listed a w := by
  intro fuel
  induction fuel with
  | zero =>
    intro listed a w hl hI
    have hr : Region.ready md ops listed = [] := by
      cases hh : Region.ready md ops listed with
      | nil => rfl
      | cons i r =>
        have hi : i ∈ Region.ready md ops listed := by rw [hh]; exact List.mem_cons_self ..
        have := leftOf_set hi
        omega
    exact ⟨hr, hend _ _ _ hr hI⟩
  | succ fuel ih =>
    intro listed a w hl hI
    refine ⟨fun hr => hend _ _ _ hr hI, fun i hi => ?_⟩
    obtain ⟨hun, o, ho, hall⟩ := mem_ready.1 hi
    have := leftOf_set hi
    exact wpOp_mono (fun a' w' h' => ih _ a' w' (by omega) h') (hstep i o listed a w ho hi hI)

theorem wp_region_inv (Inv : Array Bool → Act → World → Prop) {id : Nat} {a : Act} {w : World} (hm : P.follows .mixedOrders = true)
    (h0 : Inv (Array.replicate ops.size false) a w.drew)
    (hstep : ∀ i o listed a w, ops[i]? = some o → i ∈ Region.ready .any ops listed → Inv listed a w → wpOp P ops Q i (fun a' w' => Inv (listed.setIfInBounds i true) a' w') a w)
    (hend : ∀ listed a w, Region.ready .any ops listed = [] → Inv listed a w → Q .normal a w) : (Code.region id ops true).wp P Q a w := by
  refine wp_region_any hm (wpAny_inv Inv hstep hend _ _ _ _ ?_ h0)
  have h := List.countP_le_length (p := fun i => !((Array.replicate ops.size false).getD i true)) (l := List.range ops.size)
  simpa [leftOf] using h

/-- Number k has come up. -/
def On (listed : Array Bool) (k : Nat) : Prop := listed.getD k false = true
theorem on_set {listed : Array Bool} {i k : Nat} (h : On (listed.setIfInBounds i true) k) : k = i ∨ On listed k := by
  by_cases hk : i = k
  · exact .inl hk.symm
  · right; unfold On at h ⊢; rw [getD_set_ne false hk] at h; exact h
theorem on_old {listed : Array Bool} {i k : Nat} (hk : k ≠ i) (h : On (listed.setIfInBounds i true) k) : On listed k := (on_set h).resolve_left hk
theorem off_old {listed : Array Bool} {i k : Nat} (hk : k ≠ i) (h : ¬ On (listed.setIfInBounds i true) k) : ¬ On listed k := fun h' => h (by
  unfold On at h' ⊢; rw [getD_set_ne false (Ne.symm hk)]; exact h')
theorem on_new {listed : Array Bool} {i : Nat} (h : listed.getD i true = false) : On (listed.setIfInBounds i true) i := by
  rcases Nat.lt_or_ge i listed.size with h' | h'
  · unfold On; simp [h']
  · simp [Array.getElem?_eq_none h'] at h
theorem off_of {listed : Array Bool} {i : Nat} (h : listed.getD i true = false) : ¬ On listed i := by
  unfold On; rw [getD_both h]; simp
theorem on_none {n k : Nat} : ¬ On (Array.replicate n false) k := by unfold On; rw [getD_replicate_false]; simp

theorem drop_of_at {i : Nat} {o : Oper} (h : ops[i]? = some o) : ops.toList.drop i = o :: ops.toList.drop (i + 1) := by
  have hi := lt_of_at h
  rw [List.drop_eq_getElem_cons (by simpa using hi)]
  congr 1
  have : ops[i]? = some ops[i] := Array.getElem?_eq_getElem hi
  rw [this] at h
  simpa using Option.some.inj h

/-- Each waits for earlier ones alone. -/
def backB (ops : Array Oper) : Bool := (List.range ops.size).all fun i => match ops[i]? with
  | some o => o.after.all fun e => decide (e.on < i)
  | none => true
theorem all_on {listed : Array Bool} (hb : backB ops = true) (hs : listed.size = ops.size) (hr : Region.ready md ops listed = []) : ∀ n i, i < n → i < ops.size → On listed i := by
  intro n
  induction n with
  | zero => intro i h; omega
  | succ n ih =>
    intro i hin hi
    refine Classical.byContradiction fun hn => ?_
    have ho : ops[i]? = some ops[i] := Array.getElem?_eq_getElem hi
    have hk := List.all_eq_true.1 hb i (List.mem_range.2 hi)
    rw [ho] at hk
    have hun : listed.getD i true = false := by
      unfold On at hn
      have hi' : i < listed.size := by omega
      simp [hi'] at hn ⊢
      exact hn
    have : i ∈ Region.ready md ops listed := mem_ready.2 ⟨hun, ops[i], ho, fun e he hb' => ih e.on (by
      have := Array.all_eq_true'.1 hk e he
      have := of_decide_eq_true this
      omega) (by
      have := Array.all_eq_true'.1 hk e he
      have := of_decide_eq_true this
      omega)⟩
    rw [hr] at this
    cases this

/-- The same; each operation is handed over written out, with what it waits for. -/
theorem wp_region_inv2 (Inv : Array Bool → Act → World → Prop) {id : Nat} {a : Act} {w : World} (hm : P.follows .mixedOrders = true) (hback : backB ops = true)
    (h0 : Inv (Array.replicate ops.size false) a w.drew)
    (hstep : ∀ i o r listed a w, ops.toList.drop i = o :: r → i < ops.size → listed.getD i true = false → (∀ e ∈ o.after, Region.binds .any e = true → On listed e.on) → Inv listed a w →
      ∀ K : Act → World → Prop, Shut (∀ a' w', Inv (listed.setIfInBounds i true) a' w' → K a' w') → if Region.wanted o (yielded ops a.tmps) = true then Oper.wp P o a w K Q else K (a.put o.dst undef) w)
    (hend : ∀ listed a w, (∀ i < ops.size, On listed i) → Inv listed a w → Q .normal a w) : (Code.region id ops true).wp P Q a w := by
  refine wp_region_inv (fun l a w => l.size = ops.size ∧ Inv l a w) hm ⟨by simp, h0⟩ (fun i o listed a w ho hr hI => ?_) (fun listed a w hr hI => hend listed a w (fun i hi => all_on hback hI.1 hr (i + 1) i (by omega) hi) hI.2)
  obtain ⟨hun, o', ho', hall⟩ := mem_ready.1 hr
  obtain rfl : o = o' := Option.some.inj (ho.symm.trans ho')
  exact wpOp_step ho (fun K hK => hstep i o _ listed a w (drop_of_at ho) (lt_of_at ho) hun hall hI.2 K (fun a' w' h => hK a' w' ⟨by simp [hI.1], h⟩))
end
end Go.Proofs.YtdlmhienolmncaaGreat
/- What holds within the region of box's Both that makes the corners of both boxes. -/
namespace Go.Proofs.YtdlmhienolmncaaGreat
open Go.RowKit Dec

/-- A new variable of four points: made by number k, filled by number s. -/
def Slot4 (w0 : World) (l : Array Bool) (k s : Nat) (t : Value) (w : World) (g : Nat → PV) : Prop :=
  (On l s → On l k) ∧ (On l k → ∃ B, t = .pointer (some ⟨B, 0, none⟩) ∧ w0.heap.size ≤ B ∧ ((On l s ∧ Whole w B 164 (four g)) ∨ (¬ On l s ∧ Whole w B 164 #[.int .i64 0, .int .i64 0, .int .i64 0, .int .i64 0, .int .i64 0, .int .i64 0, .int .i64 0, .int .i64 0, .int .i64 0, .int .i64 0, .int .i64 0, .int .i64 0, .int .i64 0, .int .i64 0, .int .i64 0, .int .i64 0])))
theorem Slot4.keep {w0 : World} {l : Array Bool} {k s i : Nat} {t : Value} {w : World} {g : Nat → PV} (h : Slot4 w0 l k s t w g) (hk : k ≠ i) (hs : s ≠ i) : Slot4 w0 (l.setIfInBounds i true) k s t w g := by
  have back : ∀ {j}, On l j → j ≠ i → On (l.setIfInBounds i true) j := fun {j} h' hj => by
    unfold On at h' ⊢; rw [getD_set_ne false (Ne.symm hj)]; exact h'
  refine ⟨fun h' => back (h.1 (on_old hs h')) hk, fun h' => ?_⟩
  obtain ⟨B, e, hB, h2⟩ := h.2 (on_old hk h')
  refine ⟨B, e, hB, ?_⟩
  rcases h2 with ⟨h2, h3⟩ | ⟨h2, h3⟩
  · exact .inl ⟨back h2 hs, h3⟩
  · exact .inr ⟨fun h4 => h2 (on_old hs h4), h3⟩
theorem Slot4.later {w0 : World} {l : Array Bool} {k s : Nat} {t : Value} {w w' : World} {g : Nat → PV} (h : Slot4 w0 l k s t w g) (hb : Below w.heap.size w w') : Slot4 w0 l k s t w' g := by
  refine ⟨h.1, fun h' => ?_⟩
  obtain ⟨B, e, hB, h2⟩ := h.2 h'
  refine ⟨B, e, hB, ?_⟩
  rcases h2 with ⟨h2, h3⟩ | ⟨h2, h3⟩
  · exact .inl ⟨h2, h3.here hb⟩
  · exact .inr ⟨h2, h3.here hb⟩
theorem Slot4.old {w0 : World} {l : Array Bool} {k s : Nat} {t : Value} {w : World} {g : Nat → PV} (h : Slot4 w0 l k s t w g) (o : Obj) : Slot4 w0 l k s t (w.alloc o) g := h.later ((Below.refl _ _).alloc (Nat.le_refl _) o)
theorem Slot4.made {w0 : World} {l : Array Bool} {k s : Nat} {t : Value} {w : World} {g : Nat → PV} (h : Slot4 w0 l k s t w g) (hks : s ≠ k) (hun : l.getD k true = false) (hw : w0.heap.size ≤ w.heap.size) :
    Slot4 w0 (l.setIfInBounds k true) k s (.pointer (some ⟨w.heap.size, 0, none⟩)) (w.alloc (.cells #[.int .i64 0, .int .i64 0, .int .i64 0, .int .i64 0, .int .i64 0, .int .i64 0, .int .i64 0, .int .i64 0, .int .i64 0, .int .i64 0, .int .i64 0, .int .i64 0, .int .i64 0, .int .i64 0, .int .i64 0, .int .i64 0] 164)) g :=
  ⟨fun _ => on_new hun, fun _ => ⟨_, rfl, hw, .inr ⟨fun h' => off_of hun (h.1 (on_old hks h')), Whole.made _ _ _⟩⟩⟩
/-- Two variables that are both there lie apart. -/
def Apart4 (l : Array Bool) (k k' : Nat) (t t' : Value) : Prop := On l k → On l k' → t ≠ t'
theorem Slot4.block {w0 : World} {l : Array Bool} {k s : Nat} {t : Value} {w : World} {g : Nat → PV} (h : Slot4 w0 l k s t w g) (hk : On l k) : ∃ B, t = .pointer (some ⟨B, 0, none⟩) ∧ B < w.heap.size := by
  obtain ⟨B, e, hB, h2⟩ := h.2 hk
  refine ⟨B, e, ?_⟩
  rcases h2 with ⟨h2, h3⟩ | ⟨h2, h3⟩
  · exact h3.lt
  · exact h3.lt
theorem Slot4.unlike {w0 : World} {l : Array Bool} {k s : Nat} {t : Value} {w : World} {g : Nat → PV} (h : Slot4 w0 l k s t w g) (hk : On l k) : t ≠ .pointer (some ⟨w.heap.size, 0, none⟩) := by
  obtain ⟨B, rfl, hB⟩ := h.block hk
  intro e
  cases e
  omega

/-- copy, where an element has m cells. -/
theorem run_copy_wide (P : Program) (w : World) (dT sT ty elem : TypeId) (g o dLen dCap m : Nat) (a : Addr) (sLen sCap : Nat) (cur : Array Value) (t : TypeId) (cs : List Value)
    (hu : P.underlying dT = some (.slice elem)) (hs : (P.info? elem).map (·.size) = some m)
    (hg : w.heap[g]? = some (.cells cur t (0, 0))) (hn : cs.length = Nat.min sLen dLen * m)
    (hsrc : ∀ j v, cs[j]? = some v → w.cell? (a.add j) = some v) (hfit : o + cs.length ≤ cur.size) (h1 : ∀ v ∈ cs, v.oneCell' = true) :
    (Builtin.copy_ #[dT, sT] ty #[.slice (some ⟨g, o, none⟩) dLen dCap, .slice (some a) sLen sCap]).run P w =
      .ok (goInt (Nat.min sLen dLen)) (w.setRow g (cur.toList.take o ++ cs ++ cur.toList.drop (o + cs.length)).toArray) := by
  have hl := run_loadCells_list (P := P) w a cs hsrc
  have hst := run_storeCells_at P g o t cs 0 cur w hg (by simpa using hfit) h1
  cases hq : P.info? elem with
  | none => simp [hq] at hs
  | some i =>
    have hi : i.size = m := by simpa [hq] using hs
    simp [Builtin.copy_, run_underlying hu, Builtin.lenOf, Builtin.firstCells, sizeOf, typeInfo, hq, hi, ← hn, hl, hst]
theorem add_at (g o j : Nat) : (⟨g, o, none⟩ : Addr).add j = ⟨g, o + j, none⟩ := by unfold Addr.add; split <;> simp_all
theorem four_one (f : Nat → PV) : ∀ v ∈ (four f).toList, v.oneCell' = true := by
  intro v hv
  simp at hv
  rcases hv with h | h | h | h | h | h | h | h | h | h | h | h | h | h | h | h <;> subst h <;> rfl
theorem four_read {w : World} {B : Nat} {T : TypeId} {f : Nat → PV} (h : Whole w B T (four f)) : ∀ j v, (four f).toList[j]? = some v → w.cell? ((⟨B, 0, none⟩ : Addr).add j) = some v := fun j v hv => by
  rw [add_at, Nat.zero_add, h.reads]; simpa using hv
/-- Four points are copied behind the first o cells of a variable of the call's own. -/
theorem copy_four (w : World) (A B o n c : Nat) (T T' : TypeId) (f : Nat → PV) (cur : Array Value) (hA : Whole w A T cur) (hB : Whole w B T' (four f)) (hn : 4 ≤ n) (hfit : o + 16 ≤ cur.size) :
    ∃ w', (Builtin.copy_ #[167, 167] 3 #[.slice (some ⟨A, o, none⟩) n c, .slice (some ⟨B, 0, none⟩) 4 4]).run Tryz.prog w = .ok (.int .i64 4) w' ∧
      Whole w' A T (cur.toList.take o ++ (four f).toList ++ cur.toList.drop (o + 16)).toArray ∧ Below A w w' := by
  have hmin : Nat.min 4 n = 4 := Nat.min_eq_left hn
  have hr := run_copy_wide Tryz.prog w 167 167 3 162 A o n c 4 ⟨B, 0, none⟩ 4 4 cur T (four f).toList Tryz.underlying167 (by kernel_rfl) hA (by rw [hmin]; rfl) (four_read hB) (by simpa using hfit) (four_one f)
  rw [hmin] at hr
  refine ⟨_, hr, setRow_heap w A cur _ T _ hA, below_setRow (Below.refl _ _) (Nat.le_refl _) _⟩

theorem pat_eight {w : World} {A : Nat} {T : TypeId} {a b : BV} (h : Whole w A T ((((#[.int .i64 0, .int .i64 0, .int .i64 0, .int .i64 0, .int .i64 0, .int .i64 0, .int .i64 0, .int .i64 0, .int .i64 0, .int .i64 0, .int .i64 0, .int .i64 0, .int .i64 0, .int .i64 0, .int .i64 0, .int .i64 0, .int .i64 0, .int .i64 0, .int .i64 0, .int .i64 0, .int .i64 0, .int .i64 0, .int .i64 0, .int .i64 0, .int .i64 0, .int .i64 0, .int .i64 0, .int .i64 0, .int .i64 0, .int .i64 0, .int .i64 0, .int .i64 0] : Array Value).toList.take 0 ++ (four (cornF a)).toList ++ (#[.int .i64 0, .int .i64 0, .int .i64 0, .int .i64 0, .int .i64 0, .int .i64 0, .int .i64 0, .int .i64 0, .int .i64 0, .int .i64 0, .int .i64 0, .int .i64 0, .int .i64 0, .int .i64 0, .int .i64 0, .int .i64 0, .int .i64 0, .int .i64 0, .int .i64 0, .int .i64 0, .int .i64 0, .int .i64 0, .int .i64 0, .int .i64 0, .int .i64 0, .int .i64 0, .int .i64 0, .int .i64 0, .int .i64 0, .int .i64 0, .int .i64 0, .int .i64 0] : Array Value).toList.drop (0 + 16)).toArray).toList.take 16 ++ (four (cornF b)).toList ++ (((#[.int .i64 0, .int .i64 0, .int .i64 0, .int .i64 0, .int .i64 0, .int .i64 0, .int .i64 0, .int .i64 0, .int .i64 0, .int .i64 0, .int .i64 0, .int .i64 0, .int .i64 0, .int .i64 0, .int .i64 0, .int .i64 0, .int .i64 0, .int .i64 0, .int .i64 0, .int .i64 0, .int .i64 0, .int .i64 0, .int .i64 0, .int .i64 0, .int .i64 0, .int .i64 0, .int .i64 0, .int .i64 0, .int .i64 0, .int .i64 0, .int .i64 0, .int .i64 0] : Array Value).toList.take 0 ++ (four (cornF a)).toList ++ (#[.int .i64 0, .int .i64 0, .int .i64 0, .int .i64 0, .int .i64 0, .int .i64 0, .int .i64 0, .int .i64 0, .int .i64 0, .int .i64 0, .int .i64 0, .int .i64 0, .int .i64 0, .int .i64 0, .int .i64 0, .int .i64 0, .int .i64 0, .int .i64 0, .int .i64 0, .int .i64 0, .int .i64 0, .int .i64 0, .int .i64 0, .int .i64 0, .int .i64 0, .int .i64 0, .int .i64 0, .int .i64 0, .int .i64 0, .int .i64 0, .int .i64 0, .int .i64 0] : Array Value).toList.drop (0 + 16)).toArray).toList.drop (16 + 16)).toArray) : ∀ i < 8, PAt w A (0 + i * 4) (bothF a b i) := by
  intro i hi
  rcases (by omega : i = 0 ∨ i = 1 ∨ i = 2 ∨ i = 3 ∨ i = 4 ∨ i = 5 ∨ i = 6 ∨ i = 7) with rfl | rfl | rfl | rfl | rfl | rfl | rfl | rfl
  · exact ⟨(h.reads _).trans rfl, (h.reads _).trans rfl, (h.reads _).trans rfl, (h.reads _).trans rfl⟩
  · exact ⟨(h.reads _).trans rfl, (h.reads _).trans rfl, (h.reads _).trans rfl, (h.reads _).trans rfl⟩
  · exact ⟨(h.reads _).trans rfl, (h.reads _).trans rfl, (h.reads _).trans rfl, (h.reads _).trans rfl⟩
  · exact ⟨(h.reads _).trans rfl, (h.reads _).trans rfl, (h.reads _).trans rfl, (h.reads _).trans rfl⟩
  · exact ⟨(h.reads _).trans rfl, (h.reads _).trans rfl, (h.reads _).trans rfl, (h.reads _).trans rfl⟩
  · exact ⟨(h.reads _).trans rfl, (h.reads _).trans rfl, (h.reads _).trans rfl, (h.reads _).trans rfl⟩
  · exact ⟨(h.reads _).trans rfl, (h.reads _).trans rfl, (h.reads _).trans rfl, (h.reads _).trans rfl⟩
  · exact ⟨(h.reads _).trans rfl, (h.reads _).trans rfl, (h.reads _).trans rfl, (h.reads _).trans rfl⟩

/-- What holds within the region: the frame's six slots that it writes, and the memory. -/
def Inv4 (w0 : World) (a b : BV) (fr : Value → Value → Value → Value → Value → Value → Act) (l : Array Bool) (act : Act) (w : World) : Prop :=
  ∃ t7 t8 t17 t18 t19 t20, act = fr t7 t8 t17 t18 t19 t20 ∧ Below w0.heap.size w0 w ∧ (On l 0 → t17 = a.val) ∧ (On l 1 → t18 = .agg (four (cornF a))) ∧ (On l 2 → t19 = b.val) ∧ (On l 3 → t20 = .agg (four (cornF b))) ∧
    Slot4 w0 l 4 6 t7 w (cornF a) ∧ Slot4 w0 l 5 7 t8 w (cornF b) ∧ Apart4 l 4 5 t7 t8
end Go.Proofs.YtdlmhienolmncaaGreat
/- The walk of box's Both. -/
namespace Go.Proofs.YtdlmhienolmncaaGreat
open Go.RowKit Dec

/-- What Both answers. -/
def BothIs (a b r : BV) (E : Int) : Prop := (a.Ok ∧ b.Ok ∧ r = joinB a b ∧ E = 0) ∨ (¬ (a.Ok ∧ b.Ok) ∧ r = .zero ∧ E = 1)
theorem BothIs.total (a b : BV) : ∃ r E, BothIs a b r E := by
  by_cases h : a.Ok ∧ b.Ok
  · exact ⟨_, _, .inl ⟨h.1, h.2, rfl, rfl⟩⟩
  · exact ⟨_, _, .inr ⟨h, rfl, rfl⟩⟩
theorem corn4_any (b : BV) (w : World) :
    Calls Tryz.prog 111 #[b.val] w fun e w' => e = .returned (.agg (four (cornF b))) ∧ Below w.heap.size w w' := corners_any b w

set_option maxRecDepth 100000 in
set_option maxHeartbeats 16000000 in
theorem both_bad (a b : BV) (w : World) (h : Hid (ChkTwo a b 1)) :
    Calls Tryz.prog 77 #[a.val, b.val] w (IsB .zero 1 w) := by
  go_enter Tryz.func77, Tryz.ntmps77
  have hA := ((BIn.made w 49 a).old (.cells #[.int .i64 b.x0.m, .int .i64 b.x0.s, .int .i64 b.y0.m, .int .i64 b.y0.s, .int .i64 b.x1.m, .int .i64 b.x1.s, .int .i64 b.y1.m, .int .i64 b.y1.s] 49)).old (.cells #[.int .i64 0, .int .i64 0, .int .i64 0, .int .i64 0, .int .i64 0, .int .i64 0, .int .i64 0, .int .i64 0] 49)
  have hB := (BIn.made (w.alloc (.cells #[.int .i64 a.x0.m, .int .i64 a.x0.s, .int .i64 a.y0.m, .int .i64 a.y0.s, .int .i64 a.x1.m, .int .i64 a.x1.s, .int .i64 a.y1.m, .int .i64 a.y1.s] 49)) 49 b).old (.cells #[.int .i64 0, .int .i64 0, .int .i64 0, .int .i64 0, .int .i64 0, .int .i64 0, .int .i64 0, .int .i64 0] 49)
  have hR := Whole.made ((w.alloc (.cells #[.int .i64 a.x0.m, .int .i64 a.x0.s, .int .i64 a.y0.m, .int .i64 a.y0.s, .int .i64 a.x1.m, .int .i64 a.x1.s, .int .i64 a.y1.m, .int .i64 a.y1.s] 49)).alloc (.cells #[.int .i64 b.x0.m, .int .i64 b.x0.s, .int .i64 b.y0.m, .int .i64 b.y0.s, .int .i64 b.x1.m, .int .i64 b.x1.s, .int .i64 b.y1.m, .int .i64 b.y1.s] 49)) 49 #[.int .i64 0, .int .i64 0, .int .i64 0, .int .i64 0, .int .i64 0, .int .i64 0, .int .i64 0, .int .i64 0]
  simp only [World.size_alloc] at hB hR
  have HB : Hid (Below w.heap.size w (((w.alloc (.cells #[.int .i64 a.x0.m, .int .i64 a.x0.s, .int .i64 a.y0.m, .int .i64 a.y0.s, .int .i64 a.x1.m, .int .i64 a.x1.s, .int .i64 a.y1.m, .int .i64 a.y1.s] 49)).alloc (.cells #[.int .i64 b.x0.m, .int .i64 b.x0.s, .int .i64 b.y0.m, .int .i64 b.y0.s, .int .i64 b.x1.m, .int .i64 b.x1.s, .int .i64 b.y1.m, .int .i64 b.y1.s] 49)).alloc (.cells #[.int .i64 0, .int .i64 0, .int .i64 0, .int .i64 0, .int .i64 0, .int .i64 0, .int .i64 0, .int .i64 0] 49))) := by
    unfold Hid
    (repeat (first | with_reducible exact Below.refl _ _ | with_reducible refine Below.drew ?_ | with_reducible refine bdrewN ?_ _ | (with_reducible refine Below.setCell ?_ ?_ _; rotate_left; focus (first | exact Nat.le_refl _ | omega | (simp; omega) | (simp; done))) | (with_reducible refine Below.alloc ?_ ?_ _; rotate_left; focus (first | exact Nat.le_refl _ | omega | (simp; omega) | (simp; done))) | (with_reducible refine Below.trans ?_ (Below.mono (by assumption) ?_); rotate_left; focus (first | exact Nat.le_refl _ | omega | (simp; omega) | (simp; done)))))
  go_wp2_with fail
  refine (chkTwo_any a b _ 1 (h.out)).mono ?_
  rintro e w2 ⟨rfl, b1⟩
  have HB := Lib.hid (HB.out.trans (b1.mono HB.out.size))
  have hA := hA.later b1
  have hB := hB.later b1
  have hR := hR.here b1
  clear b1
  have rd := hR.reads
  have ft := hR.thawed
  have lR := hR.lt
  go_wp2
  refine bodyPost_ret (v := .tuple #[BV.zero.val, .int .i64 1]) (by simp [results, Tryz.results77, go_sem, rd, BV.zero, DV.zero]) rfl ⟨rfl, ?_⟩
  (repeat (first | with_reducible refine Below.drew ?_ | with_reducible refine bdrewN ?_ _ | (with_reducible refine Below.setCell ?_ ?_ _; rotate_left; focus (first | exact Nat.le_refl _ | omega | (simp; omega) | (simp; done))) | (with_reducible refine Below.alloc ?_ ?_ _; rotate_left; focus (first | exact Nat.le_refl _ | omega | (simp; omega) | (simp; done))))); with_reducible exact HB.out
set_option maxRecDepth 100000 in
set_option maxHeartbeats 16000000 in
theorem both_ok (a b : BV) (w : World) (h : Hid (ChkTwo a b 0)) (h' : Hid (OfIs (bothF a b) 8 (joinB a b) 0)) :
    Calls Tryz.prog 77 #[a.val, b.val] w (IsB (joinB a b) 0 w) := by
  go_enter Tryz.func77, Tryz.ntmps77
  have hA := ((BIn.made w 49 a).old (.cells #[.int .i64 b.x0.m, .int .i64 b.x0.s, .int .i64 b.y0.m, .int .i64 b.y0.s, .int .i64 b.x1.m, .int .i64 b.x1.s, .int .i64 b.y1.m, .int .i64 b.y1.s] 49)).old (.cells #[.int .i64 0, .int .i64 0, .int .i64 0, .int .i64 0, .int .i64 0, .int .i64 0, .int .i64 0, .int .i64 0] 49)
  have hB := (BIn.made (w.alloc (.cells #[.int .i64 a.x0.m, .int .i64 a.x0.s, .int .i64 a.y0.m, .int .i64 a.y0.s, .int .i64 a.x1.m, .int .i64 a.x1.s, .int .i64 a.y1.m, .int .i64 a.y1.s] 49)) 49 b).old (.cells #[.int .i64 0, .int .i64 0, .int .i64 0, .int .i64 0, .int .i64 0, .int .i64 0, .int .i64 0, .int .i64 0] 49)
  have hR := Whole.made ((w.alloc (.cells #[.int .i64 a.x0.m, .int .i64 a.x0.s, .int .i64 a.y0.m, .int .i64 a.y0.s, .int .i64 a.x1.m, .int .i64 a.x1.s, .int .i64 a.y1.m, .int .i64 a.y1.s] 49)).alloc (.cells #[.int .i64 b.x0.m, .int .i64 b.x0.s, .int .i64 b.y0.m, .int .i64 b.y0.s, .int .i64 b.x1.m, .int .i64 b.x1.s, .int .i64 b.y1.m, .int .i64 b.y1.s] 49)) 49 #[.int .i64 0, .int .i64 0, .int .i64 0, .int .i64 0, .int .i64 0, .int .i64 0, .int .i64 0, .int .i64 0]
  simp only [World.size_alloc] at hB hR
  have HB : Hid (Below w.heap.size w (((w.alloc (.cells #[.int .i64 a.x0.m, .int .i64 a.x0.s, .int .i64 a.y0.m, .int .i64 a.y0.s, .int .i64 a.x1.m, .int .i64 a.x1.s, .int .i64 a.y1.m, .int .i64 a.y1.s] 49)).alloc (.cells #[.int .i64 b.x0.m, .int .i64 b.x0.s, .int .i64 b.y0.m, .int .i64 b.y0.s, .int .i64 b.x1.m, .int .i64 b.x1.s, .int .i64 b.y1.m, .int .i64 b.y1.s] 49)).alloc (.cells #[.int .i64 0, .int .i64 0, .int .i64 0, .int .i64 0, .int .i64 0, .int .i64 0, .int .i64 0, .int .i64 0] 49))) := by
    unfold Hid
    (repeat (first | with_reducible exact Below.refl _ _ | with_reducible refine Below.drew ?_ | with_reducible refine bdrewN ?_ _ | (with_reducible refine Below.setCell ?_ ?_ _; rotate_left; focus (first | exact Nat.le_refl _ | omega | (simp; omega) | (simp; done))) | (with_reducible refine Below.alloc ?_ ?_ _; rotate_left; focus (first | exact Nat.le_refl _ | omega | (simp; omega) | (simp; done))) | (with_reducible refine Below.trans ?_ (Below.mono (by assumption) ?_); rotate_left; focus (first | exact Nat.le_refl _ | omega | (simp; omega) | (simp; done)))))
  go_wp2_with fail
  refine (chkTwo_any a b _ 0 (h.out)).mono ?_
  rintro e w2 ⟨rfl, b1⟩
  have HB := Lib.hid (HB.out.trans (b1.mono HB.out.size))
  have hA := hA.later b1
  have hB := hB.later b1
  have hR := hR.here b1
  clear b1
  have hS := And.intro hA hB
  go_wp2_with fail
  have gR : w.heap.size ≤ w.heap.size + 1 + 1 := by omega
  generalize w.heap.size + 1 + 1 = bR at *
  generalize w.heap.size + 1 = bB at *
  have lw := HB.out.size
  have lA := hA.lt
  have lB := hB.lt
  have lR := hR.lt
  have HV := Below.refl w2.heap.size w2
  have H' := Lib.hid h'
  clear hS h'
  refine wp_region_inv2 (Inv4 w2 a b (fun t7 t8 t17 t18 t19 t20 => { tmps := #[a.val, b.val, .pointer (some ⟨w.heap.size, 0, none⟩), .pointer (some ⟨bB, 0, none⟩), .pointer (some ⟨bR, 0, none⟩), .int .i64 0, .int .i64 0, t7, t8, undef, .agg #[.int .i64 a.x0.m, .int .i64 a.x0.s, .int .i64 a.y0.m, .int .i64 a.y0.s, .int .i64 a.x1.m, .int .i64 a.x1.s, .int .i64 a.y1.m, .int .i64 a.y1.s], .agg #[.int .i64 b.x0.m, .int .i64 b.x0.s, .int .i64 b.y0.m, .int .i64 b.y0.s, .int .i64 b.x1.m, .int .i64 b.x1.s, .int .i64 b.y1.m, .int .i64 b.y1.s], .int .i64 0, .int .i64 0, .bool false, undef, undef, t17, t18, t19, t20, undef, undef, undef, undef, undef, undef, undef, undef, undef, undef], defers := [] })) (by kernel_rfl) (by kernel_rfl) ?start ?step ?fin
  case start =>
    exact ⟨undef, undef, undef, undef, undef, undef, rfl, (Below.refl _ _).drew, fun h => absurd h on_none, fun h => absurd h on_none, fun h => absurd h on_none, fun h => absurd h on_none,
      ⟨fun h => absurd h on_none, fun h => absurd h on_none⟩, ⟨fun h => absurd h on_none, fun h => absurd h on_none⟩, fun h => absurd h on_none⟩
  case step =>
    intro i o r l act v ho hi hun hall hI K hK
    obtain ⟨t7, t8, t17, t18, t19, t20, rfl, hb, e17, e18, e19, e20, s7, s8, ne⟩ := hI
    have hA' := hA.later hb
    have hB' := hB.later hb
    have lA' := hA'.lt
    have lB' := hB'.lt
    have E17 := Lib.hid e17
    have E18 := Lib.hid e18
    have E19 := Lib.hid e19
    have E20 := Lib.hid e20
    have NE := Lib.hid ne
    have HALL := Lib.hid hall
    clear e17 e18 e19 e20 ne hall hA hB hR
    rcases (by have : i < 8 := hi; omega : i = 0 ∨ i = 1 ∨ i = 2 ∨ i = 3 ∨ i = 4 ∨ i = 5 ∨ i = 6 ∨ i = 7) with rfl | rfl | rfl | rfl | rfl | rfl | rfl | rfl
    · cases ho
      obtain ⟨p0, p1, p2, p3, p4, p5, p6, p7⟩ := id hA'
      clear hA' hB'
      go_simp
      exact hK.out _ _ ⟨t7, t8, a.val, t18, t19, t20, rfl, hb, fun _ => rfl, fun h => E18.out (on_old (by decide) h), fun h => E19.out (on_old (by decide) h), fun h => E20.out (on_old (by decide) h), s7.keep (by decide) (by decide), s8.keep (by decide) (by decide), fun h1 h2 => NE.out (on_old (by decide) h1) (on_old (by decide) h2)⟩
    · cases ho
      obtain rfl := E17.out (HALL.out ⟨0, .data⟩ (by simp) rfl)
      clear hA' hB'
      go_simp
      go_at_call 111; refine (corn4_any a _).mono ?_
      rintro e v3 ⟨rfl, k3⟩
      go_wp2_with fail
      exact hK.out _ _ ⟨t7, t8, a.val, .agg (four (cornF a)), t19, t20, rfl, hb.trans (k3.mono hb.size), fun _ => rfl, fun _ => rfl, fun h => E19.out (on_old (by decide) h), fun h => E20.out (on_old (by decide) h), (s7.later k3).keep (by decide) (by decide), (s8.later k3).keep (by decide) (by decide), fun h1 h2 => NE.out (on_old (by decide) h1) (on_old (by decide) h2)⟩
    · cases ho
      obtain ⟨p0, p1, p2, p3, p4, p5, p6, p7⟩ := id hB'
      clear hA' hB'
      go_simp
      exact hK.out _ _ ⟨t7, t8, t17, t18, b.val, t20, rfl, hb, fun h => E17.out (on_old (by decide) h), fun h => E18.out (on_old (by decide) h), fun _ => rfl, fun h => E20.out (on_old (by decide) h), s7.keep (by decide) (by decide), s8.keep (by decide) (by decide), fun h1 h2 => NE.out (on_old (by decide) h1) (on_old (by decide) h2)⟩
    · cases ho
      obtain rfl := E19.out (HALL.out ⟨2, .data⟩ (by simp) rfl)
      clear hA' hB'
      go_simp
      go_at_call 111; refine (corn4_any b _).mono ?_
      rintro e v3 ⟨rfl, k3⟩
      go_wp2_with fail
      exact hK.out _ _ ⟨t7, t8, t17, t18, b.val, .agg (four (cornF b)), rfl, hb.trans (k3.mono hb.size), fun h => E17.out (on_old (by decide) h), fun h => E18.out (on_old (by decide) h), fun _ => rfl, fun _ => rfl, (s7.later k3).keep (by decide) (by decide), (s8.later k3).keep (by decide) (by decide), fun h1 h2 => NE.out (on_old (by decide) h1) (on_old (by decide) h2)⟩
    · cases ho
      clear hA' hB'
      go_simp
      exact hK.out _ _ ⟨.pointer (some ⟨v.heap.size, 0, none⟩), t8, t17, t18, t19, t20, rfl, hb.alloc hb.size _, fun h => E17.out (on_old (by decide) h), fun h => E18.out (on_old (by decide) h), fun h => E19.out (on_old (by decide) h), fun h => E20.out (on_old (by decide) h), s7.made (by decide) hun hb.size, (s8.old _).keep (by decide) (by decide), fun _ h2 e => s8.unlike (on_old (by decide) h2) e.symm⟩
    · cases ho
      clear hA' hB'
      go_simp
      exact hK.out _ _ ⟨t7, .pointer (some ⟨v.heap.size, 0, none⟩), t17, t18, t19, t20, rfl, hb.alloc hb.size _, fun h => E17.out (on_old (by decide) h), fun h => E18.out (on_old (by decide) h), fun h => E19.out (on_old (by decide) h), fun h => E20.out (on_old (by decide) h), (s7.old _).keep (by decide) (by decide), s8.made (by decide) hun hb.size, fun h1 _ e => s7.unlike (on_old (by decide) h1) e⟩
    · cases ho
      have onk := HALL.out ⟨4, .data⟩ (by simp) rfl
      obtain rfl := E18.out (HALL.out ⟨1, .data⟩ (by simp) rfl)
      obtain ⟨B, rfl, gB, ⟨h1, -⟩ | ⟨-, hW⟩⟩ := s7.2 onk
      · exact absurd h1 (off_of hun)
      have oth : ∀ x0 x1 x2 x3 x4 x5 x6 x7 x8 x9 x10 x11 x12 x13 x14 x15 : Value, Slot4 w2 (l.setIfInBounds 6 true) 5 7 t8 ((((((((((((((((v.setCell ⟨B, 0, none⟩ x0).setCell ⟨B, 1, none⟩ x1).setCell ⟨B, 2, none⟩ x2).setCell ⟨B, 3, none⟩ x3).setCell ⟨B, 4, none⟩ x4).setCell ⟨B, 5, none⟩ x5).setCell ⟨B, 6, none⟩ x6).setCell ⟨B, 7, none⟩ x7).setCell ⟨B, 8, none⟩ x8).setCell ⟨B, 9, none⟩ x9).setCell ⟨B, 10, none⟩ x10).setCell ⟨B, 11, none⟩ x11).setCell ⟨B, 12, none⟩ x12).setCell ⟨B, 13, none⟩ x13).setCell ⟨B, 14, none⟩ x14).setCell ⟨B, 15, none⟩ x15) (cornF b) := fun x0 x1 x2 x3 x4 x5 x6 x7 x8 x9 x10 x11 x12 x13 x14 x15 => by
        refine Slot4.keep ⟨s8.1, fun h' => ?_⟩ (by decide) (by decide)
        obtain ⟨B', e', gB', h2⟩ := s8.2 h'
        have hne : B' ≠ B := fun e => NE.out onk h' (by rw [e', e])
        refine ⟨B', e', gB', ?_⟩
        rcases h2 with ⟨h2, h3⟩ | ⟨h2, h3⟩
        · exact .inl ⟨h2, h3.away16 hne⟩
        · exact .inr ⟨h2, h3.away16 hne⟩
      have rd := hW.reads
      have ft := hW.thawed
      have lW := hW.lt
      clear hA' hB'
      go_simp
      exact hK.out _ _ ⟨.pointer (some ⟨B, 0, none⟩), t8, t17, .agg (four (cornF a)), t19, t20, rfl, B16 gB hb, fun h => E17.out (on_old (by decide) h), fun _ => rfl, fun h => E19.out (on_old (by decide) h), fun h => E20.out (on_old (by decide) h), ⟨fun _ => (by unfold On at onk ⊢; rw [getD_set_ne false (by decide)]; exact onk), fun _ => ⟨B, rfl, gB, .inl ⟨on_new hun, Whole.fill16 hW⟩⟩⟩, oth _ _ _ _ _ _ _ _ _ _ _ _ _ _ _ _, fun h1 h2 => NE.out (on_old (by decide) h1) (on_old (by decide) h2)⟩
    · cases ho
      have onk := HALL.out ⟨5, .data⟩ (by simp) rfl
      obtain rfl := E20.out (HALL.out ⟨3, .data⟩ (by simp) rfl)
      obtain ⟨B, rfl, gB, ⟨h1, -⟩ | ⟨-, hW⟩⟩ := s8.2 onk
      · exact absurd h1 (off_of hun)
      have oth : ∀ x0 x1 x2 x3 x4 x5 x6 x7 x8 x9 x10 x11 x12 x13 x14 x15 : Value, Slot4 w2 (l.setIfInBounds 7 true) 4 6 t7 ((((((((((((((((v.setCell ⟨B, 0, none⟩ x0).setCell ⟨B, 1, none⟩ x1).setCell ⟨B, 2, none⟩ x2).setCell ⟨B, 3, none⟩ x3).setCell ⟨B, 4, none⟩ x4).setCell ⟨B, 5, none⟩ x5).setCell ⟨B, 6, none⟩ x6).setCell ⟨B, 7, none⟩ x7).setCell ⟨B, 8, none⟩ x8).setCell ⟨B, 9, none⟩ x9).setCell ⟨B, 10, none⟩ x10).setCell ⟨B, 11, none⟩ x11).setCell ⟨B, 12, none⟩ x12).setCell ⟨B, 13, none⟩ x13).setCell ⟨B, 14, none⟩ x14).setCell ⟨B, 15, none⟩ x15) (cornF a) := fun x0 x1 x2 x3 x4 x5 x6 x7 x8 x9 x10 x11 x12 x13 x14 x15 => by
        refine Slot4.keep ⟨s7.1, fun h' => ?_⟩ (by decide) (by decide)
        obtain ⟨B', e', gB', h2⟩ := s7.2 h'
        have hne : B' ≠ B := fun e => NE.out h' onk (by rw [e', e])
        refine ⟨B', e', gB', ?_⟩
        rcases h2 with ⟨h2, h3⟩ | ⟨h2, h3⟩
        · exact .inl ⟨h2, h3.away16 hne⟩
        · exact .inr ⟨h2, h3.away16 hne⟩
      have rd := hW.reads
      have ft := hW.thawed
      have lW := hW.lt
      clear hA' hB'
      go_simp
      exact hK.out _ _ ⟨t7, .pointer (some ⟨B, 0, none⟩), t17, t18, t19, .agg (four (cornF b)), rfl, B16 gB hb, fun h => E17.out (on_old (by decide) h), fun h => E18.out (on_old (by decide) h), fun h => E19.out (on_old (by decide) h), fun _ => rfl, oth _ _ _ _ _ _ _ _ _ _ _ _ _ _ _ _, ⟨fun _ => (by unfold On at onk ⊢; rw [getD_set_ne false (by decide)]; exact onk), fun _ => ⟨B, rfl, gB, .inl ⟨on_new hun, Whole.fill16 hW⟩⟩⟩, fun h1 h2 => NE.out (on_old (by decide) h1) (on_old (by decide) h2)⟩
  case fin =>
    intro l act v hon hI
    obtain ⟨t7, t8, t17, t18, t19, t20, rfl, hb, e17, e18, e19, e20, s7, s8, ne⟩ := hI
    obtain rfl := e17 (hon 0 (by decide))
    obtain rfl := e18 (hon 1 (by decide))
    obtain rfl := e19 (hon 2 (by decide))
    obtain rfl := e20 (hon 3 (by decide))
    obtain ⟨g, rfl, gg, hx⟩ := s7.2 (hon 4 (by decide))
    have hG := (hx.resolve_right (fun h => h.1 (hon 6 (by decide)))).2
    clear hx
    obtain ⟨k, rfl, gk, hx⟩ := s8.2 (hon 5 (by decide))
    have hH := (hx.resolve_right (fun h => h.1 (hon 7 (by decide)))).2
    clear hx
    have HB := Lib.hid (HB.out.trans (hb.mono HB.out.size))
    have hR := hR.here hb
    clear hA hB hb e17 e18 e19 e20 s7 s8 ne hon HV lA lB lR
    have lG := hG.lt
    have lH := hH.lt
    have lR := hR.lt
    have lG' := hG.lt
    have lH' := hH.lt
    have lR' := hR.lt
    have lv := HB.out.size
    dsimp only
    go_wp2_with fail
    have hG := hG.old (.cells #[.int .i64 0, .int .i64 0, .int .i64 0, .int .i64 0, .int .i64 0, .int .i64 0, .int .i64 0, .int .i64 0, .int .i64 0, .int .i64 0, .int .i64 0, .int .i64 0, .int .i64 0, .int .i64 0, .int .i64 0, .int .i64 0, .int .i64 0, .int .i64 0, .int .i64 0, .int .i64 0, .int .i64 0, .int .i64 0, .int .i64 0, .int .i64 0, .int .i64 0, .int .i64 0, .int .i64 0, .int .i64 0, .int .i64 0, .int .i64 0, .int .i64 0, .int .i64 0] 166)
    have hH := hH.old (.cells #[.int .i64 0, .int .i64 0, .int .i64 0, .int .i64 0, .int .i64 0, .int .i64 0, .int .i64 0, .int .i64 0, .int .i64 0, .int .i64 0, .int .i64 0, .int .i64 0, .int .i64 0, .int .i64 0, .int .i64 0, .int .i64 0, .int .i64 0, .int .i64 0, .int .i64 0, .int .i64 0, .int .i64 0, .int .i64 0, .int .i64 0, .int .i64 0, .int .i64 0, .int .i64 0, .int .i64 0, .int .i64 0, .int .i64 0, .int .i64 0, .int .i64 0, .int .i64 0] 166)
    have hR := hR.old (.cells #[.int .i64 0, .int .i64 0, .int .i64 0, .int .i64 0, .int .i64 0, .int .i64 0, .int .i64 0, .int .i64 0, .int .i64 0, .int .i64 0, .int .i64 0, .int .i64 0, .int .i64 0, .int .i64 0, .int .i64 0, .int .i64 0, .int .i64 0, .int .i64 0, .int .i64 0, .int .i64 0, .int .i64 0, .int .i64 0, .int .i64 0, .int .i64 0, .int .i64 0, .int .i64 0, .int .i64 0, .int .i64 0, .int .i64 0, .int .i64 0, .int .i64 0, .int .i64 0] 166)
    have hT := Whole.made v 166 #[.int .i64 0, .int .i64 0, .int .i64 0, .int .i64 0, .int .i64 0, .int .i64 0, .int .i64 0, .int .i64 0, .int .i64 0, .int .i64 0, .int .i64 0, .int .i64 0, .int .i64 0, .int .i64 0, .int .i64 0, .int .i64 0, .int .i64 0, .int .i64 0, .int .i64 0, .int .i64 0, .int .i64 0, .int .i64 0, .int .i64 0, .int .i64 0, .int .i64 0, .int .i64 0, .int .i64 0, .int .i64 0, .int .i64 0, .int .i64 0, .int .i64 0, .int .i64 0]
    have HB := Lib.hid (HB.out.alloc HB.out.size (.cells #[.int .i64 0, .int .i64 0, .int .i64 0, .int .i64 0, .int .i64 0, .int .i64 0, .int .i64 0, .int .i64 0, .int .i64 0, .int .i64 0, .int .i64 0, .int .i64 0, .int .i64 0, .int .i64 0, .int .i64 0, .int .i64 0, .int .i64 0, .int .i64 0, .int .i64 0, .int .i64 0, .int .i64 0, .int .i64 0, .int .i64 0, .int .i64 0, .int .i64 0, .int .i64 0, .int .i64 0, .int .i64 0, .int .i64 0, .int .i64 0, .int .i64 0, .int .i64 0] 166))
    clear lG lH lR
    have gA : w.heap.size ≤ v.heap.size := by omega
    have gGA : g < v.heap.size := lG'
    have gHA : k < v.heap.size := lH'
    have gRA : bR < v.heap.size := lR'
    revert hG hH hR hT HB
    generalize v.alloc (.cells #[.int .i64 0, .int .i64 0, .int .i64 0, .int .i64 0, .int .i64 0, .int .i64 0, .int .i64 0, .int .i64 0, .int .i64 0, .int .i64 0, .int .i64 0, .int .i64 0, .int .i64 0, .int .i64 0, .int .i64 0, .int .i64 0, .int .i64 0, .int .i64 0, .int .i64 0, .int .i64 0, .int .i64 0, .int .i64 0, .int .i64 0, .int .i64 0, .int .i64 0, .int .i64 0, .int .i64 0, .int .i64 0, .int .i64 0, .int .i64 0, .int .i64 0, .int .i64 0] 166) = W
    generalize v.heap.size = A at *
    intro hG hH hR hT HB
    have lG := hG.lt
    have lT := hT.lt
    obtain ⟨W1, hc1, hT1, hb1⟩ := copy_four W.drew A g 0 8 8 _ _ (cornF a) _ (hT.drawn 1) (hG.drawn 1) (by omega) (by decide)
    have HB := Lib.hid (HB.out.trans (((Below.refl _ _).drew.trans hb1).mono gA))
    have hH := hH.later ((Below.refl _ _).drew.trans hb1) gHA
    have hR := hR.later ((Below.refl _ _).drew.trans hb1) gRA
    have HT1 := Lib.hid hT1
    clear hT hG hb1 hT1
    go_region
    clear hc1
    have lT1 := HT1.out.lt
    obtain ⟨W2, hc2, hT2, hb2⟩ := copy_four W1.drew A k 16 4 4 _ _ (cornF b) _ (HT1.out.drawn 1) (hH.drawn 1) (by omega) (by simp)
    have HB := Lib.hid (HB.out.trans (((Below.refl _ _).drew.trans hb2).mono gA))
    have hR := hR.later ((Below.refl _ _).drew.trans hb2) gRA
    have HT2 := Lib.hid hT2
    clear hH hb2 hT2 HT1
    go_wp2_with fail
    go_region
    clear hc2
    go_wp2_with fail
    refine (of_any (bothF a b) 8 8 A 0 _ (joinB a b) 0 (by omega) (by omega) (Lib.hid (pat_eight HT2.out)) H').mono ?_
    rintro e w5 ⟨rfl, b1⟩
    have HB := Lib.hid (HB.out.trans (b1.mono HB.out.size))
    have hR := hR.here b1
    clear b1 HT2 gA gHA gRA gGA lv
    have rd := hR.reads
    have ft := hR.thawed
    have lR := hR.lt
    go_wp2
    refine bodyPost_ret (v := .tuple #[(joinB a b).val, .int .i64 0]) (by simp [results, Tryz.results77, go_sem, rd]) rfl ⟨rfl, ?_⟩
    (repeat (first | with_reducible refine Below.drew ?_ | with_reducible refine bdrewN ?_ _ | (with_reducible refine Below.setCell ?_ ?_ _; rotate_left; focus (first | exact Nat.le_refl _ | omega | (simp; omega) | (simp; done))) | (with_reducible refine Below.alloc ?_ ?_ _; rotate_left; focus (first | exact Nat.le_refl _ | omega | (simp; omega) | (simp; done))))); with_reducible exact HB.out
theorem both_any (a b r : BV) (E : Int) (w : World) (h : BothIs a b r E) :
    Calls Tryz.prog 77 #[a.val, b.val] w (IsB r E w) := by
  rcases h with ⟨ha, hb, rfl, rfl⟩ | ⟨h, rfl, rfl⟩
  · exact both_ok a b w (.inl ⟨ha, hb, rfl⟩) (.inr (.inr ⟨by omega, fun i _ => bothF_ok ha hb i, (both_join ha hb).symm, rfl⟩))
  · exact both_bad a b w (.inr ⟨h, rfl⟩)
end Go.Proofs.YtdlmhienolmncaaGreat
