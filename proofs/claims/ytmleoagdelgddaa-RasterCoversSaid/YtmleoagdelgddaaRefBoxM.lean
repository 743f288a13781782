/- Four points as cells; what mapAll answers. -/
import Derived.Test.YtmleoagdelgddaaBoxOf
import Derived.Deep.DeepCutAuto
import Derived.Test.YtmleoagdelgddaaRegionS
import Derived.Laws.CopyRow
import Derived.Laws.CopyOwn
import Derived.Test.YtmleoagdelgddaaRefBoxF
import Derived.Deep.RegionHeld3
namespace Go.Proofs.Ytmleoagdelgddaa
open Go.RowKit Dec

/-- Four points, as cells. -/
abbrev four (g : Nat → PV) : Array Value := #[.int .i64 (g 0).x.m, .int .i64 (g 0).x.s, .int .i64 (g 0).y.m, .int .i64 (g 0).y.s, .int .i64 (g 1).x.m, .int .i64 (g 1).x.s, .int .i64 (g 1).y.m, .int .i64 (g 1).y.s, .int .i64 (g 2).x.m, .int .i64 (g 2).x.s, .int .i64 (g 2).y.m, .int .i64 (g 2).y.s, .int .i64 (g 3).x.m, .int .i64 (g 3).x.s, .int .i64 (g 3).y.m, .int .i64 (g 3).y.s]
def mix (q g : Nat → PV) (k : Nat) (i : Nat) : PV := if i < k then q i else g i
theorem four_at (f : Nat → PV) (k : Nat) (hk : k < 4) : (four f)[k * 4]? = some (.int .i64 (f k).x.m) ∧ (four f)[k * 4 + 1]? = some (.int .i64 (f k).x.s) ∧ (four f)[k * 4 + 2]? = some (.int .i64 (f k).y.m) ∧ (four f)[k * 4 + 3]? = some (.int .i64 (f k).y.s) := by
  rcases (by omega : k = 0 ∨ k = 1 ∨ k = 2 ∨ k = 3) with rfl | rfl | rfl | rfl
  · exact ⟨rfl, rfl, rfl, rfl⟩
  · exact ⟨rfl, rfl, rfl, rfl⟩
  · exact ⟨rfl, rfl, rfl, rfl⟩
  · exact ⟨rfl, rfl, rfl, rfl⟩
theorem mix_cells (q g : Nat → PV) (k : Nat) (hk : k < 4) : ((((four (mix q g k)).setIfInBounds (k * 4) (.int .i64 (q k).x.m)).setIfInBounds (k * 4 + 1) (.int .i64 (q k).x.s)).setIfInBounds (k * 4 + 2) (.int .i64 (q k).y.m)).setIfInBounds (k * 4 + 3) (.int .i64 (q k).y.s) = four (mix q g (k + 1)) := by
  rcases (by omega : k = 0 ∨ k = 1 ∨ k = 2 ∨ k = 3) with rfl | rfl | rfl | rfl
  · rfl
  · rfl
  · rfl
  · rfl
theorem mix_all (q g : Nat → PV) : four (mix q g 4) = four q := rfl

theorem MIn.away4 {w : World} {g B : Nat} {p : MV} (h : MIn w g p) (hn : ¬ B = g) (i j k l : Nat) (a b c d : Value) :
    MIn ((((w.setCell ⟨B, i, none⟩ a).setCell ⟨B, j, none⟩ b).setCell ⟨B, k, none⟩ c).setCell ⟨B, l, none⟩ d) g p := by
  obtain ⟨a0, a1, a2, a3, a4, a5, a6, a7, a8, a9, a10, a11⟩ := h
  exact ⟨far' hn (far' hn (far' hn (far' hn a0))), far' hn (far' hn (far' hn (far' hn a1))), far' hn (far' hn (far' hn (far' hn a2))), far' hn (far' hn (far' hn (far' hn a3))), far' hn (far' hn (far' hn (far' hn a4))), far' hn (far' hn (far' hn (far' hn a5))), far' hn (far' hn (far' hn (far' hn a6))), far' hn (far' hn (far' hn (far' hn a7))), far' hn (far' hn (far' hn (far' hn a8))), far' hn (far' hn (far' hn (far' hn a9))), far' hn (far' hn (far' hn (far' hn a10))), far' hn (far' hn (far' hn (far' hn a11)))⟩

/-- What mapAll answers. -/
def AllIs (q : Nat → PV) (e : Nat → Int) (r : Nat → PV) (E : Int) : Prop :=
  ((∀ i < 4, e i = 0) ∧ r = q ∧ E = 0) ∨ (∃ k < 4, (∀ i < k, e i = 0) ∧ e k ≠ 0 ∧ r = (fun _ => .zero) ∧ E = e k)
end Go.Proofs.Ytmleoagdelgddaa

/- The walk of box's mapAll, where all four can be told. -/
namespace Go.Proofs.Ytmleoagdelgddaa
open Go.RowKit Dec

end Go.Proofs.Ytmleoagdelgddaa

/- The walk of box's mapAll, where one cannot be told. -/
namespace Go.Proofs.Ytmleoagdelgddaa
open Go.RowKit Dec

end Go.Proofs.Ytmleoagdelgddaa

/- The walk of box's Map. -/
namespace Go.Proofs.Ytmleoagdelgddaa
open Go.RowKit Dec

theorem uncons {α : Type} {n : Nat} {l : List α} (h : l.length = n + 1) : ∃ a t, l = a :: t ∧ t.length = n := by
  cases l with
  | nil => cases h
  | cons a t => exact ⟨a, t, rfl, by simpa using h⟩
theorem set16 (l : List Value) (hl : l.length = 16) (x0 x1 x2 x3 x4 x5 x6 x7 x8 x9 x10 x11 x12 x13 x14 x15 : Value) : ((((((((((((((((l.toArray.setIfInBounds 0 x0).setIfInBounds 1 x1).setIfInBounds 2 x2).setIfInBounds 3 x3).setIfInBounds 4 x4).setIfInBounds 5 x5).setIfInBounds 6 x6).setIfInBounds 7 x7).setIfInBounds 8 x8).setIfInBounds 9 x9).setIfInBounds 10 x10).setIfInBounds 11 x11).setIfInBounds 12 x12).setIfInBounds 13 x13).setIfInBounds 14 x14).setIfInBounds 15 x15) = #[x0, x1, x2, x3, x4, x5, x6, x7, x8, x9, x10, x11, x12, x13, x14, x15] := by
  obtain ⟨a0, l0, rfl, h0⟩ := uncons hl
  obtain ⟨a1, l1, rfl, h1⟩ := uncons h0
  obtain ⟨a2, l2, rfl, h2⟩ := uncons h1
  obtain ⟨a3, l3, rfl, h3⟩ := uncons h2
  obtain ⟨a4, l4, rfl, h4⟩ := uncons h3
  obtain ⟨a5, l5, rfl, h5⟩ := uncons h4
  obtain ⟨a6, l6, rfl, h6⟩ := uncons h5
  obtain ⟨a7, l7, rfl, h7⟩ := uncons h6
  obtain ⟨a8, l8, rfl, h8⟩ := uncons h7
  obtain ⟨a9, l9, rfl, h9⟩ := uncons h8
  obtain ⟨a10, l10, rfl, h10⟩ := uncons h9
  obtain ⟨a11, l11, rfl, h11⟩ := uncons h10
  obtain ⟨a12, l12, rfl, h12⟩ := uncons h11
  obtain ⟨a13, l13, rfl, h13⟩ := uncons h12
  obtain ⟨a14, l14, rfl, h14⟩ := uncons h13
  obtain ⟨a15, l15, rfl, h15⟩ := uncons h14
  cases l15 with
  | nil => simp only [List.setIfInBounds_toArray, List.set_cons_zero, List.set_cons_succ]
  | cons _ _ => cases h15
theorem Whole.store16 {w : World} {B : Nat} {T : TypeId} {x0 x1 x2 x3 x4 x5 x6 x7 x8 x9 x10 x11 x12 x13 x14 x15 : Value} {cs : Array Value} (h : Whole w B T cs) (hs : cs.size = 16) :
    Whole ((((((((((((((((w.setCell ⟨B, 0, none⟩ x0).setCell ⟨B, 1, none⟩ x1).setCell ⟨B, 2, none⟩ x2).setCell ⟨B, 3, none⟩ x3).setCell ⟨B, 4, none⟩ x4).setCell ⟨B, 5, none⟩ x5).setCell ⟨B, 6, none⟩ x6).setCell ⟨B, 7, none⟩ x7).setCell ⟨B, 8, none⟩ x8).setCell ⟨B, 9, none⟩ x9).setCell ⟨B, 10, none⟩ x10).setCell ⟨B, 11, none⟩ x11).setCell ⟨B, 12, none⟩ x12).setCell ⟨B, 13, none⟩ x13).setCell ⟨B, 14, none⟩ x14).setCell ⟨B, 15, none⟩ x15) B T #[x0, x1, x2, x3, x4, x5, x6, x7, x8, x9, x10, x11, x12, x13, x14, x15] := by
  have h' := ((((((((((((((((h.set 0 x0).set 1 x1).set 2 x2).set 3 x3).set 4 x4).set 5 x5).set 6 x6).set 7 x7).set 8 x8).set 9 x9).set 10 x10).set 11 x11).set 12 x12).set 13 x13).set 14 x14).set 15 x15)
  obtain ⟨l⟩ := cs
  rw [set16 l hs] at h'
  exact h'
theorem Whole.fill16 {w : World} {B : Nat} {T : TypeId} {x0 x1 x2 x3 x4 x5 x6 x7 x8 x9 x10 x11 x12 x13 x14 x15 : Value} (h : Whole w B T #[.int .i64 0, .int .i64 0, .int .i64 0, .int .i64 0, .int .i64 0, .int .i64 0, .int .i64 0, .int .i64 0, .int .i64 0, .int .i64 0, .int .i64 0, .int .i64 0, .int .i64 0, .int .i64 0, .int .i64 0, .int .i64 0]) :
    Whole ((((((((((((((((w.setCell ⟨B, 0, none⟩ x0).setCell ⟨B, 1, none⟩ x1).setCell ⟨B, 2, none⟩ x2).setCell ⟨B, 3, none⟩ x3).setCell ⟨B, 4, none⟩ x4).setCell ⟨B, 5, none⟩ x5).setCell ⟨B, 6, none⟩ x6).setCell ⟨B, 7, none⟩ x7).setCell ⟨B, 8, none⟩ x8).setCell ⟨B, 9, none⟩ x9).setCell ⟨B, 10, none⟩ x10).setCell ⟨B, 11, none⟩ x11).setCell ⟨B, 12, none⟩ x12).setCell ⟨B, 13, none⟩ x13).setCell ⟨B, 14, none⟩ x14).setCell ⟨B, 15, none⟩ x15) B T #[x0, x1, x2, x3, x4, x5, x6, x7, x8, x9, x10, x11, x12, x13, x14, x15] := h.store16 rfl
theorem Whole.away16 {w : World} {g B : Nat} {T : TypeId} {x0 x1 x2 x3 x4 x5 x6 x7 x8 x9 x10 x11 x12 x13 x14 x15 : Value} {cs : Array Value} (h : Whole w g T cs) (hn : g ≠ B) :
    Whole ((((((((((((((((w.setCell ⟨B, 0, none⟩ x0).setCell ⟨B, 1, none⟩ x1).setCell ⟨B, 2, none⟩ x2).setCell ⟨B, 3, none⟩ x3).setCell ⟨B, 4, none⟩ x4).setCell ⟨B, 5, none⟩ x5).setCell ⟨B, 6, none⟩ x6).setCell ⟨B, 7, none⟩ x7).setCell ⟨B, 8, none⟩ x8).setCell ⟨B, 9, none⟩ x9).setCell ⟨B, 10, none⟩ x10).setCell ⟨B, 11, none⟩ x11).setCell ⟨B, 12, none⟩ x12).setCell ⟨B, 13, none⟩ x13).setCell ⟨B, 14, none⟩ x14).setCell ⟨B, 15, none⟩ x15) g T cs := ((((((((((((((((h.away (p := ⟨B, 0, none⟩) hn x0).away (p := ⟨B, 1, none⟩) hn x1).away (p := ⟨B, 2, none⟩) hn x2).away (p := ⟨B, 3, none⟩) hn x3).away (p := ⟨B, 4, none⟩) hn x4).away (p := ⟨B, 5, none⟩) hn x5).away (p := ⟨B, 6, none⟩) hn x6).away (p := ⟨B, 7, none⟩) hn x7).away (p := ⟨B, 8, none⟩) hn x8).away (p := ⟨B, 9, none⟩) hn x9).away (p := ⟨B, 10, none⟩) hn x10).away (p := ⟨B, 11, none⟩) hn x11).away (p := ⟨B, 12, none⟩) hn x12).away (p := ⟨B, 13, none⟩) hn x13).away (p := ⟨B, 14, none⟩) hn x14).away (p := ⟨B, 15, none⟩) hn x15)
theorem B16 {W w : World} {b B : Nat} {x0 x1 x2 x3 x4 x5 x6 x7 x8 x9 x10 x11 x12 x13 x14 x15 : Value} (hB : b ≤ B) (h : Below b W w) : Below b W ((((((((((((((((w.setCell ⟨B, 0, none⟩ x0).setCell ⟨B, 1, none⟩ x1).setCell ⟨B, 2, none⟩ x2).setCell ⟨B, 3, none⟩ x3).setCell ⟨B, 4, none⟩ x4).setCell ⟨B, 5, none⟩ x5).setCell ⟨B, 6, none⟩ x6).setCell ⟨B, 7, none⟩ x7).setCell ⟨B, 8, none⟩ x8).setCell ⟨B, 9, none⟩ x9).setCell ⟨B, 10, none⟩ x10).setCell ⟨B, 11, none⟩ x11).setCell ⟨B, 12, none⟩ x12).setCell ⟨B, 13, none⟩ x13).setCell ⟨B, 14, none⟩ x14).setCell ⟨B, 15, none⟩ x15) := ((((((((((((((((h.setCell hB _).setCell hB _).setCell hB _).setCell hB _).setCell hB _).setCell hB _).setCell hB _).setCell hB _).setCell hB _).setCell hB _).setCell hB _).setCell hB _).setCell hB _).setCell hB _).setCell hB _).setCell hB _)
theorem pat_four {w : World} {B : Nat} {T : TypeId} (g : Nat → PV) (h : Whole w B T (four g)) : ∀ i < 4, PAt w B (0 + i * 4) (g i) := fun i hi => by
  have k := four_at g i hi
  rw [Nat.zero_add]
  exact ⟨(h.reads _).trans k.1, (h.reads _).trans k.2.1, (h.reads _).trans k.2.2.1, (h.reads _).trans k.2.2.2⟩
def IsB (r : BV) (E : Int) (w : World) (e : Ending) (w' : World) : Prop := e = .returned (.tuple #[r.val, .int .i64 E]) ∧ Below w.heap.size w w'
end Go.Proofs.Ytmleoagdelgddaa

/- A region that draws its order, by an invariant: it holds at the start, each operation that may come up keeps it, and behind all it gives the post. No program stands in it. -/
namespace Go.Proofs.Ytmleoagdelgddaa
open Go

section
variable {P : Program} {ops : Array Oper} {Q : Exit → Act → World → Prop} {md : Region.Mode}

theorem countP_drop {α : Type} {p q : α → Bool} : ∀ (l : List α), (∀ x ∈ l, q x = true → p x = true) → l.countP q ≤ l.countP p
  | [], _ => Nat.le_refl _
  | a :: l, h => by
    have ih := countP_drop l (fun x hx => h x (List.mem_cons_of_mem _ hx))
    rw [List.countP_cons, List.countP_cons]
    cases hq : q a
    · simp; omega
    · rw [h a (List.mem_cons_self ..) hq]; simp; omega
theorem countP_less {α : Type} {p q : α → Bool} : ∀ (l : List α), (∀ x ∈ l, q x = true → p x = true) → (∃ x ∈ l, p x = true ∧ q x = false) → l.countP q < l.countP p
  | [], _, ⟨_, h, _⟩ => by cases h
  | a :: l, h, ⟨x, hx, hp, hq⟩ => by
    have ih := countP_drop l (fun x hx => h x (List.mem_cons_of_mem _ hx))
    rw [List.countP_cons, List.countP_cons]
    rcases List.mem_cons.1 hx with rfl | hx
    · rw [hp, hq]; simp; omega
    · have ih2 := countP_less l (fun x hx => h x (List.mem_cons_of_mem _ hx)) ⟨x, hx, hp, hq⟩
      cases hqa : q a
      · simp; omega
      · rw [h a (List.mem_cons_self ..) hqa]; simp; omega

/-- How many have not come up. -/
def leftOf (ops : Array Oper) (listed : Array Bool) : Nat := (List.range ops.size).countP fun i => !(listed.getD i true)
theorem leftOf_set {i : Nat} {listed : Array Bool} (h : i ∈ Region.ready md ops listed) : leftOf ops (listed.setIfInBounds i true) < leftOf ops listed := by
  obtain ⟨hun, o, ho, -⟩ := mem_ready.1 h
  refine countP_less _ (fun x _ hx => ?_) ⟨i, List.mem_range.2 (lt_of_at ho), by rw [hun]; rfl, by rw [set_self]; rfl⟩
  by_cases hxi : i = x
  · subst hxi; rw [set_self] at hx; cases hx
  · rw [getD_set_ne true hxi] at hx; exact hx

theorem wpAny_inv (Inv : Array Bool → Act → World → Prop)
    (hstep : ∀ i o listed a w, ops[i]? = some o → i ∈ Region.ready md ops listed → Inv listed a w → wpOp P ops Q i (fun a' w' => Inv (listed.setIfInBounds i true) a' w') a w)
    (hend : ∀ listed a w, Region.ready md ops listed = [] → Inv listed a w → Q .normal a w) :
    ∀ (fuel : Nat) (listed : Array Bool) (a : Act) (w : World), leftOf ops listed ≤ fuel → Inv listed a w → wpAny P md ops Q fuel listed a w := by
  intro fuel
  induction fuel with
  | zero =>
    intro listed a w hl hI
    have hr : Region.ready md ops listed = [] := by
      cases hh : Region.ready md ops listed with
      | nil => rfl
      | cons i r =>
        have hi : i ∈ Region.ready md ops listed := by rw [hh]; exact List.mem_cons_self ..
        have := leftOf_set hi
        omega
    exact ⟨hr, hend _ _ _ hr hI⟩
  | succ fuel ih =>
    intro listed a w hl hI
    refine ⟨fun hr => hend _ _ _ hr hI, fun i hi => ?_⟩
    obtain ⟨hun, o, ho, hall⟩ := mem_ready.1 hi
    have := leftOf_set hi
    exact wpOp_mono (fun a' w' h' => ih _ a' w' (by omega) h') (hstep i o listed a w ho hi hI)

theorem wp_region_inv (Inv : Array Bool → Act → World → Prop) {id : Nat} {a : Act} {w : World} (hm : P.follows .mixedOrders = true)
    (h0 : Inv (Array.replicate ops.size false) a w.drew)
    (hstep : ∀ i o listed a w, ops[i]? = some o → i ∈ Region.ready .any ops listed → Inv listed a w → wpOp P ops Q i (fun a' w' => Inv (listed.setIfInBounds i true) a' w') a w)
    (hend : ∀ listed a w, Region.ready .any ops listed = [] → Inv listed a w → Q .normal a w) : (Code.region id ops true).wp P Q a w := by
  refine wp_region_any hm (wpAny_inv Inv hstep hend _ _ _ _ ?_ h0)
  have h := List.countP_le_length (p := fun i => !((Array.replicate ops.size false).getD i true)) (l := List.range ops.size)
  simpa [leftOf] using h

/-- Number k has come up. -/
def On (listed : Array Bool) (k : Nat) : Prop := listed.getD k false = true
theorem on_set {listed : Array Bool} {i k : Nat} (h : On (listed.setIfInBounds i true) k) : k = i ∨ On listed k := by
  by_cases hk : i = k
  · exact .inl hk.symm
  · right; unfold On at h ⊢; rw [getD_set_ne false hk] at h; exact h
theorem on_old {listed : Array Bool} {i k : Nat} (hk : k ≠ i) (h : On (listed.setIfInBounds i true) k) : On listed k := (on_set h).resolve_left hk
theorem off_old {listed : Array Bool} {i k : Nat} (hk : k ≠ i) (h : ¬ On (listed.setIfInBounds i true) k) : ¬ On listed k := fun h' => h (by
  unfold On at h' ⊢; rw [getD_set_ne false (Ne.symm hk)]; exact h')
theorem on_new {listed : Array Bool} {i : Nat} (h : listed.getD i true = false) : On (listed.setIfInBounds i true) i := by
  rcases Nat.lt_or_ge i listed.size with h' | h'
  · unfold On; simp [h']
  · simp [Array.getElem?_eq_none h'] at h
theorem off_of {listed : Array Bool} {i : Nat} (h : listed.getD i true = false) : ¬ On listed i := by
  unfold On; rw [getD_both h]; simp
theorem on_none {n k : Nat} : ¬ On (Array.replicate n false) k := by unfold On; rw [getD_replicate_false]; simp

theorem drop_of_at {i : Nat} {o : Oper} (h : ops[i]? = some o) : ops.toList.drop i = o :: ops.toList.drop (i + 1) := by
  have hi := lt_of_at h
  rw [List.drop_eq_getElem_cons (by simpa using hi)]
  congr 1
  have : ops[i]? = some ops[i] := Array.getElem?_eq_getElem hi
  rw [this] at h
  simpa using Option.some.inj h

/-- Each waits for earlier ones alone. -/
def backB (ops : Array Oper) : Bool := (List.range ops.size).all fun i => match ops[i]? with
  | some o => o.after.all fun e => decide (e.on < i)
  | none => true
theorem all_on {listed : Array Bool} (hb : backB ops = true) (hs : listed.size = ops.size) (hr : Region.ready md ops listed = []) : ∀ n i, i < n → i < ops.size → On listed i := by
  intro n
  induction n with
  | zero => intro i h; omega
  | succ n ih =>
    intro i hin hi
    refine Classical.byContradiction fun hn => ?_
    have ho : ops[i]? = some ops[i] := Array.getElem?_eq_getElem hi
    have hk := List.all_eq_true.1 hb i (List.mem_range.2 hi)
    rw [ho] at hk
    have hun : listed.getD i true = false := by
      unfold On at hn
      have hi' : i < listed.size := by omega
      simp [hi'] at hn ⊢
      exact hn
    have : i ∈ Region.ready md ops listed := mem_ready.2 ⟨hun, ops[i], ho, fun e he hb' => ih e.on (by
      have := Array.all_eq_true'.1 hk e he
      have := of_decide_eq_true this
      omega) (by
      have := Array.all_eq_true'.1 hk e he
      have := of_decide_eq_true this
      omega)⟩
    rw [hr] at this
    cases this

/-- The same; each operation is handed over written out, with what it waits for. -/
theorem wp_region_inv2 (Inv : Array Bool → Act → World → Prop) {id : Nat} {a : Act} {w : World} (hm : P.follows .mixedOrders = true) (hback : backB ops = true)
    (h0 : Inv (Array.replicate ops.size false) a w.drew)
    (hstep : ∀ i o r listed a w, ops.toList.drop i = o :: r → i < ops.size → listed.getD i true = false → (∀ e ∈ o.after, Region.binds .any e = true → On listed e.on) → Inv listed a w →
      ∀ K : Act → World → Prop, Shut (∀ a' w', Inv (listed.setIfInBounds i true) a' w' → K a' w') → if Region.wanted o (yielded ops a.tmps) = true then Oper.wp P o a w K Q else K (a.put o.dst undef) w)
    (hend : ∀ listed a w, (∀ i < ops.size, On listed i) → Inv listed a w → Q .normal a w) : (Code.region id ops true).wp P Q a w := by
  refine wp_region_inv (fun l a w => l.size = ops.size ∧ Inv l a w) hm ⟨by simp, h0⟩ (fun i o listed a w ho hr hI => ?_) (fun listed a w hr hI => hend listed a w (fun i hi => all_on hback hI.1 hr (i + 1) i (by omega) hi) hI.2)
  obtain ⟨hun, o', ho', hall⟩ := mem_ready.1 hr
  obtain rfl : o = o' := Option.some.inj (ho.symm.trans ho')
  exact wpOp_step ho (fun K hK => hstep i o _ listed a w (drop_of_at ho) (lt_of_at ho) hun hall hI.2 K (fun a' w' h => hK a' w' ⟨by simp [hI.1], h⟩))
end
end Go.Proofs.Ytmleoagdelgddaa
/- What holds within the region of box's Both that makes the corners of both boxes. -/
namespace Go.Proofs.Ytmleoagdelgddaa
open Go.RowKit Dec

/-- Two variables that are both there lie apart. -/
def Apart4 (l : Array Bool) (k k' : Nat) (t t' : Value) : Prop := On l k → On l k' → t ≠ t'
/-- copy, where an element has m cells. -/
theorem run_copy_wide (P : Program) (w : World) (dT sT ty elem : TypeId) (g o dLen dCap m : Nat) (a : Addr) (sLen sCap : Nat) (cur : Array Value) (t : TypeId) (cs : List Value)
    (hu : P.underlying dT = some (.slice elem)) (hs : (P.info? elem).map (·.size) = some m)
    (hg : w.heap[g]? = some (.cells cur t (0, 0))) (hn : cs.length = Nat.min sLen dLen * m)
    (hsrc : ∀ j v, cs[j]? = some v → w.cell? (a.add j) = some v) (hfit : o + cs.length ≤ cur.size) (h1 : ∀ v ∈ cs, v.oneCell' = true) :
    (Builtin.copy_ #[dT, sT] ty #[.slice (some ⟨g, o, none⟩) dLen dCap, .slice (some a) sLen sCap]).run P w =
      .ok (goInt (Nat.min sLen dLen)) (w.setRow g (cur.toList.take o ++ cs ++ cur.toList.drop (o + cs.length)).toArray) := by
  have hl := run_loadCells_list (P := P) w a cs hsrc
  have hst := run_storeCells_at P g o t cs 0 cur w hg (by simpa using hfit) h1
  cases hq : P.info? elem with
  | none => simp [hq] at hs
  | some i =>
    have hi : i.size = m := by simpa [hq] using hs
    simp [Builtin.copy_, run_underlying hu, Builtin.lenOf, Builtin.firstCells, sizeOf, typeInfo, hq, hi, ← hn, hl, hst]
theorem add_at (g o j : Nat) : (⟨g, o, none⟩ : Addr).add j = ⟨g, o + j, none⟩ := by unfold Addr.add; split <;> simp_all
theorem four_one (f : Nat → PV) : ∀ v ∈ (four f).toList, v.oneCell' = true := by
  intro v hv
  simp at hv
  rcases hv with h | h | h | h | h | h | h | h | h | h | h | h | h | h | h | h <;> subst h <;> rfl
theorem four_read {w : World} {B : Nat} {T : TypeId} {f : Nat → PV} (h : Whole w B T (four f)) : ∀ j v, (four f).toList[j]? = some v → w.cell? ((⟨B, 0, none⟩ : Addr).add j) = some v := fun j v hv => by
  rw [add_at, Nat.zero_add, h.reads]; simpa using hv
/-- Four points are copied behind the first o cells of a variable of the call's own. -/
theorem copy_four (w : World) (A B o n c : Nat) (T T' : TypeId) (f : Nat → PV) (cur : Array Value) (hA : Whole w A T cur) (hB : Whole w B T' (four f)) (hn : 4 ≤ n) (hfit : o + 16 ≤ cur.size) :
    ∃ w', (Builtin.copy_ #[67, 67] 3 #[.slice (some ⟨A, o, none⟩) n c, .slice (some ⟨B, 0, none⟩) 4 4]).run Try.prog w = .ok (.int .i64 4) w' ∧
      Whole w' A T (cur.toList.take o ++ (four f).toList ++ cur.toList.drop (o + 16)).toArray ∧ Below A w w' := by
  have hmin : Nat.min 4 n = 4 := Nat.min_eq_left hn
  have hr := run_copy_wide Try.prog w 67 67 3 78 A o n c 4 ⟨B, 0, none⟩ 4 4 cur T (four f).toList Try.underlying67 (by kernel_rfl) hA (by rw [hmin]; rfl) (four_read hB) (by simpa using hfit) (four_one f)
  rw [hmin] at hr
  refine ⟨_, hr, setRow_heap w A cur _ T _ hA, below_setRow (Below.refl _ _) (Nat.le_refl _) _⟩

theorem pat_eight {w : World} {A : Nat} {T : TypeId} {a b : BV} (h : Whole w A T ((((#[.int .i64 0, .int .i64 0, .int .i64 0, .int .i64 0, .int .i64 0, .int .i64 0, .int .i64 0, .int .i64 0, .int .i64 0, .int .i64 0, .int .i64 0, .int .i64 0, .int .i64 0, .int .i64 0, .int .i64 0, .int .i64 0, .int .i64 0, .int .i64 0, .int .i64 0, .int .i64 0, .int .i64 0, .int .i64 0, .int .i64 0, .int .i64 0, .int .i64 0, .int .i64 0, .int .i64 0, .int .i64 0, .int .i64 0, .int .i64 0, .int .i64 0, .int .i64 0] : Array Value).toList.take 0 ++ (four (cornF a)).toList ++ (#[.int .i64 0, .int .i64 0, .int .i64 0, .int .i64 0, .int .i64 0, .int .i64 0, .int .i64 0, .int .i64 0, .int .i64 0, .int .i64 0, .int .i64 0, .int .i64 0, .int .i64 0, .int .i64 0, .int .i64 0, .int .i64 0, .int .i64 0, .int .i64 0, .int .i64 0, .int .i64 0, .int .i64 0, .int .i64 0, .int .i64 0, .int .i64 0, .int .i64 0, .int .i64 0, .int .i64 0, .int .i64 0, .int .i64 0, .int .i64 0, .int .i64 0, .int .i64 0] : Array Value).toList.drop (0 + 16)).toArray).toList.take 16 ++ (four (cornF b)).toList ++ (((#[.int .i64 0, .int .i64 0, .int .i64 0, .int .i64 0, .int .i64 0, .int .i64 0, .int .i64 0, .int .i64 0, .int .i64 0, .int .i64 0, .int .i64 0, .int .i64 0, .int .i64 0, .int .i64 0, .int .i64 0, .int .i64 0, .int .i64 0, .int .i64 0, .int .i64 0, .int .i64 0, .int .i64 0, .int .i64 0, .int .i64 0, .int .i64 0, .int .i64 0, .int .i64 0, .int .i64 0, .int .i64 0, .int .i64 0, .int .i64 0, .int .i64 0, .int .i64 0] : Array Value).toList.take 0 ++ (four (cornF a)).toList ++ (#[.int .i64 0, .int .i64 0, .int .i64 0, .int .i64 0, .int .i64 0, .int .i64 0, .int .i64 0, .int .i64 0, .int .i64 0, .int .i64 0, .int .i64 0, .int .i64 0, .int .i64 0, .int .i64 0, .int .i64 0, .int .i64 0, .int .i64 0, .int .i64 0, .int .i64 0, .int .i64 0, .int .i64 0, .int .i64 0, .int .i64 0, .int .i64 0, .int .i64 0, .int .i64 0, .int .i64 0, .int .i64 0, .int .i64 0, .int .i64 0, .int .i64 0, .int .i64 0] : Array Value).toList.drop (0 + 16)).toArray).toList.drop (16 + 16)).toArray) : ∀ i < 8, PAt w A (0 + i * 4) (bothF a b i) := by
  intro i hi
  rcases (by omega : i = 0 ∨ i = 1 ∨ i = 2 ∨ i = 3 ∨ i = 4 ∨ i = 5 ∨ i = 6 ∨ i = 7) with rfl | rfl | rfl | rfl | rfl | rfl | rfl | rfl
  · exact ⟨(h.reads _).trans rfl, (h.reads _).trans rfl, (h.reads _).trans rfl, (h.reads _).trans rfl⟩
  · exact ⟨(h.reads _).trans rfl, (h.reads _).trans rfl, (h.reads _).trans rfl, (h.reads _).trans rfl⟩
  · exact ⟨(h.reads _).trans rfl, (h.reads _).trans rfl, (h.reads _).trans rfl, (h.reads _).trans rfl⟩
  · exact ⟨(h.reads _).trans rfl, (h.reads _).trans rfl, (h.reads _).trans rfl, (h.reads _).trans rfl⟩
  · exact ⟨(h.reads _).trans rfl, (h.reads _).trans rfl, (h.reads _).trans rfl, (h.reads _).trans rfl⟩
  · exact ⟨(h.reads _).trans rfl, (h.reads _).trans rfl, (h.reads _).trans rfl, (h.reads _).trans rfl⟩
  · exact ⟨(h.reads _).trans rfl, (h.reads _).trans rfl, (h.reads _).trans rfl, (h.reads _).trans rfl⟩
  · exact ⟨(h.reads _).trans rfl, (h.reads _).trans rfl, (h.reads _).trans rfl, (h.reads _).trans rfl⟩

end Go.Proofs.Ytmleoagdelgddaa

/- The walk of box's Both. -/
namespace Go.Proofs.Ytmleoagdelgddaa
open Go.RowKit Dec

/-- What Both answers. -/
def BothIs (a b r : BV) (E : Int) : Prop := (a.Ok ∧ b.Ok ∧ r = joinB a b ∧ E = 0) ∨ (¬ (a.Ok ∧ b.Ok) ∧ r = .zero ∧ E = 1)
theorem BothIs.total (a b : BV) : ∃ r E, BothIs a b r E := by
  by_cases h : a.Ok ∧ b.Ok
  · exact ⟨_, _, .inl ⟨h.1, h.2, rfl, rfl⟩⟩
  · exact ⟨_, _, .inr ⟨h, rfl, rfl⟩⟩
end Go.Proofs.Ytmleoagdelgddaa

/- The reference's Meets and Both: the walks. -/
namespace Go.Proofs.Ytmleoagdelgddaa
open Go.RowKit Dec

theorem meet_ref {a b : BV} (ha : a.Ok) (hb : b.Ok) : meetB a b = (leB (greD a.x0 b.x0) (lesD a.x1 b.x1) && leB (greD a.y0 b.y0) (lesD a.y1 b.y1)) := by
  obtain ⟨ax, ay⟩ := ha
  obtain ⟨bx, by_⟩ := hb
  have ax := leB_iff.1 ax
  have ay := leB_iff.1 ay
  have bx := leB_iff.1 bx
  have bY := leB_iff.1 by_
  have key : ∀ p q r s : DV, p.Ok ∧ q.Ok ∧ p.v ≤ q.v → r.Ok ∧ s.Ok ∧ r.v ≤ s.v → (leB p s && leB r q) = leB (greD p r) (lesD q s) := by
    intro p q r s hpq hrs
    have h1 := greD_ok hpq.1 hrs.1
    have h2 := lesD_ok hpq.2.1 hrs.2.1
    rw [Bool.eq_iff_iff, Bool.and_eq_true, leB_iff, leB_iff, leB_iff]
    constructor
    · rintro ⟨⟨_, _, h3⟩, ⟨_, _, h4⟩⟩
      refine ⟨h1.1, h2.1, ?_⟩
      rcases h1.2.2.2 with e | e <;> rcases h2.2.2.2 with e' | e' <;> rw [e, e'] <;> omega
    · rintro ⟨_, _, h3⟩
      exact ⟨⟨hpq.1, hrs.2.1, by omega⟩, ⟨hrs.1, hpq.2.1, by omega⟩⟩
  unfold meetB
  rw [key _ _ _ _ ax bx, key _ _ _ _ ay bY]
/-- Two boxes in blocks of their own. -/
structure TwoB (w W : World) (a b : BV) : Prop where
  a : BIn W w.heap.size a
  b : BIn W (w.heap.size + 1) b
  below : Below w.heap.size w W
theorem TwoB.here {w W W' : World} {a b : BV} (h : TwoB w W a b) (hb : Below W.heap.size W W') : TwoB w W' a b := ⟨h.a.later hb, h.b.later hb, h.below.trans (hb.mono h.below.size)⟩
theorem TwoB.drew {w W : World} {a b : BV} (h : TwoB w W a b) : TwoB w W.drew a b := h.here (Below.refl _ _).drew
theorem TwoB.start (w : World) (a b : BV) : TwoB w ((w.alloc (.cells #[.int .i64 a.x0.m, .int .i64 a.x0.s, .int .i64 a.y0.m, .int .i64 a.y0.s, .int .i64 a.x1.m, .int .i64 a.x1.s, .int .i64 a.y1.m, .int .i64 a.y1.s] 52)).alloc (.cells #[.int .i64 b.x0.m, .int .i64 b.x0.s, .int .i64 b.y0.m, .int .i64 b.y0.s, .int .i64 b.x1.m, .int .i64 b.x1.s, .int .i64 b.y1.m, .int .i64 b.y1.s] 52)) a b :=
  ⟨(BIn.made w 52 a).old _, by have := BIn.made (w.alloc (.cells #[.int .i64 a.x0.m, .int .i64 a.x0.s, .int .i64 a.y0.m, .int .i64 a.y0.s, .int .i64 a.x1.m, .int .i64 a.x1.s, .int .i64 a.y1.m, .int .i64 a.y1.s] 52)) 52 b; simpa using this, by (repeat (first | with_reducible exact Below.refl _ _ | with_reducible refine Below.drew ?_ | with_reducible refine bdrewN ?_ _ | (with_reducible refine Below.setCell ?_ ?_ _; rotate_left; focus (first | exact Nat.le_refl _ | omega | (simp; omega) | (simp; done))) | (with_reducible refine Below.alloc ?_ ?_ _; rotate_left; focus (first | exact Nat.le_refl _ | omega | (simp; omega) | (simp; done))) | (with_reducible refine Below.trans ?_ (Below.mono (by assumption) ?_); rotate_left; focus (first | exact Nat.le_refl _ | omega | (simp; omega) | (simp; done)))))⟩
theorem TwoB.all {w W : World} {a b : BV} (h : TwoB w W a b) : W.cell? ⟨w.heap.size, 0, none⟩ = some (.int .i64 a.x0.m) ∧ W.cell? ⟨w.heap.size, 1, none⟩ = some (.int .i64 a.x0.s) ∧ W.cell? ⟨w.heap.size, 2, none⟩ = some (.int .i64 a.y0.m) ∧ W.cell? ⟨w.heap.size, 3, none⟩ = some (.int .i64 a.y0.s) ∧ W.cell? ⟨w.heap.size, 4, none⟩ = some (.int .i64 a.x1.m) ∧ W.cell? ⟨w.heap.size, 5, none⟩ = some (.int .i64 a.x1.s) ∧ W.cell? ⟨w.heap.size, 6, none⟩ = some (.int .i64 a.y1.m) ∧ W.cell? ⟨w.heap.size, 7, none⟩ = some (.int .i64 a.y1.s) ∧ W.cell? ⟨w.heap.size + 1, 0, none⟩ = some (.int .i64 b.x0.m) ∧ W.cell? ⟨w.heap.size + 1, 1, none⟩ = some (.int .i64 b.x0.s) ∧ W.cell? ⟨w.heap.size + 1, 2, none⟩ = some (.int .i64 b.y0.m) ∧ W.cell? ⟨w.heap.size + 1, 3, none⟩ = some (.int .i64 b.y0.s) ∧ W.cell? ⟨w.heap.size + 1, 4, none⟩ = some (.int .i64 b.x1.m) ∧ W.cell? ⟨w.heap.size + 1, 5, none⟩ = some (.int .i64 b.x1.s) ∧ W.cell? ⟨w.heap.size + 1, 6, none⟩ = some (.int .i64 b.y1.m) ∧ W.cell? ⟨w.heap.size + 1, 7, none⟩ = some (.int .i64 b.y1.s) :=
  ⟨h.a.1, h.a.2.1, h.a.2.2.1, h.a.2.2.2.1, h.a.2.2.2.2.1, h.a.2.2.2.2.2.1, h.a.2.2.2.2.2.2.1, h.a.2.2.2.2.2.2.2, h.b.1, h.b.2.1, h.b.2.2.1, h.b.2.2.2.1, h.b.2.2.2.2.1, h.b.2.2.2.2.2.1, h.b.2.2.2.2.2.2.1, h.b.2.2.2.2.2.2.2⟩
theorem TwoB.lt {w W : World} {a b : BV} (h : TwoB w W a b) : w.heap.size + 1 < W.heap.size := h.b.lt
theorem BV.Ok.toNums {b : BV} (h : b.Ok) : b.Nums := ⟨h.nums.1, h.nums.2.2.1, h.nums.2.1, h.nums.2.2.2⟩
set_option maxRecDepth 100000 in
set_option maxHeartbeats 8000000 in
theorem refmeets_bad (a b : BV) (w : World) (h : ¬ (a.Ok ∧ b.Ok)) :
    Calls Try.prog 46 #[a.val, b.val] w fun e w' => e = .returned (.tuple #[.bool false, .int .i64 1]) ∧ Below w.heap.size w w' := by
  have H0 := Lib.hid (TwoB.start w a b)
  by_cases ha : a.Ok
  · have HA := Lib.hid (And.intro ha (show ¬ b.Ok from fun k => h ⟨ha, k⟩))
    clear h ha
    go_enter Try.func46, Try.ntmps46
    go_wp2_with fail
    refine (bright_any a _ true (decide_eq_true HA.out.1)).mono ?_
    rintro e w1 ⟨rfl, kk⟩
    have H1 := Lib.hid (H0.out.here kk)
    clear kk
    have q := H1.out.all
    obtain ⟨q0, q1, q2, q3, q4, q5, q6, q7, s0, s1, s2, s3, s4, s5, s6, s7⟩ := q
    have lt := H1.out.lt
    go_wp2_with fail
    refine (bright_any b _ false (decide_eq_false HA.out.2)).mono ?_
    rintro e w2 ⟨rfl, kk⟩
    have H2 := Lib.hid (H1.out.here kk)
    clear kk
    clear q0 q1 q2 q3 q4 q5 q6 q7 s0 s1 s2 s3 s4 s5 s6 s7 lt
    go_wp2_with fail
    go_ret2
    exact ⟨rfl, H2.out.below⟩
  · have HA := Lib.hid ha
    clear h ha
    go_enter Try.func46, Try.ntmps46
    go_wp2_with fail
    refine (bright_any a _ false (decide_eq_false HA.out)).mono ?_
    rintro e w1 ⟨rfl, kk⟩
    have H1 := Lib.hid (H0.out.here kk)
    clear kk
    go_wp2_with fail
    go_ret2
    exact ⟨rfl, H1.out.below⟩
set_option maxRecDepth 100000 in
set_option maxHeartbeats 8000000 in
theorem refmeets_ok (a b : BV) (w : World) (ha : a.Ok) (hb : b.Ok) :
    Calls Try.prog 46 #[a.val, b.val] w fun e w' => e = .returned (.tuple #[.bool (meetB a b), .int .i64 0]) ∧ Below w.heap.size w w' := by
  have H0 := Lib.hid (TwoB.start w a b)
  rw [meet_ref ha hb]
  obtain ⟨r1, h1⟩ : ∃ r, leB (greD a.x0 b.x0) (lesD a.x1 b.x1) = r := ⟨_, rfl⟩
  obtain ⟨r2, h2⟩ : ∃ r, leB (greD a.y0 b.y0) (lesD a.y1 b.y1) = r := ⟨_, rfl⟩
  rw [h1, h2]
  have HN := Lib.hid (And.intro ha.toNums hb.toNums)
  have HL := Lib.hid (And.intro h1 h2)
  have HA := Lib.hid (And.intro ha hb)
  clear h1 h2 ha hb
  go_enter Try.func46, Try.ntmps46
  go_wp2_with fail
  refine (bright_any a _ true (decide_eq_true HA.out.1)).mono ?_
  rintro e w1 ⟨rfl, kk⟩
  have H1 := Lib.hid (H0.out.here kk)
  clear kk
  have q := H1.out.all
  obtain ⟨q0, q1, q2, q3, q4, q5, q6, q7, s0, s1, s2, s3, s4, s5, s6, s7⟩ := q
  have lt := H1.out.lt
  go_wp2_with fail
  refine (bright_any b _ true (decide_eq_true HA.out.2)).mono ?_
  rintro e w2 ⟨rfl, kk⟩
  have H2 := Lib.hid (H1.out.here kk)
  clear kk H0 H1
  clear q0 q1 q2 q3 q4 q5 q6 q7 s0 s1 s2 s3 s4 s5 s6 s7 lt
  go_wp2_with fail
  have HH := H2.out
  clear H2
  have X0 := (greD_ok HN.out.1.x0 HN.out.2.x0).1
  have X1 := (lesD_ok HN.out.1.x1 HN.out.2.x1).1
  have Y0 := (greD_ok HN.out.1.y0 HN.out.2.y0).1
  have Y1 := (lesD_ok HN.out.1.y1 HN.out.2.y1).1
  have HO := Lib.hid (And.intro (And.intro X0 X1) (And.intro Y0 Y1))
  clear X0 X1 Y0 Y1
  cases r1
  · skip
    have HC0 := HH.all
    refine wp_region_S 25 (fun v => v.cell? ⟨w.heap.size, 0, none⟩ = some (.int .i64 a.x0.m) ∧ v.cell? ⟨w.heap.size, 1, none⟩ = some (.int .i64 a.x0.s) ∧ v.cell? ⟨w.heap.size, 2, none⟩ = some (.int .i64 a.y0.m) ∧ v.cell? ⟨w.heap.size, 3, none⟩ = some (.int .i64 a.y0.s) ∧ v.cell? ⟨w.heap.size, 4, none⟩ = some (.int .i64 a.x1.m) ∧ v.cell? ⟨w.heap.size, 5, none⟩ = some (.int .i64 a.x1.s) ∧ v.cell? ⟨w.heap.size, 6, none⟩ = some (.int .i64 a.y1.m) ∧ v.cell? ⟨w.heap.size, 7, none⟩ = some (.int .i64 a.y1.s) ∧ v.cell? ⟨w.heap.size + 1, 0, none⟩ = some (.int .i64 b.x0.m) ∧ v.cell? ⟨w.heap.size + 1, 1, none⟩ = some (.int .i64 b.x0.s) ∧ v.cell? ⟨w.heap.size + 1, 2, none⟩ = some (.int .i64 b.y0.m) ∧ v.cell? ⟨w.heap.size + 1, 3, none⟩ = some (.int .i64 b.y0.s) ∧ v.cell? ⟨w.heap.size + 1, 4, none⟩ = some (.int .i64 b.x1.m) ∧ v.cell? ⟨w.heap.size + 1, 5, none⟩ = some (.int .i64 b.x1.s) ∧ v.cell? ⟨w.heap.size + 1, 6, none⟩ = some (.int .i64 b.y1.m) ∧ v.cell? ⟨w.heap.size + 1, 7, none⟩ = some (.int .i64 b.y1.s)) (by kernel_rfl) ?_
    refine wpAnyS_takeW (i := 0) (v := ?v1) rfl (by kernel_rfl) (fun _ _ _ h => h) (Or.inl ⟨by rfl, ?y1⟩) (fun _ => HC0) ?r1
    case y1 => intro wq _; go_simp; try with_reducible rfl
    try simp only [Act.put, List.setIfInBounds_toArray, List.set_cons_zero, List.set_cons_succ]
    refine wpAnyS_takeW (i := 2) (v := ?v2) rfl (by kernel_rfl) (fun _ _ _ h => h) (Or.inl ⟨by rfl, ?y2⟩) (fun _ => HC0) ?r2
    case y2 => intro wq _; go_simp; try with_reducible rfl
    try simp only [Act.put, List.setIfInBounds_toArray, List.set_cons_zero, List.set_cons_succ]
    refine wpAnyS_takeW (i := 5) (v := ?v3) rfl (by kernel_rfl) (fun _ _ _ h => h) (Or.inl ⟨by rfl, ?y3⟩) (fun _ => HC0) ?r3
    case y3 => intro wq _; go_simp; try with_reducible rfl
    try simp only [Act.put, List.setIfInBounds_toArray, List.set_cons_zero, List.set_cons_succ]
    refine wpAnyS_takeW (i := 7) (v := ?v4) rfl (by kernel_rfl) (fun _ _ _ h => h) (Or.inl ⟨by rfl, ?y4⟩) (fun _ => HC0) ?r4
    case y4 => intro wq _; go_simp; try with_reducible rfl
    try simp only [Act.put, List.setIfInBounds_toArray, List.set_cons_zero, List.set_cons_succ]
    refine wpAnyS_take (i := 1) (v := ?v5) rfl (by kernel_rfl) (fun _ _ _ h => h) (Or.inl ⟨by rfl, ?y5⟩) HC0 ?r5
    case y5 => intro wq hq; (try dsimp only at hq); go_simp; try with_reducible rfl
    try simp only [Act.put, List.setIfInBounds_toArray, List.set_cons_zero, List.set_cons_succ]
    refine wpAnyS_take (i := 3) (v := ?v6) rfl (by kernel_rfl) (fun _ _ _ h => h) (Or.inl ⟨by rfl, ?y6⟩) HC0 ?r6
    case y6 => intro wq hq; (try dsimp only at hq); go_simp; try with_reducible rfl
    try simp only [Act.put, List.setIfInBounds_toArray, List.set_cons_zero, List.set_cons_succ]
    refine wpAnyS_take (i := 6) (v := ?v7) rfl (by kernel_rfl) (fun _ _ _ h => h) (Or.inl ⟨by rfl, ?y7⟩) HC0 ?r7
    case y7 => intro wq hq; (try dsimp only at hq); go_simp; try with_reducible rfl
    try simp only [Act.put, List.setIfInBounds_toArray, List.set_cons_zero, List.set_cons_succ]
    refine wpAnyS_take (i := 8) (v := ?v8) rfl (by kernel_rfl) (fun _ _ _ h => h) (Or.inl ⟨by rfl, ?y8⟩) HC0 ?r8
    case y8 => intro wq hq; (try dsimp only at hq); go_simp; try with_reducible rfl
    try simp only [Act.put, List.setIfInBounds_toArray, List.set_cons_zero, List.set_cons_succ]
    refine wpAnyS_one (j := 4) (by kernel_rfl) rfl (fun K hK => ?_)
    go_simp
    go_at_call 66; (with_reducible refine (most_any a.x0 b.x0 _ HN.out.1.x0 HN.out.2.x0).mono ?_)
    rintro e v0 ⟨rfl, kk⟩
    have kk := undrew kk
    have HT0 := HH.here kk
    have HC1 := HT0.all
    clear kk
    go_wp2_with fail
    refine hK.out _ _ ⟨fun _ _ => HC1, ?_⟩
    clear hK K
    try simp only [Act.put, List.setIfInBounds_toArray, List.set_cons_zero, List.set_cons_succ]
    refine wpAnyS_one (j := 9) (by kernel_rfl) rfl (fun K hK => ?_)
    go_simp
    go_at_call 67; (with_reducible refine (least_any a.x1 b.x1 _ HN.out.1.x1 HN.out.2.x1).mono ?_)
    rintro e v1 ⟨rfl, kk⟩
    have HT1 := HT0.here kk
    have HC2 := HT1.all
    clear kk
    go_wp2_with fail
    refine hK.out _ _ ⟨fun _ _ => HC2, ?_⟩
    clear hK K
    try simp only [Act.put, List.setIfInBounds_toArray, List.set_cons_zero, List.set_cons_succ]
    refine wpAnyS_one (j := 10) (by kernel_rfl) rfl (fun K hK => ?_)
    go_simp
    go_at_call 62; (with_reducible refine (upto_any _ _ _ HO.out.1.1 HO.out.1.2 false HL.out.1).mono ?_)
    rintro e v2 ⟨rfl, kk⟩
    have HT2 := HT1.here kk
    have HC3 := HT2.all
    clear kk
    go_wp2_with fail
    refine hK.out _ _ ⟨fun _ _ => HC3, ?_⟩
    clear hK K
    try simp only [Act.put, List.setIfInBounds_toArray, List.set_cons_zero, List.set_cons_succ]
    refine wpAnyS_takeW (i := 11) (v := ?v9) rfl (by kernel_rfl) (fun _ _ _ h => h) (Or.inl ⟨by rfl, ?y9⟩) (fun _ => HC3) ?r9
    case y9 => intro wq _; go_simp; try with_reducible rfl
    try simp only [Act.put, List.setIfInBounds_toArray, List.set_cons_zero, List.set_cons_succ]
    refine wpAnyS_takeW (i := 12) (v := undef) rfl (by kernel_rfl) (fun _ _ _ h => h) (Or.inr ⟨by rfl, rfl⟩) (fun _ => HC3) ?r10
    try simp only [Act.put, List.setIfInBounds_toArray, List.set_cons_zero, List.set_cons_succ]
    refine wpAnyS_takeW (i := 13) (v := undef) rfl (by kernel_rfl) (fun _ _ _ h => h) (Or.inr ⟨by rfl, rfl⟩) (fun _ => HC3) ?r11
    try simp only [Act.put, List.setIfInBounds_toArray, List.set_cons_zero, List.set_cons_succ]
    refine wpAnyS_takeW (i := 14) (v := undef) rfl (by kernel_rfl) (fun _ _ _ h => h) (Or.inr ⟨by rfl, rfl⟩) (fun _ => HC3) ?r12
    try simp only [Act.put, List.setIfInBounds_toArray, List.set_cons_zero, List.set_cons_succ]
    refine wpAnyS_takeW (i := 15) (v := undef) rfl (by kernel_rfl) (fun _ _ _ h => h) (Or.inr ⟨by rfl, rfl⟩) (fun _ => HC3) ?r13
    try simp only [Act.put, List.setIfInBounds_toArray, List.set_cons_zero, List.set_cons_succ]
    refine wpAnyS_takeW (i := 16) (v := undef) rfl (by kernel_rfl) (fun _ _ _ h => h) (Or.inr ⟨by rfl, rfl⟩) (fun _ => HC3) ?r14
    try simp only [Act.put, List.setIfInBounds_toArray, List.set_cons_zero, List.set_cons_succ]
    refine wpAnyS_takeW (i := 17) (v := undef) rfl (by kernel_rfl) (fun _ _ _ h => h) (Or.inr ⟨by rfl, rfl⟩) (fun _ => HC3) ?r15
    try simp only [Act.put, List.setIfInBounds_toArray, List.set_cons_zero, List.set_cons_succ]
    refine wpAnyS_takeW (i := 18) (v := undef) rfl (by kernel_rfl) (fun _ _ _ h => h) (Or.inr ⟨by rfl, rfl⟩) (fun _ => HC3) ?r16
    try simp only [Act.put, List.setIfInBounds_toArray, List.set_cons_zero, List.set_cons_succ]
    refine wpAnyS_takeW (i := 19) (v := undef) rfl (by kernel_rfl) (fun _ _ _ h => h) (Or.inr ⟨by rfl, rfl⟩) (fun _ => HC3) ?r17
    try simp only [Act.put, List.setIfInBounds_toArray, List.set_cons_zero, List.set_cons_succ]
    refine wpAnyS_takeW (i := 20) (v := undef) rfl (by kernel_rfl) (fun _ _ _ h => h) (Or.inr ⟨by rfl, rfl⟩) (fun _ => HC3) ?r18
    try simp only [Act.put, List.setIfInBounds_toArray, List.set_cons_zero, List.set_cons_succ]
    refine wpAnyS_takeW (i := 21) (v := undef) rfl (by kernel_rfl) (fun _ _ _ h => h) (Or.inr ⟨by rfl, rfl⟩) (fun _ => HC3) ?r19
    try simp only [Act.put, List.setIfInBounds_toArray, List.set_cons_zero, List.set_cons_succ]
    refine wpAnyS_takeW (i := 22) (v := undef) rfl (by kernel_rfl) (fun _ _ _ h => h) (Or.inr ⟨by rfl, rfl⟩) (fun _ => HC3) ?r20
    try simp only [Act.put, List.setIfInBounds_toArray, List.set_cons_zero, List.set_cons_succ]
    refine wpAnyS_takeW (i := 23) (v := ?v21) rfl (by kernel_rfl) (fun _ _ _ h => h) (Or.inl ⟨by rfl, ?y21⟩) (fun _ => HC3) ?r21
    case y21 => intro wq _; go_simp; try with_reducible rfl
    try simp only [Act.put, List.setIfInBounds_toArray, List.set_cons_zero, List.set_cons_succ]
    refine wpAnyS_takeW (i := 24) (v := ?v22) rfl (by kernel_rfl) (fun _ _ _ h => h) (Or.inl ⟨by rfl, ?y22⟩) (fun _ => HC3) ?r22
    case y22 => intro wq _; go_simp; try with_reducible rfl
    try simp only [Act.put, List.setIfInBounds_toArray, List.set_cons_zero, List.set_cons_succ]
    refine wpAnyS_one (j := 25) (by kernel_rfl) rfl (fun K hK => ?_)
    go_simp
    refine hK.out _ _ ⟨fun h => absurd rfl h, ?_⟩
    clear hK K
    try simp only [Act.put, List.setIfInBounds_toArray, List.set_cons_zero, List.set_cons_succ]
    refine wpAnyS_done (by kernel_rfl) ?_ _
    go_wp2_with fail
    go_ret2
    exact ⟨rfl, HT2.below⟩
  cases r2
  all_goals try simp only [Bool.true_and]
  all_goals
    go_region_held3 (fun v => v.cell? ⟨w.heap.size, 0, none⟩ = some (.int .i64 a.x0.m) ∧ v.cell? ⟨w.heap.size, 1, none⟩ = some (.int .i64 a.x0.s) ∧ v.cell? ⟨w.heap.size, 2, none⟩ = some (.int .i64 a.y0.m) ∧ v.cell? ⟨w.heap.size, 3, none⟩ = some (.int .i64 a.y0.s) ∧ v.cell? ⟨w.heap.size, 4, none⟩ = some (.int .i64 a.x1.m) ∧ v.cell? ⟨w.heap.size, 5, none⟩ = some (.int .i64 a.x1.s) ∧ v.cell? ⟨w.heap.size, 6, none⟩ = some (.int .i64 a.y1.m) ∧ v.cell? ⟨w.heap.size, 7, none⟩ = some (.int .i64 a.y1.s) ∧ v.cell? ⟨w.heap.size + 1, 0, none⟩ = some (.int .i64 b.x0.m) ∧ v.cell? ⟨w.heap.size + 1, 1, none⟩ = some (.int .i64 b.x0.s) ∧ v.cell? ⟨w.heap.size + 1, 2, none⟩ = some (.int .i64 b.y0.m) ∧ v.cell? ⟨w.heap.size + 1, 3, none⟩ = some (.int .i64 b.y0.s) ∧ v.cell? ⟨w.heap.size + 1, 4, none⟩ = some (.int .i64 b.x1.m) ∧ v.cell? ⟨w.heap.size + 1, 5, none⟩ = some (.int .i64 b.x1.s) ∧ v.cell? ⟨w.heap.size + 1, 6, none⟩ = some (.int .i64 b.y1.m) ∧ v.cell? ⟨w.heap.size + 1, 7, none⟩ = some (.int .i64 b.y1.s))
      (first | with_reducible exact TwoB.all HH | with_reducible exact TwoB.all (TwoB.drew HH))
      (first
        | (go_at_call 66; (with_reducible refine (most_any a.x0 b.x0 _ HN.out.1.x0 HN.out.2.x0).mono ?_); rintro e v ⟨rfl, kk⟩; (first | (with_reducible have HH := TwoB.here (TwoB.drew HH) kk) | (with_reducible have HH := TwoB.here HH kk)))
        | (go_at_call 67; (with_reducible refine (least_any a.x1 b.x1 _ HN.out.1.x1 HN.out.2.x1).mono ?_); rintro e v ⟨rfl, kk⟩; (first | (with_reducible have HH := TwoB.here (TwoB.drew HH) kk) | (with_reducible have HH := TwoB.here HH kk)))
        | (go_at_call 66; (with_reducible refine (most_any a.y0 b.y0 _ HN.out.1.y0 HN.out.2.y0).mono ?_); rintro e v ⟨rfl, kk⟩; (first | (with_reducible have HH := TwoB.here (TwoB.drew HH) kk) | (with_reducible have HH := TwoB.here HH kk)))
        | (go_at_call 67; (with_reducible refine (least_any a.y1 b.y1 _ HN.out.1.y1 HN.out.2.y1).mono ?_); rintro e v ⟨rfl, kk⟩; (first | (with_reducible have HH := TwoB.here (TwoB.drew HH) kk) | (with_reducible have HH := TwoB.here HH kk)))
        | (go_at_call 62; (with_reducible refine (upto_any _ _ _ HO.out.1.1 HO.out.1.2 _ HL.out.1).mono ?_); rintro e v ⟨rfl, kk⟩; (first | (with_reducible have HH := TwoB.here (TwoB.drew HH) kk) | (with_reducible have HH := TwoB.here HH kk)))
        | (go_at_call 62; (with_reducible refine (upto_any _ _ _ HO.out.2.1 HO.out.2.2 _ HL.out.2).mono ?_); rintro e v ⟨rfl, kk⟩; (first | (with_reducible have HH := TwoB.here (TwoB.drew HH) kk) | (with_reducible have HH := TwoB.here HH kk))))
    all_goals
      go_wp2_with fail
      go_ret2
      first | exact ⟨rfl, HH.below⟩ | exact ⟨rfl, HH.below.drew⟩
theorem refmeets_any (a b : BV) (w : World) (r : Bool) (E : Int) (h : MeetIs a b r E) :
    Calls Try.prog 46 #[a.val, b.val] w fun e w' => e = .returned (.tuple #[.bool r, .int .i64 E]) ∧ Below w.heap.size w w' := by
  rcases h with ⟨ha, hb, rfl, rfl⟩ | ⟨h, rfl, rfl⟩
  · exact refmeets_ok a b w ha hb
  · exact refmeets_bad a b w h
end Go.Proofs.Ytmleoagdelgddaa
