/- What holds within the region of box's Both that makes the corners of both boxes. -/
import Derived.Test.YtgdfdlicfjjfjaaBoxMapC0
import Derived.Test.YtgdfdlicfjjfjaaRegionI
import Derived.Laws.CopyRow
import Derived.Laws.CopyOwn
namespace Go.Proofs.Ytgdfdlicfjjfjaa
open Go.RowKit Dec

/-- A new variable of four points: made by number k, filled by number s. -/
def Slot4 (w0 : World) (l : Array Bool) (k s : Nat) (t : Value) (w : World) (g : Nat → PV) : Prop :=
  (On l s → On l k) ∧ (On l k → ∃ B, t = .pointer (some ⟨B, 0, none⟩) ∧ w0.heap.size ≤ B ∧ ((On l s ∧ Whole w B 51 (four g)) ∨ (¬ On l s ∧ Whole w B 51 #[.int .i64 0, .int .i64 0, .int .i64 0, .int .i64 0, .int .i64 0, .int .i64 0, .int .i64 0, .int .i64 0, .int .i64 0, .int .i64 0, .int .i64 0, .int .i64 0, .int .i64 0, .int .i64 0, .int .i64 0, .int .i64 0])))
theorem Slot4.keep {w0 : World} {l : Array Bool} {k s i : Nat} {t : Value} {w : World} {g : Nat → PV} (h : Slot4 w0 l k s t w g) (hk : k ≠ i) (hs : s ≠ i) : Slot4 w0 (l.setIfInBounds i true) k s t w g := by
  have back : ∀ {j}, On l j → j ≠ i → On (l.setIfInBounds i true) j := fun {j} h' hj => by
    unfold On at h' ⊢; rw [getD_set_ne false (Ne.symm hj)]; exact h'
  refine ⟨fun h' => back (h.1 (on_old hs h')) hk, fun h' => ?_⟩
  obtain ⟨B, e, hB, h2⟩ := h.2 (on_old hk h')
  refine ⟨B, e, hB, ?_⟩
  rcases h2 with ⟨h2, h3⟩ | ⟨h2, h3⟩
  · exact .inl ⟨back h2 hs, h3⟩
  · exact .inr ⟨fun h4 => h2 (on_old hs h4), h3⟩
theorem Slot4.later {w0 : World} {l : Array Bool} {k s : Nat} {t : Value} {w w' : World} {g : Nat → PV} (h : Slot4 w0 l k s t w g) (hb : Below w.heap.size w w') : Slot4 w0 l k s t w' g := by
  refine ⟨h.1, fun h' => ?_⟩
  obtain ⟨B, e, hB, h2⟩ := h.2 h'
  refine ⟨B, e, hB, ?_⟩
  rcases h2 with ⟨h2, h3⟩ | ⟨h2, h3⟩
  · exact .inl ⟨h2, h3.here hb⟩
  · exact .inr ⟨h2, h3.here hb⟩
theorem Slot4.old {w0 : World} {l : Array Bool} {k s : Nat} {t : Value} {w : World} {g : Nat → PV} (h : Slot4 w0 l k s t w g) (o : Obj) : Slot4 w0 l k s t (w.alloc o) g := h.later ((Below.refl _ _).alloc (Nat.le_refl _) o)
theorem Slot4.made {w0 : World} {l : Array Bool} {k s : Nat} {t : Value} {w : World} {g : Nat → PV} (h : Slot4 w0 l k s t w g) (hks : s ≠ k) (hun : l.getD k true = false) (hw : w0.heap.size ≤ w.heap.size) :
    Slot4 w0 (l.setIfInBounds k true) k s (.pointer (some ⟨w.heap.size, 0, none⟩)) (w.alloc (.cells #[.int .i64 0, .int .i64 0, .int .i64 0, .int .i64 0, .int .i64 0, .int .i64 0, .int .i64 0, .int .i64 0, .int .i64 0, .int .i64 0, .int .i64 0, .int .i64 0, .int .i64 0, .int .i64 0, .int .i64 0, .int .i64 0] 51)) g :=
  ⟨fun _ => on_new hun, fun _ => ⟨_, rfl, hw, .inr ⟨fun h' => off_of hun (h.1 (on_old hks h')), Whole.made _ _ _⟩⟩⟩
/-- Two variables that are both there lie apart. -/
def Apart4 (l : Array Bool) (k k' : Nat) (t t' : Value) : Prop := On l k → On l k' → t ≠ t'
theorem Slot4.block {w0 : World} {l : Array Bool} {k s : Nat} {t : Value} {w : World} {g : Nat → PV} (h : Slot4 w0 l k s t w g) (hk : On l k) : ∃ B, t = .pointer (some ⟨B, 0, none⟩) ∧ B < w.heap.size := by
  obtain ⟨B, e, hB, h2⟩ := h.2 hk
  refine ⟨B, e, ?_⟩
  rcases h2 with ⟨h2, h3⟩ | ⟨h2, h3⟩
  · exact h3.lt
  · exact h3.lt
theorem Slot4.unlike {w0 : World} {l : Array Bool} {k s : Nat} {t : Value} {w : World} {g : Nat → PV} (h : Slot4 w0 l k s t w g) (hk : On l k) : t ≠ .pointer (some ⟨w.heap.size, 0, none⟩) := by
  obtain ⟨B, rfl, hB⟩ := h.block hk
  intro e
  cases e
  omega

/-- copy, where an element has m cells. -/
theorem run_copy_wide (P : Program) (w : World) (dT sT ty elem : TypeId) (g o dLen dCap m : Nat) (a : Addr) (sLen sCap : Nat) (cur : Array Value) (t : TypeId) (cs : List Value)
    (hu : P.underlying dT = some (.slice elem)) (hs : (P.info? elem).map (·.size) = some m)
    (hg : w.heap[g]? = some (.cells cur t (0, 0))) (hn : cs.length = Nat.min sLen dLen * m)
    (hsrc : ∀ j v, cs[j]? = some v → w.cell? (a.add j) = some v) (hfit : o + cs.length ≤ cur.size) (h1 : ∀ v ∈ cs, v.oneCell' = true) :
    (Builtin.copy_ #[dT, sT] ty #[.slice (some ⟨g, o, none⟩) dLen dCap, .slice (some a) sLen sCap]).run P w =
      .ok (goInt (Nat.min sLen dLen)) (w.setRow g (cur.toList.take o ++ cs ++ cur.toList.drop (o + cs.length)).toArray) := by
  have hl := run_loadCells_list (P := P) w a cs hsrc
  have hst := run_storeCells_at P g o t cs 0 cur w hg (by simpa using hfit) h1
  cases hq : P.info? elem with
  | none => simp [hq] at hs
  | some i =>
    have hi : i.size = m := by simpa [hq] using hs
    simp [Builtin.copy_, run_underlying hu, Builtin.lenOf, Builtin.firstCells, sizeOf, typeInfo, hq, hi, ← hn, hl, hst]
theorem add_at (g o j : Nat) : (⟨g, o, none⟩ : Addr).add j = ⟨g, o + j, none⟩ := by unfold Addr.add; split <;> simp_all
theorem four_one (f : Nat → PV) : ∀ v ∈ (four f).toList, v.oneCell' = true := by
  intro v hv
  simp at hv
  rcases hv with h | h | h | h | h | h | h | h | h | h | h | h | h | h | h | h <;> subst h <;> rfl
theorem four_read {w : World} {B : Nat} {T : TypeId} {f : Nat → PV} (h : Whole w B T (four f)) : ∀ j v, (four f).toList[j]? = some v → w.cell? ((⟨B, 0, none⟩ : Addr).add j) = some v := fun j v hv => by
  rw [add_at, Nat.zero_add, h.reads]; simpa using hv
/-- Four points are copied behind the first o cells of a variable of the call's own. -/
theorem copy_four (w : World) (A B o n c : Nat) (T T' : TypeId) (f : Nat → PV) (cur : Array Value) (hA : Whole w A T cur) (hB : Whole w B T' (four f)) (hn : 4 ≤ n) (hfit : o + 16 ≤ cur.size) :
    ∃ w', (Builtin.copy_ #[36, 36] 3 #[.slice (some ⟨A, o, none⟩) n c, .slice (some ⟨B, 0, none⟩) 4 4]).run Try.prog w = .ok (.int .i64 4) w' ∧
      Whole w' A T (cur.toList.take o ++ (four f).toList ++ cur.toList.drop (o + 16)).toArray ∧ Below A w w' := by
  have hmin : Nat.min 4 n = 4 := Nat.min_eq_left hn
  have hr := run_copy_wide Try.prog w 36 36 3 40 A o n c 4 ⟨B, 0, none⟩ 4 4 cur T (four f).toList Try.underlying36 (by kernel_rfl) hA (by rw [hmin]; rfl) (four_read hB) (by simpa using hfit) (four_one f)
  rw [hmin] at hr
  refine ⟨_, hr, setRow_heap w A cur _ T _ hA, below_setRow (Below.refl _ _) (Nat.le_refl _) _⟩

theorem pat_eight {w : World} {A : Nat} {T : TypeId} {a b : BV} (h : Whole w A T ((((#[.int .i64 0, .int .i64 0, .int .i64 0, .int .i64 0, .int .i64 0, .int .i64 0, .int .i64 0, .int .i64 0, .int .i64 0, .int .i64 0, .int .i64 0, .int .i64 0, .int .i64 0, .int .i64 0, .int .i64 0, .int .i64 0, .int .i64 0, .int .i64 0, .int .i64 0, .int .i64 0, .int .i64 0, .int .i64 0, .int .i64 0, .int .i64 0, .int .i64 0, .int .i64 0, .int .i64 0, .int .i64 0, .int .i64 0, .int .i64 0, .int .i64 0, .int .i64 0] : Array Value).toList.take 0 ++ (four (cornF a)).toList ++ (#[.int .i64 0, .int .i64 0, .int .i64 0, .int .i64 0, .int .i64 0, .int .i64 0, .int .i64 0, .int .i64 0, .int .i64 0, .int .i64 0, .int .i64 0, .int .i64 0, .int .i64 0, .int .i64 0, .int .i64 0, .int .i64 0, .int .i64 0, .int .i64 0, .int .i64 0, .int .i64 0, .int .i64 0, .int .i64 0, .int .i64 0, .int .i64 0, .int .i64 0, .int .i64 0, .int .i64 0, .int .i64 0, .int .i64 0, .int .i64 0, .int .i64 0, .int .i64 0] : Array Value).toList.drop (0 + 16)).toArray).toList.take 16 ++ (four (cornF b)).toList ++ (((#[.int .i64 0, .int .i64 0, .int .i64 0, .int .i64 0, .int .i64 0, .int .i64 0, .int .i64 0, .int .i64 0, .int .i64 0, .int .i64 0, .int .i64 0, .int .i64 0, .int .i64 0, .int .i64 0, .int .i64 0, .int .i64 0, .int .i64 0, .int .i64 0, .int .i64 0, .int .i64 0, .int .i64 0, .int .i64 0, .int .i64 0, .int .i64 0, .int .i64 0, .int .i64 0, .int .i64 0, .int .i64 0, .int .i64 0, .int .i64 0, .int .i64 0, .int .i64 0] : Array Value).toList.take 0 ++ (four (cornF a)).toList ++ (#[.int .i64 0, .int .i64 0, .int .i64 0, .int .i64 0, .int .i64 0, .int .i64 0, .int .i64 0, .int .i64 0, .int .i64 0, .int .i64 0, .int .i64 0, .int .i64 0, .int .i64 0, .int .i64 0, .int .i64 0, .int .i64 0, .int .i64 0, .int .i64 0, .int .i64 0, .int .i64 0, .int .i64 0, .int .i64 0, .int .i64 0, .int .i64 0, .int .i64 0, .int .i64 0, .int .i64 0, .int .i64 0, .int .i64 0, .int .i64 0, .int .i64 0, .int .i64 0] : Array Value).toList.drop (0 + 16)).toArray).toList.drop (16 + 16)).toArray) : ∀ i < 8, PAt w A (0 + i * 4) (bothF a b i) := by
  intro i hi
  rcases (by omega : i = 0 ∨ i = 1 ∨ i = 2 ∨ i = 3 ∨ i = 4 ∨ i = 5 ∨ i = 6 ∨ i = 7) with rfl | rfl | rfl | rfl | rfl | rfl | rfl | rfl
  · exact ⟨(h.reads _).trans rfl, (h.reads _).trans rfl, (h.reads _).trans rfl, (h.reads _).trans rfl⟩
  · exact ⟨(h.reads _).trans rfl, (h.reads _).trans rfl, (h.reads _).trans rfl, (h.reads _).trans rfl⟩
  · exact ⟨(h.reads _).trans rfl, (h.reads _).trans rfl, (h.reads _).trans rfl, (h.reads _).trans rfl⟩
  · exact ⟨(h.reads _).trans rfl, (h.reads _).trans rfl, (h.reads _).trans rfl, (h.reads _).trans rfl⟩
  · exact ⟨(h.reads _).trans rfl, (h.reads _).trans rfl, (h.reads _).trans rfl, (h.reads _).trans rfl⟩
  · exact ⟨(h.reads _).trans rfl, (h.reads _).trans rfl, (h.reads _).trans rfl, (h.reads _).trans rfl⟩
  · exact ⟨(h.reads _).trans rfl, (h.reads _).trans rfl, (h.reads _).trans rfl, (h.reads _).trans rfl⟩
  · exact ⟨(h.reads _).trans rfl, (h.reads _).trans rfl, (h.reads _).trans rfl, (h.reads _).trans rfl⟩

/-- What holds within the region: the frame's six slots that it writes, and the memory. -/
def Inv4 (w0 : World) (a b : BV) (fr : Value → Value → Value → Value → Value → Value → Act) (l : Array Bool) (act : Act) (w : World) : Prop :=
  ∃ t7 t8 t17 t18 t19 t20, act = fr t7 t8 t17 t18 t19 t20 ∧ Below w0.heap.size w0 w ∧ (On l 0 → t17 = a.val) ∧ (On l 1 → t18 = .agg (four (cornF a))) ∧ (On l 2 → t19 = b.val) ∧ (On l 3 → t20 = .agg (four (cornF b))) ∧
    Slot4 w0 l 4 6 t7 w (cornF a) ∧ Slot4 w0 l 5 7 t8 w (cornF b) ∧ Apart4 l 4 5 t7 t8
end Go.Proofs.Ytgdfdlicfjjfjaa
