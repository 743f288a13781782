/- font: a list of codes, sorted, each once; the library's Clone, Sort, Compact over rows of the call's own. -/
import Derived.Test.YtldhkhaciflmoaaFontG
import Derived.Test.YtldhkhaciflmoaaShelf
import Derived.Sort.OwnSortedInts
import Derived.Lib.SlicesCompact
namespace Go.Proofs.Ytldhkhaciflmoaa
open Go.RowKit Go.Sort Go.Lib

def leI (x y : Int) : Bool := decide (x ≤ y)
/-- Sorted, each once. -/
def sdl (l : List Int) : List Int := Lib.compact (l.mergeSort fun x y => decide (x ≤ y))
theorem compact_rise (d : Array Int) (hs : ∀ i j, i ≤ j → j < d.size → d[i]! ≤ d[j]!) : ∀ m, m ≤ d.size → (compactUpTo d m).Pairwise (· < ·) ∧ ∀ x, x ∈ compactUpTo d m ↔ ∃ j, j < m ∧ d[j]! = x
  | 0, _ => ⟨by simp [compactUpTo], fun x => by simp [compactUpTo]⟩
  | m + 1, h => by
    obtain ⟨h1, h2⟩ := compact_rise d hs m (by omega)
    rw [compactUpTo_succ]
    by_cases hk : keeps d m = true
    · rw [if_pos hk]
      refine ⟨List.pairwise_append.2 ⟨h1, List.pairwise_singleton _ _, fun x hx y hy => ?_⟩, fun x => ?_⟩
      · obtain ⟨j, hj, rfl⟩ := (h2 x).1 hx
        rw [List.mem_singleton.1 hy]
        unfold keeps at hk
        rw [decide_eq_true_iff] at hk
        have e1 := hs j (m - 1) (by omega) (by omega)
        have e2 := hs (m - 1) m (by omega) (by omega)
        rcases hk with hk | hk
        · omega
        · omega
      · rw [List.mem_append, h2, List.mem_singleton]
        constructor
        · rintro (⟨j, hj, rfl⟩ | rfl)
          · exact ⟨j, by omega, rfl⟩
          · exact ⟨m, by omega, rfl⟩
        · rintro ⟨j, hj, rfl⟩
          rcases Nat.lt_succ_iff_lt_or_eq.1 hj with hj | rfl
          · exact .inl ⟨j, hj, rfl⟩
          · exact .inr rfl
    · rw [if_neg hk, List.append_nil]
      refine ⟨h1, fun x => ?_⟩
      rw [h2]
      constructor
      · rintro ⟨j, hj, rfl⟩
        exact ⟨j, by omega, rfl⟩
      · rintro ⟨j, hj, rfl⟩
        rcases Nat.lt_succ_iff_lt_or_eq.1 hj with hj | rfl
        · exact ⟨j, hj, rfl⟩
        · have : ¬ (j = 0 ∨ d[j]! ≠ d[j - 1]!) := by
            intro e
            exact hk (by unfold keeps; exact decide_eq_true e)
          have hj0 : j ≠ 0 := fun e => this (.inl e)
          have hjj : d[j]! = d[j - 1]! := Classical.byContradiction fun e => this (.inr e)
          exact ⟨j - 1, by omega, hjj.symm⟩
theorem sorted_get {l : List Int} (h : l.Pairwise (· ≤ ·)) (i j : Nat) (hij : i ≤ j) (hj : j < l.toArray.size) : l.toArray[i]! ≤ l.toArray[j]! := by
  have hj' : j < l.length := by simpa using hj
  have hi' : i < l.length := by omega
  simp only [List.getElem!_toArray, getElem!_pos l i hi', getElem!_pos l j hj']
  rcases Nat.lt_or_eq_of_le hij with h' | rfl
  · exact List.pairwise_iff_getElem.1 h i j hi' hj' h'
  · exact Int.le_refl _
theorem sort_pair (l : List Int) : (l.mergeSort fun x y => decide (x ≤ y)).Pairwise (· ≤ ·) := by
  have := List.pairwise_mergeSort (le := fun x y : Int => decide (x ≤ y)) (fun a b c h1 h2 => by simp only [decide_eq_true_iff] at *; omega) (fun a b => by simp only [Bool.or_eq_true, decide_eq_true_iff]; omega) l
  exact this.imp (fun h => by simpa using h)
theorem sdl_rise (l : List Int) : (sdl l).Pairwise (· < ·) := (compact_rise _ (sorted_get (sort_pair l)) _ (by simp)).1
theorem sdl_mem (l : List Int) (x : Int) : x ∈ sdl l ↔ x ∈ l := by
  have h := (compact_rise _ (sorted_get (sort_pair l)) (l.mergeSort fun x y => decide (x ≤ y)).length (by simp)).2 x
  have h2 : x ∈ sdl l ↔ ∃ j, j < (l.mergeSort fun x y => decide (x ≤ y)).length ∧ (l.mergeSort fun x y => decide (x ≤ y)).toArray[j]! = x := h
  rw [h2, ← (List.mergeSort_perm l fun x y => decide (x ≤ y)).mem_iff, List.mem_iff_getElem]
  constructor
  · rintro ⟨j, hj, e⟩
    refine ⟨j, hj, ?_⟩
    rw [← e]
    simp [List.getElem?_eq_getElem hj]
  · rintro ⟨j, hj, e⟩
    refine ⟨j, hj, ?_⟩
    rw [← e]
    simp [List.getElem?_eq_getElem hj]
theorem rise_eq : ∀ (l k : List Int), l.Pairwise (· < ·) → k.Pairwise (· < ·) → (∀ x, x ∈ l ↔ x ∈ k) → l = k
  | [], [], _, _, _ => rfl
  | [], y :: k, _, _, h => by have := (h y).2 (List.mem_cons_self ..); cases this
  | x :: l, [], _, _, h => by have := (h x).1 (List.mem_cons_self ..); cases this
  | x :: l, y :: k, hl, hk, h => by
    have hx : ∀ a' ∈ l, x < a' := (List.pairwise_cons.1 hl).1
    have hy : ∀ a' ∈ k, y < a' := (List.pairwise_cons.1 hk).1
    have hxy : x = y := by
      rcases List.mem_cons.1 ((h x).1 (List.mem_cons_self ..)) with e | e
      · exact e
      · rcases List.mem_cons.1 ((h y).2 (List.mem_cons_self ..)) with e' | e'
        · exact e'.symm
        · have h1 := hy _ e; have h2 := hx _ e'; omega
    subst hxy
    congr 1
    refine rise_eq l k hl.of_cons hk.of_cons fun z => ⟨fun hz => ?_, fun hz => ?_⟩
    · rcases List.mem_cons.1 ((h z).1 (List.mem_cons_of_mem _ hz)) with e | e
      · have := hx _ hz; omega
      · exact e
    · rcases List.mem_cons.1 ((h z).2 (List.mem_cons_of_mem _ hz)) with e | e
      · have := hy _ hz; omega
      · exact e
theorem sdl_self {l : List Int} (h : l.Pairwise (· < ·)) : sdl l = l := rise_eq _ _ (sdl_rise l) h (sdl_mem l)
theorem sdl_len (l : List Int) : (sdl l).length ≤ l.length := by
  unfold sdl Lib.compact compactUpTo
  rw [List.length_map]
  refine Nat.le_trans (List.length_filter_le _ _) ?_
  simp
theorem sort_len (l : List Int) : (l.mergeSort fun x y => decide (x ≤ y)).length = l.length := List.length_mergeSort l

theorem grow_none (x : World) : grow x #[] = x := by cases x; simp [grow]
/-- The library's Clone, at any row of ints. -/
theorem clone_any (A : Option Addr) (n c : Nat) (l : List Int) (w : World) (h : IntsAt w A n c l) (hn : n ≤ 1000000) :
    Calls Try.prog 33 #[.slice A n c] w fun e w' => ∃ v, e = .returned v ∧ w'.ownsRow w.heap.size 3 1 v n (ivs l) ∧ Below w.heap.size w w' := by
  have hl := h.len
  rcases Nat.eq_zero_or_pos n with rfl | hp
  · obtain rfl : l = [] := List.eq_nil_of_length_eq_zero hl
    cases A with
    | none => exact (Try.slices_Clone_int_nil 0 c w).mono fun e w' ⟨he, hw⟩ => ⟨_, he, World.ownsRow_nil _ _ _ _, by rw [hw]; exact Below.refl _ _⟩
    | some a => exact (Try.slices_Clone_int_zero a c w).mono fun e w' ⟨v, he, ho, _, hb⟩ => ⟨v, he, ho, hb⟩
  · obtain ⟨R, o, rfl, hR, hc⟩ := h.at_ hp
    refine (Try.slices_Clone_int R o n c l w (by omega) (by omega) (fun j hj => ?_)).mono fun e w' ⟨v, he, ho, _, hb⟩ => ⟨v, he, ?_, hb⟩
    · rw [hc j l[j] (List.getElem?_eq_getElem hj)]
      simp [List.getD, List.getElem?_eq_getElem hj]
    · rw [List.take_of_length_le (by omega)] at ho
      exact ho
theorem sort_own (base n : Nat) (v : Value) (l : List Int) (w : World) (h : w.ownsRow base 3 1 v n (ivs l)) (hB : base ≤ w.heap.size) (hn : n ≤ 1000000) :
    Calls Try.prog 34 #[v] w fun e w' => e = .returned (.tuple #[]) ∧ w'.ownsRow base 3 1 v n (ivs (l.mergeSort fun x y => decide (x ≤ y))) ∧ Below base w w' := by
  have hl : l.length = n := by have := h.1; simpa [ivs] using this
  rcases h.2 with ⟨rfl, rfl⟩ | ⟨g, cap, cur, rfl, hg, hw, hnc, hc, hs, ht⟩
  · obtain rfl : l = [] := List.eq_nil_of_length_eq_zero hl
    exact (Try.slices_Sort_int_none none 0 w).mono fun e w' ⟨he, hw⟩ => ⟨he, by simpa [ivs] using World.ownsRow_nil w' base 3 1, by rw [hw]; exact Below.refl _ _⟩
  · subst hl
    have hH : Holds (Value.int .i64) w g 0 l.toArray := holds_of_blockI hw (by simpa [ivs] using ht)
    refine (Try.slices_Sort_int g 0 cap l w hH (Array.getElem?_eq_some_iff.1 hw).1 (by omega)).mono fun e w' ⟨he, k, os, hw'⟩ => ⟨he, ?_, ?_⟩
    · subst hw'
      exact ownsRow_sortedI (ss := l) (sort_len l) hg hw hnc hc hs
    · subst hw'
      exact (Below.refl base w).grown (grownBy_sortedI _) hB (fun k e => by injection e with e; omega)
theorem compact_own (base n : Nat) (v : Value) (l : List Int) (w : World) (h : w.ownsRow base 3 1 v n (ivs l)) (hB : base ≤ w.heap.size) (hn : n ≤ 1000000) :
    Calls Try.prog 35 #[v] w fun e w' => ∃ A c, e = .returned (.slice A (Lib.compact l).length c) ∧ IntsAt w' A (Lib.compact l).length c (Lib.compact l) ∧ Below base w w' ∧ (∀ R o, A = some ⟨R, o, none⟩ → base ≤ R ∧ R < w'.heap.size) := by
  have hl : l.length = n := by have := h.1; simpa [ivs] using this
  rcases h.2 with ⟨rfl, rfl⟩ | ⟨g, cap, cur, rfl, hg, hw, hnc, hc, hs, ht⟩
  · obtain rfl : l = [] := List.eq_nil_of_length_eq_zero hl
    refine (Try.slices_Compact_int_empty none 0 w).mono fun e w' ⟨he, hw⟩ => ⟨none, 0, he, ?_, by rw [hw]; exact Below.refl _ _, fun R o e => by cases e⟩
    exact ⟨rfl, by simp [Lib.compact, compactUpTo], by omega, fun h => by simp [Lib.compact, compactUpTo] at h⟩
  · subst hl
    have hH : Holds (Value.int .i64) w g 0 l.toArray := holds_of_blockI hw (by simpa [ivs] using ht)
    have hle : (Lib.compact l).length ≤ l.length := by
      unfold Lib.compact compactUpTo
      rw [List.length_map]
      exact Nat.le_trans (List.length_filter_le _ _) (by simp)
    unfold maxLen at hc
    refine (Try.slices_Compact_int g 0 cap l w hH (by omega) hnc).mono fun e w' ⟨he, q, hw'⟩ => ⟨some ⟨g, 0, none⟩, cap, he, ?_, ?_, fun R o e => by
      injection e with e
      injection e with e _
      subst e
      have e1 : w' = grow (putRow (Value.int .i64) (Sort.ahead w q) g 0 (Lib.compact l ++ List.replicate (l.length - (Lib.compact l).length) 0).toArray) #[] := by rw [hw', grow_none]
      have hb : Below base w w' := by rw [e1]; exact (Below.refl base w).grown (grownBy_sortedI _) hB (fun k e => by injection e with e; omega)
      have lg := (Array.getElem?_eq_some_iff.1 hw).1
      have hsz := (grownBy_sortedI (w := w) (g := g) (n := q) (os := #[]) (Lib.compact l ++ List.replicate (l.length - (Lib.compact l).length) 0).toArray).size
      rw [← e1] at hsz
      exact ⟨hg, Nat.lt_of_lt_of_le lg hsz⟩⟩
    · have ho := ownsRow_sortedI (n := q) (os := #[]) (ss := l) (ts := Lib.compact l ++ List.replicate (l.length - (Lib.compact l).length) 0) (by simp; omega) hg hw hnc (by unfold maxLen; omega) hs
      have e1 : w' = grow (putRow (Value.int .i64) (Sort.ahead w q) g 0 (Lib.compact l ++ List.replicate (l.length - (Lib.compact l).length) 0).toArray) #[] := by rw [hw', grow_none]
      rw [← e1] at ho
      obtain ⟨A, C, e2, hi⟩ := IntsAt.of_own (l := Lib.compact l ++ List.replicate (l.length - (Lib.compact l).length) 0) ho
      injection e2 with e3 e4 e5
      subst e3 e5
      refine ⟨rfl, by omega, by omega, fun hp => ?_⟩
      obtain ⟨R, o, e6, hR, hcc⟩ := hi.at_ (by omega)
      refine ⟨R, o, e6, hR, fun i x hx => hcc i x ?_⟩
      rw [List.getElem?_append_left (List.getElem?_eq_some_iff.1 hx).1]
      exact hx
    · have e1 : w' = grow (putRow (Value.int .i64) (Sort.ahead w q) g 0 (Lib.compact l ++ List.replicate (l.length - (Lib.compact l).length) 0).toArray) #[] := by rw [hw', grow_none]
      rw [e1]
      exact (Below.refl base w).grown (grownBy_sortedI _) hB (fun k e => by injection e with e; omega)
end Go.Proofs.Ytldhkhaciflmoaa
