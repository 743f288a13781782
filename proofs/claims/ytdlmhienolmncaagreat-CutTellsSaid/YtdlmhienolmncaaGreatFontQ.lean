/- font: a list of codes, sorted, each once; the library's Clone, Sort, Compact over rows of the call's own. -/
import Derived.Test.YtdlmhienolmncaaGreatFontG
import Derived.Test.YtdlmhienolmncaaGreatShelf
import Derived.Sort.OwnSortedInts
import Derived.Lib.SlicesCompact
import Derived.BigRegion
namespace Go.Proofs.YtdlmhienolmncaaGreat
open Go.RowKit Go.Sort Go.Lib

def leI (x y : Int) : Bool := decide (x ≤ y)
/-- Sorted, each once. -/
def sdl (l : List Int) : List Int := Lib.compact (l.mergeSort fun x y => decide (x ≤ y))
theorem compact_rise (d : Array Int) (hs : ∀ i j, i ≤ j → j < d.size → d[i]! ≤ d[j]!) : ∀ m, m ≤ d.size → (compactUpTo d m).Pairwise (· < ·) ∧ ∀ x, x ∈ compactUpTo d m ↔ ∃ j, j < m ∧ d[j]! = x
  | 0, _ => ⟨by simp [compactUpTo], fun x => by simp [compactUpTo]⟩
  | m + 1, h => by
    obtain ⟨h1, h2⟩ := compact_rise d hs m (by omega)
    rw [compactUpTo_succ]
    by_cases hk : keeps d m = true
    · rw [if_pos hk]
      refine ⟨List.pairwise_append.2 ⟨h1, List.pairwise_singleton _ _, fun x hx y hy => ?_⟩, fun x => ?_⟩
      · obtain ⟨j, hj, rfl⟩ := (h2 x).1 hx
        rw [List.mem_singleton.1 hy]
        unfold keeps at hk
        rw [decide_eq_true_iff] at hk
        have e1 := hs j (m - 1) (by omega) (by omega)
        have e2 := hs (m - 1) m (by omega) (by omega)
        rcases hk with hk | hk
        · omega
        · omega
      · rw [List.mem_append, h2, List.mem_singleton]
        constructor
        · rintro (⟨j, hj, rfl⟩ | rfl)
          · exact ⟨j, by omega, rfl⟩
          · exact ⟨m, by omega, rfl⟩
        · rintro ⟨j, hj, rfl⟩
          rcases Nat.lt_succ_iff_lt_or_eq.1 hj with hj | rfl
          · exact .inl ⟨j, hj, rfl⟩
          · exact .inr rfl
    · rw [if_neg hk, List.append_nil]
      refine ⟨h1, fun x => ?_⟩
      rw [h2]
      constructor
      · rintro ⟨j, hj, rfl⟩
        exact ⟨j, by omega, rfl⟩
      · rintro ⟨j, hj, rfl⟩
        rcases Nat.lt_succ_iff_lt_or_eq.1 hj with hj | rfl
        · exact ⟨j, hj, rfl⟩
        · have : ¬ (j = 0 ∨ d[j]! ≠ d[j - 1]!) := by
            intro e
            exact hk (by unfold keeps; exact decide_eq_true e)
          have hj0 : j ≠ 0 := fun e => this (.inl e)
          have hjj : d[j]! = d[j - 1]! := Classical.byContradiction fun e => this (.inr e)
          exact ⟨j - 1, by omega, hjj.symm⟩
theorem sorted_get {l : List Int} (h : l.Pairwise (· ≤ ·)) (i j : Nat) (hij : i ≤ j) (hj : j < l.toArray.size) : l.toArray[i]! ≤ l.toArray[j]! := by
  have hj' : j < l.length := by simpa using hj
  have hi' : i < l.length := by omega
  simp only [List.getElem!_toArray, getElem!_pos l i hi', getElem!_pos l j hj']
  rcases Nat.lt_or_eq_of_le hij with h' | rfl
  · exact List.pairwise_iff_getElem.1 h i j hi' hj' h'
  · exact Int.le_refl _
theorem sort_pair (l : List Int) : (l.mergeSort fun x y => decide (x ≤ y)).Pairwise (· ≤ ·) := by
  have := List.pairwise_mergeSort (le := fun x y : Int => decide (x ≤ y)) (fun a b c h1 h2 => by simp only [decide_eq_true_iff] at *; omega) (fun a b => by simp only [Bool.or_eq_true, decide_eq_true_iff]; omega) l
  exact this.imp (fun h => by simpa using h)
theorem sdl_rise (l : List Int) : (sdl l).Pairwise (· < ·) := (compact_rise _ (sorted_get (sort_pair l)) _ (by simp)).1
theorem sdl_mem (l : List Int) (x : Int) : x ∈ sdl l ↔ x ∈ l := by
  have h := (compact_rise _ (sorted_get (sort_pair l)) (l.mergeSort fun x y => decide (x ≤ y)).length (by simp)).2 x
  have h2 : x ∈ sdl l ↔ ∃ j, j < (l.mergeSort fun x y => decide (x ≤ y)).length ∧ (l.mergeSort fun x y => decide (x ≤ y)).toArray[j]! = x := h
  rw [h2, ← (List.mergeSort_perm l fun x y => decide (x ≤ y)).mem_iff, List.mem_iff_getElem]
  constructor
  · rintro ⟨j, hj, e⟩
    refine ⟨j, hj, ?_⟩
    rw [← e]
    simp [List.getElem?_eq_getElem hj]
  · rintro ⟨j, hj, e⟩
    refine ⟨j, hj, ?_⟩
    rw [← e]
    simp [List.getElem?_eq_getElem hj]
theorem rise_eq : ∀ (l k : List Int), l.Pairwise (· < ·) → k.Pairwise (· < ·) → (∀ x, x ∈ l ↔ x ∈ k) → l = k
  | [], [], _, _, _ => rfl
  | [], y :: k, _, _, h => by have := (h y).2 (List.mem_cons_self ..); cases this
  | x :: l, [], _, _, h => by have := (h x).1 (List.mem_cons_self ..); cases this
  | x :: l, y :: k, hl, hk, h => by
    have hx : ∀ a' ∈ l, x < a' := (List.pairwise_cons.1 hl).1
    have hy : ∀ a' ∈ k, y < a' := (List.pairwise_cons.1 hk).1
    have hxy : x = y := by
      rcases List.mem_cons.1 ((h x).1 (List.mem_cons_self ..)) with e | e
      · exact e
      · rcases List.mem_cons.1 ((h y).2 (List.mem_cons_self ..)) with e' | e'
        · exact e'.symm
        · have h1 := hy _ e; have h2 := hx _ e'; omega
    subst hxy
    congr 1
    refine rise_eq l k hl.of_cons hk.of_cons fun z => ⟨fun hz => ?_, fun hz => ?_⟩
    · rcases List.mem_cons.1 ((h z).1 (List.mem_cons_of_mem _ hz)) with e | e
      · have := hx _ hz; omega
      · exact e
    · rcases List.mem_cons.1 ((h z).2 (List.mem_cons_of_mem _ hz)) with e | e
      · have := hy _ hz; omega
      · exact e
theorem sdl_self {l : List Int} (h : l.Pairwise (· < ·)) : sdl l = l := rise_eq _ _ (sdl_rise l) h (sdl_mem l)
theorem sdl_len (l : List Int) : (sdl l).length ≤ l.length := by
  unfold sdl Lib.compact compactUpTo
  rw [List.length_map]
  refine Nat.le_trans (List.length_filter_le _ _) ?_
  simp
theorem sort_len (l : List Int) : (l.mergeSort fun x y => decide (x ≤ y)).length = l.length := List.length_mergeSort l

theorem grow_none (x : World) : grow x #[] = x := by cases x; simp [grow]
/-- The library's Clone, at any row of ints. -/
theorem clone_any (A : Option Addr) (n c : Nat) (l : List Int) (w : World) (h : IntsAt w A n c l) (hn : n ≤ 1000000) :
    Calls Tryz.prog 58 #[.slice A n c] w fun e w' => ∃ v, e = .returned v ∧ w'.ownsRow w.heap.size 3 1 v n (ivs l) ∧ Below w.heap.size w w' := by
  have hl := h.len
  rcases Nat.eq_zero_or_pos n with rfl | hp
  · obtain rfl : l = [] := List.eq_nil_of_length_eq_zero hl
    cases A with
    | none => exact (Tryz.slices_Clone_int_nil 0 c w).mono fun e w' ⟨he, hw⟩ => ⟨_, he, World.ownsRow_nil _ _ _ _, by rw [hw]; exact Below.refl _ _⟩
    | some a => exact (Tryz.slices_Clone_int_zero a c w).mono fun e w' ⟨v, he, ho, _, hb⟩ => ⟨v, he, ho, hb⟩
  · obtain ⟨R, o, rfl, hR, hc⟩ := h.at_ hp
    refine (Tryz.slices_Clone_int R o n c l w (by omega) (by omega) (fun j hj => ?_)).mono fun e w' ⟨v, he, ho, _, hb⟩ => ⟨v, he, ?_, hb⟩
    · rw [hc j l[j] (List.getElem?_eq_getElem hj)]
      simp [List.getD, List.getElem?_eq_getElem hj]
    · rw [List.take_of_length_le (by omega)] at ho
      exact ho
theorem sort_own (base n : Nat) (v : Value) (l : List Int) (w : World) (h : w.ownsRow base 3 1 v n (ivs l)) (hB : base ≤ w.heap.size) (hn : n ≤ 1000000) :
    Calls Tryz.prog 37 #[v] w fun e w' => e = .returned (.tuple #[]) ∧ w'.ownsRow base 3 1 v n (ivs (l.mergeSort fun x y => decide (x ≤ y))) ∧ Below base w w' := by
  have hl : l.length = n := by have := h.1; simpa [ivs] using this
  rcases h.2 with ⟨rfl, rfl⟩ | ⟨g, cap, cur, rfl, hg, hw, hnc, hc, hs, ht⟩
  · obtain rfl : l = [] := List.eq_nil_of_length_eq_zero hl
    exact (Tryz.slices_Sort_int_none none 0 w).mono fun e w' ⟨he, hw⟩ => ⟨he, by simpa [ivs] using World.ownsRow_nil w' base 3 1, by rw [hw]; exact Below.refl _ _⟩
  · subst hl
    have hH : Holds (Value.int .i64) w g 0 l.toArray := holds_of_blockI hw (by simpa [ivs] using ht)
    refine (Tryz.slices_Sort_int g 0 cap l w hH (Array.getElem?_eq_some_iff.1 hw).1 (by omega)).mono fun e w' ⟨he, k, os, hw'⟩ => ⟨he, ?_, ?_⟩
    · subst hw'
      exact ownsRow_sortedI (ss := l) (sort_len l) hg hw hnc hc hs
    · subst hw'
      exact (Below.refl base w).grown (grownBy_sortedI _) hB (fun k e => by injection e with e; omega)
theorem compact_own (base n : Nat) (v : Value) (l : List Int) (w : World) (h : w.ownsRow base 3 1 v n (ivs l)) (hB : base ≤ w.heap.size) (hn : n ≤ 1000000) :
    Calls Tryz.prog 38 #[v] w fun e w' => ∃ A c, e = .returned (.slice A (Lib.compact l).length c) ∧ IntsAt w' A (Lib.compact l).length c (Lib.compact l) ∧ Below base w w' ∧ (∀ R o, A = some ⟨R, o, none⟩ → base ≤ R ∧ R < w'.heap.size) := by
  have hl : l.length = n := by have := h.1; simpa [ivs] using this
  rcases h.2 with ⟨rfl, rfl⟩ | ⟨g, cap, cur, rfl, hg, hw, hnc, hc, hs, ht⟩
  · obtain rfl : l = [] := List.eq_nil_of_length_eq_zero hl
    refine (Tryz.slices_Compact_int_empty none 0 w).mono fun e w' ⟨he, hw⟩ => ⟨none, 0, he, ?_, by rw [hw]; exact Below.refl _ _, fun R o e => by cases e⟩
    exact ⟨rfl, by simp [Lib.compact, compactUpTo], by omega, fun h => by simp [Lib.compact, compactUpTo] at h⟩
  · subst hl
    have hH : Holds (Value.int .i64) w g 0 l.toArray := holds_of_blockI hw (by simpa [ivs] using ht)
    have hle : (Lib.compact l).length ≤ l.length := by
      unfold Lib.compact compactUpTo
      rw [List.length_map]
      exact Nat.le_trans (List.length_filter_le _ _) (by simp)
    unfold maxLen at hc
    refine (Tryz.slices_Compact_int g 0 cap l w hH (by omega) hnc).mono fun e w' ⟨he, q, hw'⟩ => ⟨some ⟨g, 0, none⟩, cap, he, ?_, ?_, fun R o e => by
      injection e with e
      injection e with e _
      subst e
      have e1 : w' = grow (putRow (Value.int .i64) (Sort.ahead w q) g 0 (Lib.compact l ++ List.replicate (l.length - (Lib.compact l).length) 0).toArray) #[] := by rw [hw', grow_none]
      have hb : Below base w w' := by rw [e1]; exact (Below.refl base w).grown (grownBy_sortedI _) hB (fun k e => by injection e with e; omega)
      have lg := (Array.getElem?_eq_some_iff.1 hw).1
      have hsz := (grownBy_sortedI (w := w) (g := g) (n := q) (os := #[]) (Lib.compact l ++ List.replicate (l.length - (Lib.compact l).length) 0).toArray).size
      rw [← e1] at hsz
      exact ⟨hg, Nat.lt_of_lt_of_le lg hsz⟩⟩
    · have ho := ownsRow_sortedI (n := q) (os := #[]) (ss := l) (ts := Lib.compact l ++ List.replicate (l.length - (Lib.compact l).length) 0) (by simp; omega) hg hw hnc (by unfold maxLen; omega) hs
      have e1 : w' = grow (putRow (Value.int .i64) (Sort.ahead w q) g 0 (Lib.compact l ++ List.replicate (l.length - (Lib.compact l).length) 0).toArray) #[] := by rw [hw', grow_none]
      rw [← e1] at ho
      obtain ⟨A, C, e2, hi⟩ := IntsAt.of_own (l := Lib.compact l ++ List.replicate (l.length - (Lib.compact l).length) 0) ho
      injection e2 with e3 e4 e5
      subst e3 e5
      refine ⟨rfl, by omega, by omega, fun hp => ?_⟩
      obtain ⟨R, o, e6, hR, hcc⟩ := hi.at_ (by omega)
      refine ⟨R, o, e6, hR, fun i x hx => hcc i x ?_⟩
      rw [List.getElem?_append_left (List.getElem?_eq_some_iff.1 hx).1]
      exact hx
    · have e1 : w' = grow (putRow (Value.int .i64) (Sort.ahead w q) g 0 (Lib.compact l ++ List.replicate (l.length - (Lib.compact l).length) 0).toArray) #[] := by rw [hw', grow_none]
      rw [e1]
      exact (Below.refl base w).grown (grownBy_sortedI _) hB (fun k e => by injection e with e; omega)
end Go.Proofs.YtdlmhienolmncaaGreat
/- font: where a code stands among glyphs: the closure of the search, the library's BinarySearchFunc, place, search. -/
namespace Go.Proofs.YtdlmhienolmncaaGreat
open Go.RowKit

/-- The glyphs rise by their codes. -/
def Rise (gs : List Gl) : Prop := ∀ (i j : Nat) (p g : Gl), i < j → gs[i]? = some p → gs[j]? = some g → p.code < g.code
theorem rise_chk {wd : Bool} {ot : Int} {gs : List Gl} (h : chkB wd ot gs = true) : Rise gs := by
  have h1 : ∀ i p g, gs[i]? = some p → gs[i + 1]? = some g → p.code < g.code := fun i p g hp hg => by
    unfold chkB at h
    simp only [Bool.and_eq_true, List.all_eq_true, decide_eq_true_iff] at h
    have := h.2.2 (i + 1) (List.mem_range.2 (List.getElem?_eq_some_iff.1 hg).1)
    unfold okAt at this
    rw [hg] at this
    simp only [Bool.and_eq_true, Nat.add_sub_cancel, hp, Bool.or_eq_true, decide_eq_true_iff] at this
    rcases this.2.2.2 with e | e
    · simp at e
    · exact e
  intro i j p g hij hp hg
  obtain ⟨d, rfl⟩ : ∃ d, j = i + 1 + d := ⟨j - i - 1, by omega⟩
  clear hij
  induction d generalizing g with
  | zero => exact h1 i p g hp hg
  | succ d ih =>
    obtain ⟨q, hq⟩ : ∃ q, gs[i + 1 + d]? = some q := ⟨_, List.getElem?_eq_getElem (by have := (List.getElem?_eq_some_iff.1 hg).1; omega)⟩
    have a := ih q hq
    have b := h1 (i + 1 + d) q g hq hg
    omega
def hitG (gs : List Gl) (code : Int) : Option Gl := gs.find? (fun g => g.code == code)
def PlaceIs (gs : List Gl) (code : Int) (i : Nat) : Prop := i ≤ gs.length ∧ (∀ j g, j < i → gs[j]? = some g → g.code < code) ∧ (∀ j g, i ≤ j → gs[j]? = some g → code ≤ g.code)
theorem PlaceIs.yes {gs : List Gl} {code : Int} {i : Nat} {g : Gl} (h : PlaceIs gs code i) (hg : gs[i]? = some g) (hc : g.code = code) : hitG gs code = some g := by
  obtain ⟨hi, e⟩ := List.getElem?_eq_some_iff.1 hg
  unfold hitG
  rw [List.find?_eq_some_iff_getElem]
  refine ⟨by simpa using hc, i, hi, e, fun j hj => ?_⟩
  have := h.2.1 j gs[j] hj (List.getElem?_eq_getElem (by omega))
  simp
  omega
theorem PlaceIs.no {gs : List Gl} {code : Int} {i : Nat} (h : PlaceIs gs code i) (hr : Rise gs) (hn : ∀ g, gs[i]? = some g → g.code ≠ code) : hitG gs code = none := by
  unfold hitG
  rw [List.find?_eq_none]
  intro g hg
  obtain ⟨j, hj, rfl⟩ := List.mem_iff_getElem.1 hg
  have hjs := List.getElem?_eq_getElem hj
  simp only [beq_iff_eq]
  intro e
  rcases Nat.lt_trichotomy j i with h' | rfl | h'
  · have := h.2.1 j _ h' hjs; omega
  · exact hn _ hjs e
  · have hil : i < gs.length := by omega
    have h1 := hr i j _ _ h' (List.getElem?_eq_getElem hil) hjs
    have h2 := h.2.2 i _ (Nat.le_refl _) (List.getElem?_eq_getElem hil)
    omega
theorem closure_any (g : Gl) (code : Int) (w : World) :
    Calls Tryz.prog 122 #[.agg #[.int .i64 g.code, .int .i64 g.width, .string g.text], .int .i64 code] w fun e w' => e = .returned (.int .i64 (Lib.compareInt g.code code)) ∧ Below w.heap.size w w' := by
  go_enter Tryz.func122, Tryz.ntmps122
  go_wp2_with fail
  refine (Tryz.cmp_Compare_int g.code code _).mono ?_
  rintro e w1 ⟨rfl, rfl⟩
  go_wp2_with fail
  go_ret
  exact ⟨rfl, (Below.refl _ _).alloc (Nat.le_refl _) _⟩
theorem cmp_lt (x y : Int) : (Lib.compareInt x y < 0 ↔ x < y) ∧ (Lib.compareInt x y = 0 ↔ x = y) := by
  unfold Lib.compareInt
  split
  · omega
  · split <;> omega
def PlaceSaid (gs : List Gl) (code : Int) (w : World) (e : Ending) (w' : World) : Prop :=
  ∃ (i : Nat) (b : Bool), e = .returned (.tuple #[.int .i64 i, .bool b]) ∧ PlaceIs gs code i ∧ (b = true → ∃ g, gs[i]? = some g ∧ g.code = code) ∧ (b = false → ∀ g, gs[i]? = some g → g.code ≠ code) ∧ Below w.heap.size w w'
set_option maxRecDepth 100000 in
set_option maxHeartbeats 4000000 in
theorem bsearch_any (A : Option Addr) (n c : Nat) (gs : List Gl) (code : Int) (w : World) (h : Glyphs w A n c gs) (hr : Rise gs) (hn : n ≤ 1000000) :
    Calls Tryz.prog 121 #[.slice A n c, .int .i64 code, .func (.func 122) #[] #[]] w (PlaceSaid gs code w) := by
  have hl := h.len
  subst hl
  have H := Lib.hid (And.intro h hr)
  clear h hr
  go_enter Tryz.func121, Tryz.ntmps121
  have hcap := H.out.1.cap
  have htop := H.out.1.top
  have hce : ∀ (args : Array Value) (w : World), (callFunc 122 args).run Tryz.prog w = .ok (.enter 122 args) w := fun _ _ => rfl
  go_wp2_with fail
  go_loopw [9, 10] (fun s9 s10 wx => ∃ i j : Nat, i ≤ j ∧ j ≤ gs.length ∧ s9 = .int .i64 i ∧ s10 = .int .i64 j ∧ Hid ((∀ k g, k < i → gs[k]? = some g → g.code < code) ∧ (∀ k g, j ≤ k → gs[k]? = some g → code ≤ g.code) ∧ Below w.heap.size w wx)) (fun s9 s10 _ => (intOf s10).toNat - (intOf s9).toNat)
  case atStart => exact ⟨0, gs.length, by omega, by omega, rfl, rfl, Lib.hid ⟨fun k g h => absurd h (by omega), fun k g hk hg => absurd (List.getElem?_eq_some_iff.1 hg).1 (by omega), Below.refl _ _⟩⟩
  case round =>
    obtain ⟨i, j, hij, hjn, rfl, rfl, hS⟩ := hrel
    by_cases hlt : i < j
    · have d1 : decide ((i : Int) < (j : Int)) = true := by simp; omega
      have d2 : decide (i < j) = true := by simp; omega
      obtain ⟨m, hm⟩ : ∃ m, (i + j) / 2 = m := ⟨_, rfl⟩
      have hmi : i ≤ m := by omega
      have hmj : m < j := by omega
      obtain ⟨R, o, rfl, hR, hc⟩ := (H.out.1.below hS.out.2.2).at_ (by omega)
      obtain ⟨g, hg⟩ : ∃ g, gs[m]? = some g := ⟨_, List.getElem?_eq_getElem (by omega)⟩
      obtain ⟨k0, k1, k2⟩ := hc m g hg
      have hq : ((i : Int) + (j : Int)) / 2 = (m : Int) := by omega
      have HM := Lib.hid (And.intro hm hg)
      clear hm hg hc
      go_wp2_with fail
      refine (closure_any g code _).mono ?_
      rintro e w1 ⟨rfl, hb⟩
      have hcl := cmp_lt g.code code
      have HB := Lib.hid (hS.out.2.2.trans (hb.mono hS.out.2.2.size))
      clear hb k0 k1 k2 hR
      obtain ⟨cv, hcv⟩ : ∃ x, Lib.compareInt g.code code = x := ⟨_, rfl⟩
      rw [hcv] at hcl
      rw [hcv]
      clear hcv
      by_cases hl : g.code < code
      · have d3 : decide (cv < 0) = true := by simp; omega
        have HN := Lib.hid (show ∀ k q, k < m + 1 → gs[k]? = some q → q.code < code from fun k q hk hkq => by
          rcases Nat.lt_succ_iff_lt_or_eq.1 hk with h | rfl
          · exact Int.lt_trans (H.out.2 k m q g h hkq HM.out.2) hl
          · rw [HM.out.2] at hkq; injection hkq with e; subst e; exact hl)
        clear hcl hl
        go_wp2_with fail
        go_roundw
        case rel => exact ⟨m + 1, j, by omega, by omega, by go_num, rfl, Lib.hid ⟨HN.out, hS.out.2.1, HB.out⟩⟩
        case measure => simp [intOf]; omega
      · have d3 : decide (cv < 0) = false := by simp; omega
        have HN := Lib.hid (show ∀ k q, m ≤ k → gs[k]? = some q → code ≤ q.code from fun k q hk hkq => by
          rcases Nat.lt_or_eq_of_le hk with h | rfl
          · have := H.out.2 m k g q h HM.out.2 hkq; omega
          · rw [HM.out.2] at hkq; injection hkq with e; subst e; omega)
        clear hcl hl
        go_wp2_with fail
        go_roundw
        case rel => exact ⟨i, m, by omega, by omega, rfl, rfl, Lib.hid ⟨hS.out.1, HN.out, HB.out⟩⟩
        case measure => simp [intOf]; omega
    · obtain rfl : i = j := by omega
      have d1 : decide ((i : Int) < (i : Int)) = false := by simp
      by_cases hin : i < gs.length
      · obtain ⟨R, o, rfl, hR, hc⟩ := (H.out.1.below hS.out.2.2).at_ (by omega)
        obtain ⟨g, hg⟩ : ∃ g, gs[i]? = some g := ⟨_, List.getElem?_eq_getElem hin⟩
        obtain ⟨k0, k1, k2⟩ := hc i g hg
        have d2 : decide ((i : Int) < (gs.length : Int)) = true := by simp; omega
        have d3 : decide (i < gs.length) = true := by simp; omega
        have HG := Lib.hid hg
        clear hg hc
        go_wp2_with fail
        refine (closure_any g code _).mono ?_
        rintro e w1 ⟨rfl, hb⟩
        have hcl := cmp_lt g.code code
        have HB := Lib.hid (hS.out.2.2.trans (hb.mono hS.out.2.2.size))
        clear hb k0 k1 k2 hR
        obtain ⟨cv, hcv⟩ : ∃ x, Lib.compareInt g.code code = x := ⟨_, rfl⟩
        rw [hcv] at hcl
        rw [hcv]
        clear hcv
        by_cases he : g.code = code
        · have d4 : (cv == 0) = true := by simp; omega
          have HE := Lib.hid he
          clear hcl he
          go_wp2_with fail
          go_ret2
          exact ⟨i, true, rfl, ⟨by omega, hS.out.1, hS.out.2.1⟩, fun _ => ⟨g, HG.out, HE.out⟩, (fun h => by cases h), HB.out⟩
        · have d4 : (cv == 0) = false := by simp; omega
          have HE := Lib.hid he
          clear hcl he
          go_wp2_with fail
          go_ret2
          exact ⟨i, false, rfl, ⟨by omega, hS.out.1, hS.out.2.1⟩, (fun h => by cases h), (fun _ q hq => by rw [HG.out] at hq; injection hq with e; subst e; exact HE.out), HB.out⟩
      · have d2 : decide ((i : Int) < (gs.length : Int)) = false := by simp; omega
        have d3 : decide (i < gs.length) = false := by simp; omega
        go_wp2_with fail
        go_ret2
        exact ⟨i, false, rfl, ⟨by omega, hS.out.1, hS.out.2.1⟩, (fun h => by cases h), (fun _ q hq => absurd (List.getElem?_eq_some_iff.1 hq).1 hin), hS.out.2.2⟩
theorem place_any (A : Option Addr) (n c : Nat) (gs : List Gl) (code : Int) (w : World) (h : Glyphs w A n c gs) (hr : Rise gs) (hn : n ≤ 1000000) :
    Calls Tryz.prog 88 #[.slice A n c, .int .i64 code] w (PlaceSaid gs code w) := by
  have H := Lib.hid (And.intro h hr)
  clear h hr
  go_enter Tryz.func88, Tryz.ntmps88
  go_wp2_with fail
  refine (bsearch_any A n c gs code _ H.out.1 H.out.2 hn).mono ?_
  rintro e w1 ⟨i, b, rfl, hp⟩
  have HP := Lib.hid hp
  clear hp
  go_wp2_with fail
  go_ret2
  exact ⟨i, b, rfl, HP.out⟩
/-- The glyph of a code: the one found, or one of the width of the others. -/
def findG (ot : Int) (gs : List Gl) (code : Int) : Gl := (hitG gs code).getD ⟨code, ot, ⟨#[]⟩⟩
set_option maxRecDepth 100000 in
set_option maxHeartbeats 4000000 in
theorem search_any (wd : Bool) (A : Option Addr) (n c : Nat) (ot : Int) (gs : List Gl) (code : Int) (w : World) (h : Glyphs w A n c gs) (hr : Rise gs) (hn : n ≤ 1000000) :
    Calls Tryz.prog 59 #[.agg #[.bool wd, .slice A n c, .int .i64 ot], .int .i64 code] w fun e w' =>
      e = .returned (.tuple #[.agg #[.int .i64 (findG ot gs code).code, .int .i64 (findG ot gs code).width, .string (findG ot gs code).text], .bool (hitG gs code).isSome]) ∧ Below w.heap.size w w' := by
  have H := Lib.hid (And.intro h hr)
  have hF := Whole.made w 64 #[.bool wd, .slice A n c, .int .i64 ot]
  have hF2 := hF.old (.cells #[.int .i64 0, .int .i64 0, .string ⟨#[]⟩] 73)
  have hR := Whole.made (w.alloc (.cells #[.bool wd, .slice A n c, .int .i64 ot] 64)) 73 #[.int .i64 0, .int .i64 0, .string ⟨#[]⟩]
  simp only [World.size_alloc] at hR
  have hB : Below w.heap.size w ((w.alloc (.cells #[.bool wd, .slice A n c, .int .i64 ot] 64)).alloc (.cells #[.int .i64 0, .int .i64 0, .string ⟨#[]⟩] 73)) := by (repeat (first | with_reducible exact Below.refl _ _ | with_reducible refine Below.drew ?_ | with_reducible refine bdrewN ?_ _ | (with_reducible refine Below.setCell ?_ ?_ _; rotate_left; focus (first | exact Nat.le_refl _ | omega | (simp; omega) | (simp; done))) | (with_reducible refine Below.alloc ?_ ?_ _; rotate_left; focus (first | exact Nat.le_refl _ | omega | (simp; omega) | (simp; done))) | (with_reducible refine Below.trans ?_ (Below.mono (by assumption) ?_); rotate_left; focus (first | exact Nat.le_refl _ | omega | (simp; omega) | (simp; done)))))
  have HS := Lib.hid (And.intro hF2 (And.intro hR hB))
  clear h hr hF hF2 hR hB
  go_enter Tryz.func59, Tryz.ntmps59
  go_wp2_with fail
  refine (place_any A n c gs code _ (H.out.1.below HS.out.2.2) H.out.2 hn).mono ?_
  rintro e w1 ⟨i, b, rfl, hp, hyes, hno, hb⟩
  have hF := HS.out.1.here hb
  have hR := HS.out.2.1.here hb
  have hB := HS.out.2.2.trans (hb.mono HS.out.2.2.size)
  have hgl := H.out.1.below hB
  have cf := hF.reads
  have rd := hR.reads
  have ft := hR.thawed
  have lF := hF.lt
  have lR := hR.lt
  have HB := Lib.hid hB
  clear hb hF hR hB HS
  cases b with
  | false =>
    have hh : hitG gs code = none := hp.no H.out.2 (hno rfl)
    have hf : findG ot gs code = ⟨code, ot, ⟨#[]⟩⟩ := by unfold findG; rw [hh]; rfl
    have HF := Lib.hid (And.intro hf hh)
    clear hp hyes hno hgl hh hf
    go_wp2_with fail
    refine bodyPost_ret (v := .tuple #[.agg #[.int .i64 code, .int .i64 ot, .string ⟨#[]⟩], .bool false]) (by simp [results, Tryz.results59, go_sem, rd]) rfl ⟨by rw [HF.out.1, HF.out.2]; rfl, ?_⟩
    (repeat (first | with_reducible refine Below.drew ?_ | with_reducible refine bdrewN ?_ _ | (with_reducible refine Below.setCell ?_ ?_ _; rotate_left; focus (first | exact Nat.le_refl _ | omega | (simp; omega) | (simp; done))) | (with_reducible refine Below.alloc ?_ ?_ _; rotate_left; focus (first | exact Nat.le_refl _ | omega | (simp; omega) | (simp; done))))); with_reducible exact HB.out
  | true =>
    obtain ⟨g, hg, hgc⟩ := hyes rfl
    have hh : hitG gs code = some g := hp.yes hg hgc
    have hf : findG ot gs code = g := by unfold findG; rw [hh]; rfl
    have HF := Lib.hid (And.intro hf hh)
    have hin := (List.getElem?_eq_some_iff.1 hg).1
    obtain ⟨R, o, rfl, hRR, hc⟩ := hgl.at_ (by have := hgl.len; omega)
    obtain ⟨k0, k1, k2⟩ := hc i g hg
    have hin2 : i < n := by have := hgl.len; omega
    have hcap := hgl.cap
    clear hp hyes hno hgl hh hf hc hgc hg hin
    go_wp2_with fail
    refine bodyPost_ret (v := .tuple #[.agg #[.int .i64 g.code, .int .i64 g.width, .string g.text], .bool true]) (by simp [results, Tryz.results59, go_sem, rd]) rfl ⟨by rw [HF.out.1, HF.out.2]; rfl, ?_⟩
    (repeat (first | with_reducible refine Below.drew ?_ | with_reducible refine bdrewN ?_ _ | (with_reducible refine Below.setCell ?_ ?_ _; rotate_left; focus (first | exact Nat.le_refl _ | omega | (simp; omega) | (simp; done))) | (with_reducible refine Below.alloc ?_ ?_ _; rotate_left; focus (first | exact Nat.le_refl _ | omega | (simp; omega) | (simp; done))))); with_reducible exact HB.out
end Go.Proofs.YtdlmhienolmncaaGreat
