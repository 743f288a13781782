/- Slices of records: what their cells read as; how one's own rows, and rows among the arguments, become such. No program stands in it. -/
import Derived.Test.YtdoliloiagfagaaDoorMem
import Derived.ProofKit
import Derived.OpenShut
import Derived.Deep.DeepHandedRow
import Derived.Deep.Slices
import Derived.Lib.SmallJoins
import Derived.Lay
import Derived.Carry
namespace Go.Proofs.YtdoliloiagfagaaDoor
open Go.ChangeShapes Go.WideShapes Go.ChangeAt Go.RowKit Go.Joins Go.Deep

/-- A slice that reads as these records of z cells each, nil let in. -/
structure RowAt (w : World) (A : Option Addr) (n c z : Nat) (cl : List (List Value)) : Prop where
  len : cl.length = n
  cap : n ≤ c
  top : c ≤ 9223372036854775807
  at_ : 0 < n → ∃ R o, A = some ⟨R, o, none⟩ ∧ R < w.heap.size ∧ ∀ (i : Nat) (cs : List Value), cl[i]? = some cs → ∀ (j : Nat) (u : Value), cs[j]? = some u → w.cell? ⟨R, o + i * z + j, none⟩ = some u
theorem RowAt.below {w w' : World} {A : Option Addr} {n c z : Nat} {cl : List (List Value)} (h : RowAt w A n c z cl) (hg : Below w.heap.size w w') : RowAt w' A n c z cl :=
  ⟨h.len, h.cap, h.top, fun hn => by
    obtain ⟨R, o, e, hR, hc⟩ := h.at_ hn
    exact ⟨R, o, e, Nat.lt_of_lt_of_le hR hg.size, fun i cs hi j u hu => (hg.cell (p := ⟨R, o + i * z + j, none⟩) hR).trans (hc i cs hi j u hu)⟩⟩
theorem RowAt.moved {w w' : World} {A : Option Addr} {n c z : Nat} {cl : List (List Value)} (h : RowAt w A n c z cl) (hs : w.heap.size ≤ w'.heap.size) (hc : ∀ R o, A = some ⟨R, o, none⟩ → w'.heap[R]? = w.heap[R]?) : RowAt w' A n c z cl :=
  ⟨h.len, h.cap, h.top, fun hn => by
    obtain ⟨R, o, e, hR, hk⟩ := h.at_ hn
    exact ⟨R, o, e, Nat.lt_of_lt_of_le hR hs, fun i cs hi j u hu => (World.cell?_of_block (w := w) (a := ⟨R, o + i * z + j, none⟩) (hc R o e)).trans (hk i cs hi j u hu)⟩⟩
theorem RowAt.none (w : World) (z : Nat) : RowAt w none 0 0 z [] := ⟨rfl, by omega, by omega, fun h => absurd h (by omega)⟩
theorem RowAt.part {w : World} {R o n c z : Nat} {cl : List (List Value)} (h : RowAt w (some ⟨R, o, Option.none⟩) n c z cl) (a b : Nat) (hab : a ≤ b) (hb : b ≤ n) : RowAt w (some ⟨R, o + a * z, Option.none⟩) (b - a) (c - a) z ((cl.drop a).take (b - a)) := by
  have hl := h.len
  refine ⟨by rw [List.length_take, List.length_drop]; omega, by have := h.cap; omega, by have := h.top; omega, fun hn => ?_⟩
  obtain ⟨R', o', e, hR, hk⟩ := h.at_ (by omega)
  injection e with e
  injection e with e1 e2
  subst e1 e2
  refine ⟨_, _, rfl, hR, fun i cs hi j u hu => ?_⟩
  have hi2 : i < b - a := by
    have := (List.getElem?_eq_some_iff.1 hi).1
    rw [List.length_take] at this
    omega
  rw [List.getElem?_take, if_pos hi2, List.getElem?_drop] at hi
  have := hk (a + i) cs hi j u hu
  rw [Nat.add_mul] at this
  rw [show o + a * z + i * z + j = o + (a * z + i * z) + j by omega]
  exact this
theorem flat_len {z : Nat} : ∀ (cl : List (List Value)), (∀ cs ∈ cl, cs.length = z) → cl.flatten.length = cl.length * z
  | [], _ => by simp
  | a :: cl, h => by
    rw [List.flatten_cons, List.length_append, flat_len cl (fun cs hc => h cs (List.mem_cons_of_mem _ hc)), h a (List.mem_cons_self ..), List.length_cons, Nat.add_mul]
    omega
theorem flat_at {z : Nat} : ∀ (cl : List (List Value)) (i : Nat) (cs : List Value) (j : Nat) (u : Value), (∀ cs ∈ cl, cs.length = z) → cl[i]? = some cs → cs[j]? = some u → cl.flatten[i * z + j]? = some u
  | [], i, cs, j, u, _, h, _ => by simp at h
  | a :: cl, 0, cs, j, u, hz, h, hu => by
    simp at h
    subst h
    have hj : j < a.length := (List.getElem?_eq_some_iff.1 hu).1
    rw [List.flatten_cons, Nat.zero_mul, Nat.zero_add, List.getElem?_append_left hj]
    exact hu
  | a :: cl, i + 1, cs, j, u, hz, h, hu => by
    have := flat_at cl i cs j u (fun cs hc => hz cs (List.mem_cons_of_mem _ hc)) (by simpa using h) hu
    have ha := hz a (List.mem_cons_self ..)
    rw [List.flatten_cons, List.getElem?_append_right (by rw [ha, Nat.add_mul]; omega), ha, show (i + 1) * z + j - z = i * z + j by rw [Nat.add_mul]; omega]
    exact this
theorem RowAt.of_own {w : World} {base z : Nat} {T : TypeId} {v : Value} {n : Nat} {cl : List (List Value)} (hz : ∀ cs ∈ cl, cs.length = z) (hz0 : 0 < z) (h : w.ownsRow base T z v n cl.flatten) : ∃ A c, v = .slice A n c ∧ RowAt w A n c z cl ∧ ∀ R o, A = some ⟨R, o, Option.none⟩ → base ≤ R := by
  obtain ⟨hl, h⟩ := h
  have hl : cl.length = n := by
    rw [flat_len cl hz] at hl
    exact Nat.eq_of_mul_eq_mul_right hz0 hl
  rcases h with ⟨rfl, rfl⟩ | ⟨g, cap, cur, rfl, hg, hw, hnc, hc, hs, ht⟩
  · exact ⟨Option.none, 0, rfl, ⟨hl, by omega, by omega, fun h => absurd h (by omega)⟩, fun R o e => by cases e⟩
  · have hlt : g < w.heap.size := Whole.lt (T := T) hw
    refine ⟨_, cap, rfl, ⟨hl, hnc, by unfold maxLen at hc; omega, fun hn => ⟨g, 0, rfl, hlt, fun i cs hi j u hu => ?_⟩⟩, fun R o e => by cases e; exact hg⟩
    have hil : i < n := by
      have := (List.getElem?_eq_some_iff.1 hi).1
      omega
    have hcs := hz cs (List.mem_of_getElem? hi)
    have hj : j < z := by
      have := (List.getElem?_eq_some_iff.1 hu).1
      omega
    have e1 := flat_at cl i cs j u hz hi hu
    have hle : i * z + j < n * z := by
      have : (i + 1) * z ≤ n * z := Nat.mul_le_mul_right z (by omega)
      rw [Nat.add_mul] at this
      omega
    rw [← ht, List.getElem?_take, if_pos hle] at e1
    have hw' : Whole w g T cur := hw
    rw [hw'.reads, Nat.zero_add, ← e1, Array.getElem?_toList]
theorem flat_one {cl : List (List Value)} (h : ∀ cs ∈ cl, ∀ u ∈ cs, u.oneCell' = true) : ∀ u ∈ cl.flatten, u.oneCell' = true := fun u hu => by
  obtain ⟨cs, h1, h2⟩ := List.mem_flatten.1 hu
  exact h cs h1 u h2
theorem flat_snoc (cl : List (List Value)) (cs : List Value) : cl.flatten ++ cs = (cl ++ [cs]).flatten := by simp
section
variable {H : Type} {enc : TypeId × Value → H} {P : Program} {W : World} {base : Nat} {held : Bool}
theorem gaddr_in {w : World} {a : Addr} {v : Value} (h : w.cell? a = some v) : a.spot = none := by
  unfold World.cell? at h
  cases hs : a.spot with
  | none => rfl
  | some s =>
    rw [hs] at h
    split at h
    · simp at h
    · cases h
theorem gaddr_add {a : Addr} (hs : a.spot = none) (n : Nat) : a.add n = ⟨a.block, a.off + n, none⟩ := by
  obtain ⟨b, o, s⟩ := a
  obtain rfl : s = none := hs
  unfold Addr.add
  split
  · subst n; rfl
  · rfl
/-- A slice of records among the arguments. -/
theorem open_rows {α : Type} (V : α → List Value) (z : Nat) (hz : 0 < z) (hV : ∀ x, (V x).length = z) (Pr : α → Prop) {T E : TypeId} (hT : P.underlying T = some (.slice E)) (hE : P.cellsOf E = z) {fuel : Nat} {cs : List Value} {x : DataW H × List MemPlace}
    (helem : ∀ (f : Nat) (cs' : List Value) (y : DataW H × List MemPlace), SizeOf.sizeOf y.1 < SizeOf.sizeOf x.1 → cs'.length = z → DataW.trod enc P W base (fun _ => true) held f E cs' = some y → ∃ r, cs' = V r ∧ Pr r)
    (h : DataW.trod enc P W base (fun _ => true) held fuel T cs = some x) :
    ∃ (A : Option Addr) (n c : Nat) (l : List α), cs = [.slice A n c] ∧ RowAt W A n c z (l.map V) ∧ (∀ r ∈ l, Pr r) ∧ (A = none → n = 0 ∧ c = 0) := by
  rcases open_slice hT h with ⟨hc, -⟩ | ⟨a', n, c, m, k, D, Pl, hc, hb, hl, hm, hmm, hxx, hi⟩
  · exact ⟨none, 0, 0, [], hc, RowAt.none _ _, fun r hr => by simp at hr, fun _ => ⟨rfl, rfl⟩⟩
  · unfold maxLen at hm
    by_cases hn : n = 0
    · subst hn
      exact ⟨some a', 0, c, [], hc, ⟨rfl, by omega, by omega, fun h => absurd h (by omega)⟩, fun r hr => by simp at hr, fun h => by cases h⟩
    · have key : ∀ i, i < n → ∃ r : α, (∀ j u, (V r)[j]? = some u → W.cell? ((a'.add (i * z)).add j) = some u) ∧ Pr r := fun i hin => by
        obtain ⟨cs', h1, h2⟩ := hi i (by rw [hmm]; simp; omega)
        rw [hE] at h1
        obtain ⟨-, hlen, hat⟩ := World.cells?_some h1
        obtain ⟨r, rfl, hr⟩ := helem _ _ _ (by
          rw [hxx]
          have : D i ∈ (List.range n).map D := List.mem_map.2 ⟨i, List.mem_range.2 hin, rfl⟩
          have := List.sizeOf_lt_of_mem this
          simp only [DataW.slice.sizeOf_spec]
          omega) hlen h2
        refine ⟨r, fun j u hu => ?_, hr⟩
        have hj : j < (V r).length := (List.getElem?_eq_some_iff.1 hu).1
        rw [List.getElem?_eq_getElem hj] at hu
        injection hu with hu
        rw [← hu]
        exact (hat j (by rw [← hlen]; exact hj)).trans (List.getElem?_eq_getElem hj)
      obtain ⟨x0, e0, -⟩ := key 0 (by omega)
      obtain ⟨u0, hu0⟩ : ∃ u, (V x0)[0]? = some u := ⟨_, List.getElem?_eq_getElem (by rw [hV]; exact hz)⟩
      have e0' : W.cell? a' = some u0 := by
        have := e0 0 _ hu0
        rw [show (0 : Nat) * z = 0 by omega] at this
        have e : (a'.add 0).add 0 = a' := by unfold Addr.add; rfl
        rwa [e] at this
      have hs := gaddr_in e0'
      haveI : Inhabited α := ⟨x0⟩
      obtain ⟨F, hF⟩ := choose_lt key
      refine ⟨some a', n, c, (List.range n).map F, hc, ⟨by simp, hl, by omega, fun _ => ⟨a'.block, a'.off, ?_, World.block_lt_of_cell? _ _ e0', fun i cs' hcs => ?_⟩⟩, fun r hr => ?_, fun h => by cases h⟩
      · obtain ⟨b, o, s⟩ := a'
        obtain rfl : s = none := hs
        rfl
      · have hin : i < n := by
          have := (List.getElem?_eq_some_iff.1 hcs).1
          simpa using this
        simp [List.getElem?_range hin] at hcs
        subst hcs
        intro j u hu
        have := (hF i hin).1 j u hu
        rw [gaddr_add hs, gaddr_add rfl] at this
        exact this
      · obtain ⟨j, hj, rfl⟩ := List.mem_map.1 hr
        exact (hF j (List.mem_range.1 hj)).2
end
end Go.Proofs.YtdoliloiagfagaaDoor
