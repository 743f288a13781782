/- A row of rows of bytes, the nil ones too, among the arguments: opened. -/
import Derived.Test.YtdoliloiagfagaaDoorLaidBytes
namespace Go.Proofs.YtdoliloiagfagaaDoor
open Go.ChangeShapes Go.WideShapes Go.ChangeAt Go.RowKit Go.Joins Go.Deep

set_option maxRecDepth 100000 in
theorem cSl : Tryd.prog.cellsOf 23 = 1 := by kernel_rfl
/-- A row of n slices of bytes. -/
structure RowsN (w : World) (A : Option Addr) (n c : Nat) (L : List (List Nat)) : Prop where
  len : L.length = n
  cap : n ≤ c
  top : c ≤ 9223372036854775807
  at_ : 0 < n → ∃ R o, A = some ⟨R, o, none⟩ ∧ R < w.heap.size ∧ ∀ i bs, L[i]? = some bs → ∃ A' n' c', w.cell? ⟨R, o + i, none⟩ = some (.slice A' n' c') ∧ Bytes w A' n' c' bs ∧ (A' = none → c' = 0)
theorem RowsN.below {w w' : World} {A : Option Addr} {n c : Nat} {L : List (List Nat)} (h : RowsN w A n c L) (hg : Below w.heap.size w w') : RowsN w' A n c L :=
  ⟨h.len, h.cap, h.top, fun hn => by
    obtain ⟨R, o, e, hR, hc⟩ := h.at_ hn
    refine ⟨R, o, e, Nat.lt_of_lt_of_le hR hg.size, fun i bs hi => ?_⟩
    obtain ⟨A', n', c', k1, k2, k3⟩ := hc i bs hi
    exact ⟨A', n', c', (hg.cell (p := ⟨R, o + i, none⟩) hR).trans k1, k2.below hg, k3⟩⟩
section
variable {H : Type} {enc : TypeId × Value → H} {W : World} {base : Nat} {held : Bool}
set_option maxRecDepth 100000 in
theorem bytes_opened {a' : Addr} {n c m k : Nat} {D : Nat → DataW H} {Pl : Nat → List MemPlace} (hl : n ≤ c) (hm : c ≤ maxLen) (hmm : m = if true = true then c else n)
    (hi : ∀ i, i < m → ∃ cs', W.cells? base (a'.add (i * Tryd.prog.cellsOf 5)) (Tryd.prog.cellsOf 5) = some cs' ∧ DataW.trod enc Tryd.prog W base (fun _ => true) held k 5 cs' = some (D i, Pl i)) :
    ∃ bs : List Nat, Bytes W (some a') n c bs := by
  unfold maxLen at hm
  have key : ∀ i, i < n → ∃ x : Nat, x < 256 ∧ W.cell? (a'.add i) = some (.int .u8 (x : Int)) := fun i hin => by
    obtain ⟨cs', h1, h2⟩ := hi i (by rw [hmm]; simp; omega)
    rw [cByte] at h1
    obtain ⟨-, hlen, hat⟩ := World.cells?_some h1
    obtain ⟨z, hz, -, hw⟩ := DataW.trod_int Tryd.underlying5 h2
    subst hz
    have e := hat 0 (by omega)
    have hw := u8_in hw
    have e1 : (a'.add (i * 1)).add 0 = a'.add i := by rw [Nat.mul_one]; simp [Addr.add]
    rw [e1] at e
    refine ⟨z.toNat, by omega, ?_⟩
    rw [Int.toNat_of_nonneg (by omega)]
    exact e
  by_cases hn : n = 0
  · subst hn
    exact ⟨[], ⟨rfl, by omega, by omega, fun b hb => by simp at hb, fun h => absurd h (by omega)⟩⟩
  · obtain ⟨x0, -, e0⟩ := key 0 (by omega)
    have e0' : W.cell? a' = some (.int .u8 (x0 : Int)) := by
      have : a'.add 0 = a' := by unfold Addr.add; rfl
      rw [this] at e0; exact e0
    have hs := addr_in e0'
    obtain ⟨F, hF⟩ := choose_lt key
    refine ⟨(List.range n).map F, ⟨by simp, hl, by omega, fun b hb => ?_, fun _ => ⟨a'.block, a'.off, ?_, World.block_lt_of_cell? _ _ e0', fun i b hb => ?_⟩⟩⟩
    · obtain ⟨j, hj, rfl⟩ := List.mem_map.1 hb
      exact (hF j (List.mem_range.1 hj)).1
    · obtain ⟨b, o, s⟩ := a'
      obtain rfl : s = none := hs
      rfl
    · have hin : i < n := by
        have := (List.getElem?_eq_some_iff.1 hb).1
        simpa using this
      simp [List.getElem?_range hin] at hb
      subst hb
      have := (hF i hin).2
      rwa [addr_add hs] at this
set_option maxRecDepth 100000 in
theorem open_rowsn {b0 : Nat} {v : Value} {d : DataW H} {p : List MemPlace} (hv : Value.okWide Tryd.prog W .any b0 32 v) (h : DataW.Trod enc Tryd.prog W base (fun _ => true) held 32 v d p) :
    ∃ (A : Option Addr) (n c : Nat) (L : List (List Nat)), v = .slice A n c ∧ RowsN W A n c L := by
  obtain ⟨A, n, c, rfl⟩ := okWide_slice Tryd.underlying32 hv
  obtain ⟨fuel, hf⟩ := h
  rcases open_slice Tryd.underlying32 hf with ⟨hc, -⟩ | ⟨a', len, cap, m, k, D, Pl, hc, hb, hl, hm, hmm, -, hi⟩
  · simp [Value.cells] at hc
    obtain ⟨rfl, rfl, rfl⟩ := hc
    exact ⟨none, 0, 0, [], rfl, ⟨rfl, by omega, by omega, fun h => absurd h (by omega)⟩⟩
  · simp [Value.cells] at hc
    obtain ⟨rfl, rfl, rfl⟩ := hc
    have key : ∀ i, i < n → ∃ bs : List Nat, ∃ A' n' c', W.cell? (a'.add i) = some (.slice A' n' c') ∧ Bytes W A' n' c' bs ∧ (A' = none → c' = 0) := fun i hin => by
      obtain ⟨cs', h1, h2⟩ := hi i (by rw [hmm]; simp; omega)
      rw [cSl] at h1
      obtain ⟨-, hlen, hat⟩ := World.cells?_some h1
      have e := hat 0 (by omega)
      have e1 : (a'.add (i * 1)).add 0 = a'.add i := by rw [Nat.mul_one]; simp [Addr.add]
      rw [e1] at e
      rcases open_slice Tryd.underlying23 h2 with ⟨hc2, h20⟩ | ⟨a2, len2, cap2, m2, k2, D2, Pl2, hc2, hb2, hl2, hm2, hmm2, -, hi2⟩
      · subst hc2
        exact ⟨[], none, 0, 0, e, ⟨rfl, by omega, by omega, fun b hb => by simp at hb, fun h => absurd h (by omega)⟩, fun _ => rfl⟩
      · subst hc2
        obtain ⟨bs, hbs⟩ := bytes_opened hl2 hm2 hmm2 hi2
        exact ⟨bs, some a2, len2, cap2, e, hbs, fun h => by cases h⟩
    unfold maxLen at hm
    by_cases hn : n = 0
    · subst hn
      exact ⟨some a', 0, c, [], rfl, ⟨rfl, by omega, by omega, fun h => absurd h (by omega)⟩⟩
    · obtain ⟨_, _, _, _, e0, -⟩ := key 0 (by omega)
      have e0' := e0
      rw [show a'.add 0 = a' by unfold Addr.add; rfl] at e0'
      have hs := addr_in e0'
      obtain ⟨F, hF⟩ := choose_lt key
      refine ⟨some a', n, c, (List.range n).map F, rfl, ⟨by simp, hl, by omega, fun _ => ⟨a'.block, a'.off, ?_, World.block_lt_of_cell? _ _ e0', fun i b hb => ?_⟩⟩⟩
      · obtain ⟨b, o, s⟩ := a'
        obtain rfl : s = none := hs
        rfl
      · have hin : i < n := by
          have := (List.getElem?_eq_some_iff.1 hb).1
          simpa using this
        simp [List.getElem?_range hin] at hb
        subst hb
        have := hF i hin
        rwa [addr_add hs] at this
end
end Go.Proofs.YtdoliloiagfagaaDoor
