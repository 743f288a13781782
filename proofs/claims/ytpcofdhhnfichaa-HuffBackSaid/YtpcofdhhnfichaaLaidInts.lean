/- A row of ints among the arguments: opened. -/
import Derived.Test.YtpcofdhhnfichaaLaidGen
import Derived.Test.YtpcofdhhnfichaaHuffMeas
namespace Go.Proofs.Ytpcofdhhnfichaa
open Go.ChangeShapes Go.WideShapes Go.ChangeAt Go.RowKit Go.Joins Go.Deep

theorem cIntC : Try.prog.cellsOf 3 = 1 := by kernel_rfl
section
variable {H : Type} {enc : TypeId × Value → H} {W : World} {base : Nat} {held : Bool}
theorem open_introw {b0 : Nat} {v : Value} {d : DataW H} {p : List MemPlace} (hv : Value.okWide Try.prog W .any b0 22 v) (h : DataW.Trod enc Try.prog W base (fun _ => true) held 22 v d p) :
    ∃ (A : Option Addr) (n c : Nat) (l : List Int), v = .slice A n c ∧ IntsAt W A n c l ∧ (A = none → n = 0 ∧ c = 0) := by
  obtain ⟨A, n, c, rfl⟩ := okWide_slice Try.underlying22 hv
  obtain ⟨fuel, hf⟩ := h
  rcases open_slice Try.underlying22 hf with ⟨hc, -⟩ | ⟨a', len, cap, m, k, D, Pl, hc, hb, hl, hm, hmm, -, hi⟩
  · simp [Value.cells] at hc
    obtain ⟨rfl, rfl, rfl⟩ := hc
    exact ⟨none, 0, 0, [], rfl, ⟨rfl, by omega, by omega, fun h => absurd h (by omega)⟩, fun _ => ⟨rfl, rfl⟩⟩
  · simp [Value.cells] at hc
    obtain ⟨rfl, rfl, rfl⟩ := hc
    unfold maxLen at hm
    have key : ∀ i, i < n → ∃ x : Int, W.cell? (a'.add i) = some (.int .i64 x) := fun i hin => by
      obtain ⟨cs', h1, h2⟩ := hi i (by rw [hmm]; simp; omega)
      rw [cIntC] at h1
      obtain ⟨-, hlen, hat⟩ := World.cells?_some h1
      obtain ⟨z, hz, -, hw⟩ := DataW.trod_int Try.underlying3 h2
      subst hz
      have e := hat 0 (by omega)
      have e1 : (a'.add (i * 1)).add 0 = a'.add i := by rw [Nat.mul_one]; simp [Addr.add]
      rw [e1] at e
      exact ⟨z, e⟩
    by_cases hn : n = 0
    · subst hn
      exact ⟨some a', 0, c, [], rfl, ⟨rfl, by omega, by omega, fun h => absurd h (by omega)⟩, fun h => by cases h⟩
    · obtain ⟨x0, e0⟩ := key 0 (by omega)
      have e0' : W.cell? a' = some (.int .i64 x0) := by
        have : a'.add 0 = a' := by unfold Addr.add; rfl
        rw [this] at e0; exact e0
      have hs := addr_in e0'
      obtain ⟨F, hF⟩ := choose_lt key
      refine ⟨some a', n, c, (List.range n).map F, rfl, ⟨by simp, hl, by omega, fun _ => ⟨a'.block, a'.off, ?_, World.block_lt_of_cell? _ _ e0', fun i x hx => ?_⟩⟩, fun h => by cases h⟩
      · obtain ⟨b, o, s⟩ := a'
        obtain rfl : s = none := hs
        rfl
      · have hin : i < n := by
          have := (List.getElem?_eq_some_iff.1 hx).1
          simpa using this
        simp [List.getElem?_range hin] at hx
        subst hx
        have := hF i hin
        rwa [addr_add hs] at this
end
end Go.Proofs.Ytpcofdhhnfichaa
