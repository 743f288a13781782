/- A slice of bytes among the arguments: opened. -/
import Derived.Test.YtnjdnldoopgcpaaLaidGen
import Derived.Test.YtnjdnldoopgcpaaByteRow
namespace Go.Proofs.Ytnjdnldoopgcpaa
open Go.ChangeShapes Go.WideShapes Go.ChangeAt Go.RowKit Go.Joins Go.Deep

theorem cByte : Try.prog.cellsOf 5 = 1 := by kernel_rfl
theorem u8_in {z : Int} (h : (Lit.int .u8 z).wf = true) : 0 ≤ z ∧ z ≤ 255 := by
  have h1 : (decide ((0 : Int) ≤ z) && decide (z ≤ 255)) = true := h
  simpa using h1
section
variable {H : Type} {enc : TypeId × Value → H} {W : World} {base : Nat} {held : Bool}
set_option maxRecDepth 100000 in
theorem open_bytes {b0 : Nat} {v : Value} {d : DataW H} {p : List MemPlace} (hv : Value.okWide Try.prog W .any b0 22 v) (h : DataW.Trod enc Try.prog W base (fun _ => true) held 22 v d p) :
    ∃ (A : Option Addr) (n c : Nat) (bs : List Nat), v = .slice A n c ∧ Bytes W A n c bs := by
  obtain ⟨A, n, c, rfl⟩ := okWide_slice Try.underlying22 hv
  obtain ⟨fuel, hf⟩ := h
  rcases open_slice Try.underlying22 hf with ⟨hc, -⟩ | ⟨a', len, cap, m, k, D, Pl, hc, hb, hl, hm, hmm, -, hi⟩
  · simp [Value.cells] at hc
    obtain ⟨rfl, rfl, rfl⟩ := hc
    exact ⟨none, 0, 0, [], rfl, ⟨rfl, by omega, by omega, fun b hb => by simp at hb, fun h => absurd h (by omega)⟩⟩
  · simp [Value.cells] at hc
    obtain ⟨rfl, rfl, rfl⟩ := hc
    unfold maxLen at hm
    have key : ∀ i, i < n → ∃ x : Nat, x < 256 ∧ W.cell? (a'.add i) = some (.int .u8 (x : Int)) := fun i hin => by
      obtain ⟨cs', h1, h2⟩ := hi i (by rw [hmm]; simp; omega)
      rw [cByte] at h1
      obtain ⟨-, hlen, hat⟩ := World.cells?_some h1
      obtain ⟨z, hz, -, hw⟩ := DataW.trod_int Try.underlying5 h2
      subst hz
      have e := hat 0 (by omega)
      have hw := u8_in hw
      have e1 : (a'.add (i * 1)).add 0 = a'.add i := by rw [Nat.mul_one]; simp [Addr.add]
      rw [e1] at e
      refine ⟨z.toNat, by omega, ?_⟩
      rw [Int.toNat_of_nonneg (by omega)]
      exact e
    by_cases hn : n = 0
    · subst hn
      exact ⟨some a', 0, c, [], rfl, ⟨rfl, by omega, by omega, fun b hb => by simp at hb, fun h => absurd h (by omega)⟩⟩
    · obtain ⟨x0, -, e0⟩ := key 0 (by omega)
      have e0' : W.cell? a' = some (.int .u8 (x0 : Int)) := by
        have : a'.add 0 = a' := by unfold Addr.add; rfl
        rw [this] at e0; exact e0
      have hs := addr_in e0'
      obtain ⟨F, hF⟩ := choose_lt key
      refine ⟨some a', n, c, (List.range n).map F, rfl, ⟨by simp, hl, by omega, fun b hb => ?_, fun _ => ⟨a'.block, a'.off, ?_, World.block_lt_of_cell? _ _ e0', fun i b hb => ?_⟩⟩⟩
      · obtain ⟨j, hj, rfl⟩ := List.mem_map.1 hb
        exact (hF j (List.mem_range.1 hj)).1
      · obtain ⟨b, o, s⟩ := a'
        obtain rfl : s = none := hs
        rfl
      · have hin : i < n := by
          have := (List.getElem?_eq_some_iff.1 hb).1
          simpa using this
        simp [List.getElem?_range hin] at hb
        subst hb
        have := (hF i hin).2
        rwa [addr_add hs] at this
end
end Go.Proofs.Ytnjdnldoopgcpaa
