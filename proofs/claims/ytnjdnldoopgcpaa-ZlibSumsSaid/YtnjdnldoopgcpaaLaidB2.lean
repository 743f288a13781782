/- Rows of bytes among the arguments, with the nil one. -/
import Derived.Test.YtnjdnldoopgcpaaLaidBytes
namespace Go.Proofs.Ytnjdnldoopgcpaa
open Go.ChangeShapes Go.WideShapes Go.ChangeAt Go.RowKit Go.Joins Go.Deep

section
variable {H : Type} {enc : TypeId × Value → H} {W : World} {base : Nat} {held : Bool}
theorem nil_bytes {n c : Nat} {d : DataW H} {p : List MemPlace} (h : DataW.Trod enc Try.prog W base (fun _ => true) held 22 (.slice none n c) d p) : c = 0 := by
  obtain ⟨fuel, hf⟩ := h
  rcases open_slice Try.underlying22 hf with ⟨hc, -⟩ | ⟨a', len, cap, m, k, D, Pl, hc, -⟩
  · simp [Value.cells] at hc
    exact hc.2
  · simp [Value.cells] at hc
set_option maxRecDepth 100000 in
theorem open_bytes2 {b0 : Nat} {v : Value} {d : DataW H} {p : List MemPlace} (hv : Value.okWide Try.prog W .any b0 22 v) (h : DataW.Trod enc Try.prog W base (fun _ => true) held 22 v d p) :
    ∃ (A : Option Addr) (n c : Nat) (bs : List Nat), v = .slice A n c ∧ Bytes W A n c bs ∧ (A = none → c = 0) := by
  obtain ⟨A, n, c, bs, rfl, hb⟩ := open_bytes hv h
  exact ⟨A, n, c, bs, rfl, hb, fun e => by subst e; exact nil_bytes h⟩
end
end Go.Proofs.Ytnjdnldoopgcpaa
