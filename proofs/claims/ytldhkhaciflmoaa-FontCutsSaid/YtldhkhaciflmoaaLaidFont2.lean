/- A font among the arguments, opened; a nil row of glyphs has no capacity. -/
import Derived.Test.YtldhkhaciflmoaaLaidFont
namespace Go.Proofs.Ytldhkhaciflmoaa
open Go.ChangeShapes Go.WideShapes Go.ChangeAt Go.RowKit Go.Joins Go.Deep
section
variable {H : Type} {enc : TypeId × Value → H} {W : World} {base : Nat} {held : Bool} {spare : Nat → Bool}
theorem glyphs_nocap {fuel : Nat} {n c : Nat} {x : DataW H × List MemPlace} (h : DataW.trod enc Try.prog W base (fun _ => true) held fuel 22 [.slice none n c] = some x) : n = 0 ∧ c = 0 := by
  rcases open_slice Try.underlying22 h with ⟨hc, -⟩ | ⟨a', n', c', m, k, D, Pl, hc, -⟩
  · simp at hc
    exact hc
  · simp at hc
theorem open_font2 {b0 : Nat} {v : Value} {d : DataW H} {p : List MemPlace} (hv : Value.okWide Try.prog W .any b0 24 v) (h : DataW.Trod enc Try.prog W base (fun _ => true) held 24 v d p) :
    ∃ (wd : Bool) (A : Option Addr) (n c : Nat) (ot : Int) (gs : List Gl), v = .agg #[.bool wd, .slice A n c, .int .i64 ot] ∧ Glyphs W A n c gs ∧ (A = none → n = 0 ∧ c = 0) := by
  obtain ⟨v0, v1, v2, y0, y1, y2, k, rfl, -, -, h0, h1, h2⟩ := open_agg3 Try.underlying24 (by kernel_rfl) cFont hv h
  obtain ⟨wd, e0, -⟩ := DataW.trod_bool Try.underlying4 h0
  obtain ⟨A, n, c, gs, e1, hg⟩ := open_glyphs h1
  obtain ⟨ot, e2, -, -⟩ := DataW.trod_int Try.underlying3 h2
  injection e0 with e0
  injection e1 with e1
  injection e2 with e2
  exact ⟨wd, A, n, c, ot, gs, by rw [e0, e1, e2], hg, fun e => by
    subst e
    rw [e1] at h1
    exact glyphs_nocap h1⟩
end
end Go.Proofs.Ytldhkhaciflmoaa
