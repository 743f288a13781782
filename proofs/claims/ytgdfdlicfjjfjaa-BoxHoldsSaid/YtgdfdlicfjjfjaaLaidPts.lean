/- A slice of points among the arguments: opened. -/
import Derived.Test.YtgdfdlicfjjfjaaLaidBox
import Derived.Test.YtgdfdlicfjjfjaaBoxOf
import Derived.Deep.Slices
import Derived.Carry
namespace Go.Proofs.Ytgdfdlicfjjfjaa
open Go.ChangeShapes Go.WideShapes Go.ChangeAt Go.RowKit Go.Joins Go.Deep

theorem spot_none {w : World} {a : Addr} {v : Value} (h : w.cell? a = some v) : a.spot = none := by
  unfold World.cell? at h
  cases hs : a.spot with
  | none => rfl
  | some s =>
    rw [hs] at h
    split at h
    · simp at h
    · cases h
theorem add_none {a : Addr} (hs : a.spot = none) (n : Nat) : a.add n = ⟨a.block, a.off + n, none⟩ := by
  obtain ⟨b, o, s⟩ := a
  obtain rfl : s = none := hs
  unfold Addr.add
  split
  · subst n; rfl
  · rfl
section
variable {H : Type} {enc : TypeId × Value → H} {W : World} {base : Nat} {spare : Nat → Bool} {held : Bool}
theorem pt_in {n : Nat} {cs : List Value} {y : DataW H × List MemPlace} (hl : cs.length = 4) (h : DataW.trod enc Try.prog W base spare held n 40 cs = some y) :
    ∃ x : PV, cs = [.int .i64 x.x.m, .int .i64 x.x.s, .int .i64 x.y.m, .int .i64 x.y.s] := by
  match cs, hl with
  | [c0, c1, c2, c3], _ =>
    obtain ⟨xs, k, -, hx, -, hlen, hg⟩ := DataW.trod_struct Try.underlying40 h
    match xs, hlen with
    | [y0, y1], _ =>
      have g0 := hg 0 _ rfl
      have g1 := hg 1 _ rfl
      simp [cDec] at g0 g1
      obtain ⟨x0, rfl, rfl, -, -⟩ := dec_in g0
      obtain ⟨x1, rfl, rfl, -, -⟩ := dec_in g1
      exact ⟨⟨x0, x1⟩, rfl⟩
/-- A slice of points, at its length: nil, empty, or a row of points in memory. -/
theorem open_pts {b0 : Nat} {v : Value} {d : DataW H} {p : List MemPlace} (hv : Value.okWide Try.prog W .any b0 36 v) (h : DataW.Trod enc Try.prog W base (fun _ => true) held 36 v d p) :
    ∃ (a : Option Addr) (n c : Nat), v = .slice a n c ∧ n ≤ c ∧ c ≤ 9223372036854775807 ∧ (n = 0 ∨ ∃ (R o : Nat) (F : Nat → PV), a = some ⟨R, o, none⟩ ∧ ∀ i < n, PAt W R (o + i * 4) (F i)) := by
  obtain ⟨a, n, c, rfl⟩ := okWide_slice Try.underlying36 hv
  refine ⟨a, n, c, rfl, ?_⟩
  obtain ⟨fuel, hf⟩ := h
  rcases open_slice Try.underlying36 hf with ⟨hc, -⟩ | ⟨a', len, cap, m, k, D, Pl, hc, hb, hl, hm, hmm, -, hi⟩
  · simp [Value.cells] at hc
    obtain ⟨-, rfl, rfl⟩ := hc
    exact ⟨Nat.le_refl _, by omega, .inl rfl⟩
  · simp [Value.cells] at hc
    obtain ⟨rfl, rfl, rfl⟩ := hc
    unfold maxLen at hm
    refine ⟨hl, by omega, ?_⟩
    by_cases hn : n = 0
    · exact .inl hn
    · right
      have key : ∀ i, i < n → ∃ x : PV, W.cell? (a'.add (i * 4)) = some (.int .i64 x.x.m) ∧ W.cell? ((a'.add (i * 4)).add 1) = some (.int .i64 x.x.s) ∧ W.cell? ((a'.add (i * 4)).add 2) = some (.int .i64 x.y.m) ∧ W.cell? ((a'.add (i * 4)).add 3) = some (.int .i64 x.y.s) := fun i hin => by
        obtain ⟨cs', h1, h2⟩ := hi i (by rw [hmm]; simp; omega)
        rw [cPt] at h1
        obtain ⟨-, hlen, hat⟩ := World.cells?_some h1
        obtain ⟨x, rfl⟩ := pt_in hlen h2
        exact ⟨x, hat 0 (by omega), hat 1 (by omega), hat 2 (by omega), hat 3 (by omega)⟩
      obtain ⟨x0, e0, -⟩ := key 0 (by omega)
      rw [show (0 : Nat) * 4 = 0 from rfl] at e0
      have e0' : W.cell? a' = some (.int .i64 x0.x.m) := by
        have : a'.add 0 = a' := by unfold Addr.add; rfl
        rw [this] at e0; exact e0
      have hs := spot_none e0'
      haveI : Inhabited PV := ⟨.zero⟩
      obtain ⟨F, hF⟩ := choose_lt key
      refine ⟨a'.block, a'.off, F, ?_, fun i hin => ?_⟩
      · obtain ⟨b, o, s⟩ := a'
        obtain rfl : s = none := hs
        rfl
      · obtain ⟨k0, k1, k2, k3⟩ := hF i hin
        rw [add_none hs] at k0 k1 k2 k3
        rw [add_none rfl] at k1 k2 k3
        exact ⟨k0, k1, k2, k3⟩
end
end Go.Proofs.Ytgdfdlicfjjfjaa
