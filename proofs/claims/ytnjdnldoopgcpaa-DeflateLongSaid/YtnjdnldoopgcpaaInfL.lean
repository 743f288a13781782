/- inflate: tables that are made; the fixed codes. -/
import Derived.Test.YtnjdnldoopgcpaaInfJ
namespace Go.Proofs.Ytnjdnldoopgcpaa
open Go.RowKit

theorem bnd_rtn {α β : Type} (a : α) (f : α → Ps β) : bnd (rtn a) f = f a := rfl
theorem bnd_bad {α β : Type} (e : Int) (f : α → Ps β) : bnd (bad e : Ps α) f = bad e := rfl
theorem TabAt.here {w w' : World} {P : Nat} {l : List Int} (h : TabAt w P l) (hb : Below w.heap.size w w') : TabAt w' P l := by
  obtain ⟨hl, base, G, v, ht⟩ := h
  exact ⟨hl, base, G, v, ht.sz, ht.whole.here hb, own_new ht.own hb, ht.words.here hb⟩
theorem TabAt.set {w : World} {P g : Nat} {l : List Int} {T : TypeId} {cs : Array Value} (h : TabAt w P l) (hg : Whole w g T cs) (h1 : T ≠ 102) (h2 : T ≠ 3) (h3 : T ≠ 106) (i : Nat) (u : Value) : TabAt (w.setCell ⟨g, i, none⟩ u) P l := by
  obtain ⟨hl, base, G, v, ht⟩ := h
  exact ⟨hl, base, G, v, ht.sz, ht.whole.away (p := ⟨g, i, none⟩) (ht.whole.apart hg (Ne.symm h1)) u, own_set ht.own hg (Ne.symm h2) i u, ht.words.away (p := ⟨g, i, none⟩) (ht.words.apart hg (Ne.symm h3)) u⟩
/-- What Make answers. -/
def MkIs (l : List Int) (w : World) (e : Ending) (w' : World) : Prop :=
  ∃ (p : Option Nat) (E : Int), e = .returned (.tuple #[.pointer (p.map fun P => ⟨P, 0, none⟩), .int .i64 E]) ∧ Below w.heap.size w w' ∧
    ((E = 0 ∧ makeP l = rtn () ∧ ∃ P, p = some P ∧ TabAt w' P l) ∨ (E ≠ 0 ∧ p = none ∧ makeP l = bad E))
theorem make_is (A : Option Addr) (n c : Nat) (l : List Int) (w : World) (h : IntsAt w A n c l) : Calls Try.prog 43 #[.slice A n c] w (MkIs l w) := by
  by_cases hok : lensOk l ∧ sumOk l
  · refine Calls.mono (make_ok A n c l w h hok.1 hok.2) ?_
    rintro e w' ⟨hb, B, G, v, rfl, -, -, ht⟩
    exact ⟨some B, 0, rfl, hb, .inl ⟨rfl, by unfold makeP; rw [if_pos hok.1, if_pos hok.2], B, rfl, hok.1.1, w.heap.size, G, v, ht⟩⟩
  · refine Calls.mono (make_bad A n c l w h hok) ?_
    rintro e w' ⟨⟨h1, rfl⟩ | ⟨h1, rfl⟩, hb⟩
    · exact ⟨none, 1, rfl, hb, .inr ⟨by decide, rfl, by unfold makeP; rw [if_neg h1]⟩⟩
    · exact ⟨none, 4, rfl, hb, .inr ⟨by decide, rfl, by unfold makeP; rw [if_pos h1, if_neg (fun h2 => hok ⟨h1, h2⟩)]⟩⟩
/-- What makeCodes answers. -/
def BothMk (ls ds : List Int) (w : World) (e : Ending) (w' : World) : Prop :=
  ∃ (q1 q2 : Value) (E : Int), e = .returned (.tuple #[.agg #[q1, q2], .int .i64 E]) ∧ Below w.heap.size w w' ∧
    ((E = 0 ∧ makeBoth ls ds = rtn (ls, ds) ∧ ∃ P1 P2, q1 = .pointer (some ⟨P1, 0, none⟩) ∧ q2 = .pointer (some ⟨P2, 0, none⟩) ∧ TabAt w' P1 ls ∧ TabAt w' P2 ds) ∨ (E ≠ 0 ∧ q1 = .pointer none ∧ q2 = .pointer none ∧ makeBoth ls ds = bad E))
end Go.Proofs.Ytnjdnldoopgcpaa
/- inflate: the fixed codes. -/
namespace Go.Proofs.Ytnjdnldoopgcpaa
open Go.RowKit

theorem makeP_fixed : makeP fixedL = rtn () := by
  unfold makeP
  rw [if_pos (by decide +kernel), if_pos (by decide +kernel)]
theorem makeP_five : makeP (List.replicate 32 5) = rtn () := by
  unfold makeP
  rw [if_pos (by decide +kernel), if_pos (by decide +kernel)]
theorem rtn_ne_bad {E : Int} (h : (rtn () : Ps Unit) = bad E) : False := by
  have := congrFun (congrFun h 0) 0
  cases this
/-- The fixed codes' tables: not there yet, or made. -/
def FixAt (w : World) (p3 p4 : Value) : Prop := (p3 = .pointer none ∧ p4 = .pointer none) ∨ (∃ P1 P2, p3 = .pointer (some ⟨P1, 0, none⟩) ∧ p4 = .pointer (some ⟨P2, 0, none⟩) ∧ TabAt w P1 fixedL ∧ TabAt w P2 (List.replicate 32 5))
theorem Fl.setNew {x : Cx} {w w' : World} (h : Fl x w w') {g : Nat} (hg : w.heap.size ≤ g) (i : Nat) (u : Value) : Fl x w (w'.setCell ⟨g, i, none⟩ u) := Fr.set h (p := ⟨g, i, none⟩) (fun hh => absurd hh (by show ¬ g < w.heap.size; omega)) u
end Go.Proofs.Ytnjdnldoopgcpaa

