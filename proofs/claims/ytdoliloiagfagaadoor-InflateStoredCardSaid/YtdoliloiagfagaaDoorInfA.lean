/- inflate: the decoder in memory; what its steps keep. -/
import Derived.Test.YtdoliloiagfagaaDoorInfM
import Derived.Test.YtdoliloiagfagaaDoorHuffReadT
import Derived.Test.YtdoliloiagfagaaDoorHuffMakeB
import Derived.Test.YtdoliloiagfagaaDoorBitsWords
import Derived.Test.YtdoliloiagfagaaDoorBitsBytesW
import Derived.Test.YtdoliloiagfagaaDoorRowG
namespace Go.Proofs.YtdoliloiagfagaaDoor
open Go.RowKit

/-- Where a decoder lies: its reader, the reader's bytes, itself; what was there ahead of it; how many bytes may come out; the rows of the spans. -/
structure Cx where
  B : Nat
  R : Nat
  D : Nat
  base : Nat
  most : Int
  aL : Option Addr
  cL : Nat
  aD : Option Addr
  cD : Nat
def tkV (t : Tk) : List Value := [.int .i64 t.byte, .int .i64 t.len, .int .i64 t.back]
def rowTk (l : List Tk) : List Value := (l.map tkV).flatten
theorem rowTk_snoc (l : List Tk) (t : Tk) : rowTk l ++ [.int .i64 t.byte, .int .i64 t.len, .int .i64 t.back] = rowTk (l ++ [t]) := by unfold rowTk; rw [List.map_append]; exact flat_snoc _ _
theorem tkV_all (l : List Tk) : ∀ cs ∈ l.map tkV, cs.length = 3 := fun cs h => by
  obtain ⟨x, -, rfl⟩ := List.mem_map.1 h
  rfl
def spV (p : Nat × Nat) : List Value := [.int .i64 (p.1 : Int), .int .i64 (p.2 : Int)]
theorem spV_all (l : List (Nat × Nat)) : ∀ cs ∈ l.map spV, cs.length = 2 := fun cs h => by
  obtain ⟨x, -, rfl⟩ := List.mem_map.1 h
  rfl
def SpansAt (w : World) (A : Option Addr) (n c : Nat) (l : List (Nat × Nat)) : Prop := RowAt w A n c 2 (l.map spV) ∧ ∀ R o, A = some ⟨R, o, none⟩ → ∃ cs, Whole w R 103 cs
theorem SpansAt.fr {w w' : World} {A : Option Addr} {n c : Nat} {l : List (Nat × Nat)} (h : SpansAt w A n c l) {S : Nat → Prop} (hf : Fr S w w') (hS : ∀ k cs, Whole w k 103 cs → ¬ S k) : SpansAt w' A n c l :=
  ⟨h.1.moved hf.size (fun R o e => by
    obtain ⟨cs, hw⟩ := h.2 R o e
    exact hf.block R hw.lt (hS R cs hw)), fun R o e => by
    obtain ⟨cs, hw⟩ := h.2 R o e
    exact ⟨cs, hw.frame hf (hS R cs hw)⟩⟩
def decV (x : Cx) (p3 p4 : Value) (made : Int) (v : Value) : Array Value := #[.pointer (some ⟨x.B, 0, none⟩), .slice x.aL 29 x.cL, .slice x.aD 30 x.cD, p3, p4, .int .i64 x.most, .int .i64 made, v]
/-- A decoder: its tokens, its bits. -/
structure DecS (x : Cx) (w : World) (p3 p4 : Value) (a : Acc) (N L : Nat) : Prop where
  whole : ∃ v, Whole w x.D 59 (decV x p3 p4 a.made v) ∧ w.ownsRow x.base 46 3 v a.toks.length (rowTk a.toks)
  rd : RD w x.B x.R N L
  lens : SpansAt w x.aL 29 x.cL lensT
  dist : SpansAt w x.aD 30 x.cD distT
  rR : x.R < w.heap.size
  low : x.base ≤ x.B ∧ x.base ≤ x.D ∧ x.base ≤ w.heap.size
  few : L ≤ 1000000000
  most : 0 ≤ x.most ∧ x.most ≤ 1048576
  made : 0 ≤ a.made ∧ a.made ≤ x.most ∧ (a.toks.length : Int) ≤ a.made
/-- The blocks that a decoder's steps may turn. -/
def FlS (x : Cx) (w : World) (k : Nat) : Prop := k = x.B ∨ k = x.D ∨ (x.base ≤ k ∧ ∃ cs, Whole w k 46 cs)
def Fl (x : Cx) (w w' : World) : Prop := Fr (FlS x w) w w'
theorem Fl.refl (x : Cx) (w : World) : Fl x w w := Fr.refl _ _
theorem Fl.trans {x : Cx} {a b c : World} (h : Fl x a b) (k : Fl x b c) : Fl x a c := by
  refine Fr.trans h k (fun j hj hs => ?_)
  by_cases hn : FlS x a j
  · exact hn
  · rcases hs with e | e | ⟨hb, cs, hw⟩
    · exact .inl e
    · exact .inr (.inl e)
    · exact .inr (.inr ⟨hb, cs, (Fr.block h j hj hn).symm.trans hw⟩)
theorem Fl.ofB {x : Cx} {w w' : World} (h : Fr (fun k => k = x.B) w w') : Fl x w w' := h.more (fun _ _ e => .inl e)
theorem Fl.grown {x : Cx} {w w' : World} (h : w.grownBy w' (some x.B)) : Fl x w w' := (Fr.of_grown h).more (fun _ _ e => .inl (by injection e))
theorem Fl.new {x : Cx} {w w' : World} (h : Below w.heap.size w w') : Fl x w w' := (Fr.of_below h).more (fun _ hj e => absurd hj (by omega))
theorem Fl.below {x : Cx} {w w' : World} (h : Fl x w w') (hl : x.base ≤ x.B ∧ x.base ≤ x.D ∧ x.base ≤ w.heap.size) : Below x.base w w' :=
  Fr.below h hl.2.2 (fun _ hj hs => by
    rcases hs with e | e | ⟨hb, -⟩ <;> omega)
theorem RS.fr2 {w : World} {B R : Nat} {A : Option Addr} {n c word held : Nat} {bs : List Nat} (h : RS w B R A n c word held bs) {w' : World} {S : Nat → Prop} (hg : Fr S w w') (hB : ¬ S B) (hR : ∀ cs, Whole w R 5 cs → ¬ S R) : RS w' B R A n c word held bs :=
  ⟨h.whole.frame hg hB, h.len, h.cap, h.top, h.byte, h.low, fun hn => by
    obtain ⟨o, cur, e, hw, hc⟩ := h.rest hn
    exact ⟨o, cur, e, hw.frame hg (hR _ hw), hc⟩⟩
theorem RD.fr2 {w : World} {B R N L : Nat} (h : RD w B R N L) {w' : World} {S : Nat → Prop} (hg : Fr S w w') (hB : ¬ S B) (hR : ∀ cs, Whole w R 5 cs → ¬ S R) : RD w' B R N L := by
  obtain ⟨A, n, c, word, held, bs, h, r⟩ := h
  exact ⟨A, n, c, word, held, bs, h.fr2 hg hB hR, r⟩
theorem DecS.keep {x : Cx} {w w' : World} {p3 p4 : Value} {a : Acc} {N L N' L' : Nat} (h : DecS x w p3 p4 a N L) (hf : Fr (fun k => k = x.B) w w') (hr : RD w' x.B x.R N' L') (hL : L' ≤ L) : DecS x w' p3 p4 a N' L' := by
  obtain ⟨rc, hrw⟩ := h.rd.whole
  obtain ⟨v, hw, ho⟩ := h.whole
  refine ⟨⟨v, hw.frame hf (hw.apart hrw (by decide)), own_frame ho hf (fun g hg e => ?_)⟩, hr, h.lens.fr hf (fun k cs hk e => hk.apart hrw (by decide) e), h.dist.fr hf (fun k cs hk e => hk.apart hrw (by decide) e), Nat.lt_of_lt_of_le h.rR hf.size, ⟨h.low.1, h.low.2.1, Nat.le_trans h.low.2.2 hf.size⟩, by have := h.few; omega, h.most, h.made⟩
  obtain ⟨-, -, cs, hc⟩ := own_lt ho hg
  exact hc.apart hrw (by decide) e
theorem DecS.later {x : Cx} {w w' : World} {p3 p4 : Value} {a : Acc} {N L : Nat} (h : DecS x w p3 p4 a N L) (hb : Below w.heap.size w w') : DecS x w' p3 p4 a N L := by
  have hf : Fr (fun k => w.heap.size ≤ k) w w' := Fr.of_below hb
  obtain ⟨rc, hrw⟩ := h.rd.whole
  obtain ⟨v, hw, ho⟩ := h.whole
  refine ⟨⟨v, hw.here hb, own_frame ho hf (fun g hg e => ?_)⟩, h.rd.fr2 hf (by have := hrw.lt; omega) (fun cs hc e => by have := hc.lt; omega), h.lens.fr hf (fun k cs hk e => by have := hk.lt; omega), h.dist.fr hf (fun k cs hk e => by have := hk.lt; omega), Nat.lt_of_lt_of_le h.rR hf.size, ⟨h.low.1, h.low.2.1, Nat.le_trans h.low.2.2 hf.size⟩, h.few, h.most, h.made⟩
  obtain ⟨-, h2, -⟩ := own_lt ho hg
  omega
/-- What a step answers: it went on, or tells why not. -/
def StepIs (x : Cx) (p3 p4 : Value) (N L : Nat) (p : Ps Acc) (w : World) (e : Ending) (w' : World) : Prop :=
  (∃ a' N' L', p N L = .ok (a', N', L') ∧ e = .returned (.int .i64 0) ∧ L' ≤ L ∧ DecS x w' p3 p4 a' N' L' ∧ Fl x w w') ∨
  (∃ E, p N L = .error E ∧ E ≠ 0 ∧ e = .returned (.int .i64 E) ∧ Fl x w w')
/-- A table in memory. -/
def TabAt (w : World) (P : Nat) (l : List Int) : Prop := l.length ≤ 320 ∧ ∃ base G v, TB w P base G (cntArr (natsOf l) l.length) v (symsAt l 15 0) (wordsAt l 15 0) l.length
theorem TabAt.fl {x : Cx} {w w' : World} {p3 p4 : Value} {a : Acc} {N L P : Nat} {l : List Int} (h : TabAt w P l) (hd : DecS x w p3 p4 a N L) (hf : Fl x w w') : TabAt w' P l := by
  obtain ⟨hl, base, G, v, ht⟩ := h
  obtain ⟨rc, hrw⟩ := hd.rd.whole
  obtain ⟨v', hw, ho⟩ := hd.whole
  have hS : ∀ k T cs, Whole w k T cs → T ≠ 80 → T ≠ 59 → T ≠ 46 → ¬ FlS x w k := fun k T cs hk h1 h2 h3 hs => by
    rcases hs with e | e | ⟨-, cs', hw'⟩
    · exact hk.apart hrw h1 e
    · exact hk.apart hw h2 e
    · exact hk.apart hw' h3 rfl
  refine ⟨hl, base, G, v, ht.sz, ht.whole.frame hf (hS _ _ _ ht.whole (by decide) (by decide) (by decide)), own_frame ht.own hf (fun g hg => ?_), ht.words.frame hf (hS _ _ _ ht.words (by decide) (by decide) (by decide))⟩
  obtain ⟨-, -, cs, hc⟩ := own_lt ht.own hg
  exact hS _ _ _ hc (by decide) (by decide) (by decide)
theorem tab_read {P : Nat} {l : List Int} {BR R N L : Nat} {w : World} (h : TabAt w P l) (hr : RD w BR R N L) :
    Calls Tryd.prog 62 #[.pointer (some ⟨P, 0, none⟩), .pointer (some ⟨BR, 0, none⟩)] w fun e w' =>
      (∃ s N' L', readP l N L = .ok (s, N', L') ∧ s < l.length ∧ L' < L ∧ e = .returned (.tuple #[.int .i64 (s : Int), .int .i64 0]) ∧ RD w' BR R N' L' ∧ Fr (fun k => k = BR) w w') ∨
      (∃ E, readP l N L = .error E ∧ E ≠ 0 ∧ e = .returned (.tuple #[.int .i64 0, .int .i64 E]) ∧ Fr (fun k => k = BR) w w') := by
  obtain ⟨hl, base, G, v, ht⟩ := h
  refine Calls.mono (tread_any P base G BR R N L v l _ w ht hr hl) ?_
  rintro e w' ⟨s, E, u, rfl, hres, hrd, hf⟩
  have hp := read_res hres
  by_cases h0 : E = 0
  · rw [if_pos h0] at hp
    subst h0
    obtain ⟨h1, h2⟩ := readP_lt hp
    exact .inl ⟨s, _, _, hp, h2, h1, rfl, hrd, hf⟩
  · rw [if_neg h0] at hp
    have hs : s = 0 := by
      rcases hres with ⟨L', -, -, -, -, e, -⟩ | ⟨-, -, e, -, -⟩ | ⟨-, -, e, -, -⟩
      · exact absurd e h0
      · exact e
      · exact e
    subst hs
    exact .inr ⟨E, hp, h0, rfl, hf⟩
end Go.Proofs.YtdoliloiagfagaaDoor
