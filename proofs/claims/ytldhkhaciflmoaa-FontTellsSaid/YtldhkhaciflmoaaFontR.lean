/- font: Cut: rows of glyphs of the call's own; what the loop knows. -/
import Derived.Test.YtldhkhaciflmoaaFontQ
namespace Go.Proofs.Ytldhkhaciflmoaa
open Go.RowKit

def gv (g : Gl) : List Value := [.int .i64 g.code, .int .i64 g.width, .string g.text]
def gvs : List Gl → List Value
  | [] => []
  | g :: r => .int .i64 g.code :: .int .i64 g.width :: .string g.text :: gvs r
theorem gvs_snoc : ∀ (l : List Gl) (g : Gl), gvs (l ++ [g]) = gvs l ++ gv g
  | [], g => rfl
  | x :: r, g => by simp [gvs, gvs_snoc r g]
theorem gvs_len : ∀ l : List Gl, (gvs l).length = l.length * 3
  | [] => rfl
  | x :: r => by simp [gvs, gvs_len r]; omega
theorem gvs_at : ∀ (l : List Gl) (i : Nat) (g : Gl), l[i]? = some g → (gvs l)[i * 3]? = some (.int .i64 g.code) ∧ (gvs l)[i * 3 + 1]? = some (.int .i64 g.width) ∧ (gvs l)[i * 3 + 2]? = some (.string g.text)
  | [], i, g, h => by simp at h
  | x :: r, 0, g, h => by
    simp at h
    subst h
    exact ⟨rfl, rfl, rfl⟩
  | x :: r, i + 1, g, h => by
    have ih := gvs_at r i g (by simpa using h)
    rw [show (i + 1) * 3 = i * 3 + 1 + 1 + 1 by omega, show i * 3 + 1 + 1 + 1 + 1 = i * 3 + 1 + 1 + 1 + 1 from rfl, show i * 3 + 1 + 1 + 1 + 2 = (i * 3 + 2) + 1 + 1 + 1 by omega]
    simp only [gvs, List.getElem?_cons_succ]
    exact ⟨ih.1, ih.2.1, ih.2.2⟩
theorem Glyphs.of_own {w : World} {base n : Nat} {v : Value} {l : List Gl} (h : w.ownsRow base 35 3 v n (gvs l)) (ht : ∀ g ∈ l, g.text.size ≤ 9223372036854775807) : ∃ A c, v = .slice A n c ∧ Glyphs w A n c l := by
  have hl : l.length = n := by have := h.1; rw [gvs_len] at this; omega
  rcases h.2 with ⟨rfl, rfl⟩ | ⟨g, cap, cur, rfl, hg, hw, hnc, hc, hs, htk⟩
  · exact ⟨none, 0, rfl, hl, by omega, by omega, ht, fun h => absurd h (by omega)⟩
  · have hw' : Whole w g 35 cur := hw
    have key : ∀ j u, (gvs l)[j]? = some u → w.cell? ⟨g, 0 + j, none⟩ = some u := fun j u hu => by
      rw [← htk, List.getElem?_take] at hu
      split at hu
      · rw [hw'.reads, Nat.zero_add, ← hu, Array.getElem?_toList]
      · cases hu
    refine ⟨_, cap, rfl, hl, hnc, by unfold maxLen at hc; omega, ht, fun _ => ⟨g, 0, rfl, hw'.lt, fun i x hx => ?_⟩⟩
    obtain ⟨a0, a1, a2⟩ := gvs_at l i x hx
    exact ⟨key _ _ a0, by have := key _ _ a1; rwa [← Nat.add_assoc] at this, by have := key _ _ a2; rwa [← Nat.add_assoc] at this⟩
theorem infoGl : (Try.prog.info? 35).map (fun i => (i.zero, i.size, i.bytes)) = some (some (.agg #[.int .i64 0, .int .i64 0, .string ⟨#[]⟩]), 3, 32) := by kernel_rfl
theorem info_gl : ∃ i, Try.prog.info? 35 = some i ∧ i.zero = some (.agg #[.int .i64 0, .int .i64 0, .string ⟨#[]⟩]) ∧ i.size = 3 ∧ i.bytes = 32 := by
  have h := infoGl
  cases hi : Try.prog.info? 35 with
  | none => rw [hi] at h; cases h
  | some i =>
    rw [hi] at h
    injection h with h
    injection h with h1 h2
    injection h2 with h2 h3
    exact ⟨i, rfl, h1, h2, h3⟩
theorem IntsAt.moved {w w' : World} {A : Option Addr} {n c : Nat} {l : List Int} (h : IntsAt w A n c l) (hs : w.heap.size ≤ w'.heap.size) (hc : ∀ R o, A = some ⟨R, o, none⟩ → w'.heap[R]? = w.heap[R]?) : IntsAt w' A n c l :=
  ⟨h.len, h.cap, h.top, fun hn => by
    obtain ⟨R, o, e, hR, hcell⟩ := h.at_ hn
    refine ⟨R, o, e, by omega, fun i x hx => ?_⟩
    have := hcell i x hx
    unfold World.cell? at this ⊢
    rw [hc R o e]
    exact this⟩
/-- Which glyph a code leaves. -/
def pick (wd : Bool) (ot : Int) (gs : List Gl) (code : Int) : Option Gl :=
  if (hitG gs code).isSome || (decide (0 < ot) && codeB wd code) then some (findG ot gs code) else none
def cutG (wd : Bool) (ot : Int) (gs : List Gl) (keep : List Int) : List Gl := (sdl keep).filterMap (pick wd ot gs)
structure CutSt (w wx : World) (B P : Nat) (wd : Bool) (A : Option Addr) (n c : Nat) (ot : Int) (L : List Gl) (A3 : Option Addr) (K c3 : Nat) (S : List Int) : Prop where
  f : FB wx w.heap.size wd A n c ot
  r : Whole wx (w.heap.size + 1) 24 #[.bool false, .slice none 0 0, .int .i64 0]
  o : ∃ v, Whole wx P 24 #[.bool wd, v, .int .i64 0] ∧ wx.ownsRow B 35 3 v L.length (gvs L)
  s : IntsAt wx A3 K c3 S
  sb : ∀ R o, A3 = some ⟨R, o, none⟩ → R < B ∧ R ≠ P
  below : Below w.heap.size w wx
  lo : w.heap.size + 1 < P
  hi : P < B
  top : B ≤ wx.heap.size
theorem CutSt.later {w wx w' : World} {B P : Nat} {wd : Bool} {A : Option Addr} {n c : Nat} {ot : Int} {L : List Gl} {A3 : Option Addr} {K c3 : Nat} {S : List Int} (h : CutSt w wx B P wd A n c ot L A3 K c3 S) (hb : Below wx.heap.size wx w') : CutSt w w' B P wd A n c ot L A3 K c3 S :=
  ⟨Whole.here h.f hb, h.r.here hb, by
    obtain ⟨v, hv, ho⟩ := h.o
    refine ⟨v, hv.here hb, ?_⟩
    obtain ⟨hl, ho⟩ := ho
    refine ⟨hl, ?_⟩
    rcases ho with ho | ⟨g, cap, cur, e, hg, hgg, r⟩
    · exact .inl ho
    · exact .inr ⟨g, cap, cur, e, hg, by rw [hb.block g (Array.getElem?_eq_some_iff.1 hgg).1]; exact hgg, r⟩,
    h.s.below hb, h.sb, h.below.trans (hb.mono h.below.size), h.lo, h.hi, Nat.le_trans h.top hb.size⟩
theorem CutSt.push {w W W' : World} {B P : Nat} {wd : Bool} {A : Option Addr} {n c : Nat} {ot : Int} {L : List Gl} {A3 : Option Addr} {K c3 : Nat} {S : List Int} {v v' : Value} {g : Gl} (h : CutSt w W B P wd A n c ot L A3 K c3 S)
    (hv : W.ownsRow B 35 3 v L.length (gvs L)) (hP : Whole W P 24 #[.bool wd, v, .int .i64 0])
    (hown : W'.ownsRow B 35 3 v' (L.length + 1) (gvs L ++ gv g)) (hg : W.grownBy W' v.ownBlock) : CutSt w (W'.setCell ⟨P, 1, none⟩ v') B P wd A n c ot (L ++ [g]) A3 K c3 S := by
  have hB : Below B W W' := (Below.refl B W).grown hg h.top (fun k e => (hv.lt k e).1)
  have hl := h.lo
  have hi := h.hi
  have blk : ∀ k, k < B → W'.heap[k]? = W.heap[k]? := fun k hk => hB.block k hk
  have e1 : Whole W' w.heap.size 24 #[.bool wd, .slice A n c, .int .i64 ot] := (blk _ (by omega)).trans h.f
  have e2 : Whole W' (w.heap.size + 1) 24 #[.bool false, .slice none 0 0, .int .i64 0] := (blk _ (by omega)).trans h.r
  have e3 : Whole W' P 24 #[.bool wd, v, .int .i64 0] := (blk _ hi).trans hP
  refine ⟨e1.away (p := ⟨P, 1, none⟩) (by show w.heap.size ≠ P; omega) _, e2.away (p := ⟨P, 1, none⟩) (by show w.heap.size + 1 ≠ P; omega) _, ⟨v', e3.set 1 v', ?_⟩, ?_, h.sb, ?_, hl, hi, ?_⟩
  · rw [gvs_snoc, List.length_append]
    exact ownsRow_setCell_below hown (a := ⟨P, 1, none⟩) hi v'
  · refine h.s.moved (by simpa using hB.size) (fun R o e => ?_)
    obtain ⟨h1, h2⟩ := h.sb R o e
    rw [Below.heap_setCell W' ⟨P, 1, none⟩ v' R h2]
    exact blk R h1
  · exact (h.below.trans (hB.mono (by omega))).setCell (by show w.heap.size ≤ P; omega) _
  · have := hB.size; have := h.top; simp; omega
end Go.Proofs.Ytldhkhaciflmoaa
