/- A font, a row of ints among the arguments: opened. -/
import Derived.Test.YtdlmhienolmncaaGreatLaidGen
import Derived.Test.YtdlmhienolmncaaGreatFontC
namespace Go.Proofs.YtdlmhienolmncaaGreat
open Go.ChangeShapes Go.WideShapes Go.ChangeAt Go.RowKit Go.Joins Go.Deep

theorem cGlyph : Tryz.prog.cellsOf 73 = 3 := by kernel_rfl
theorem cIntC : Tryz.prog.cellsOf 3 = 1 := by kernel_rfl
theorem cStrC : Tryz.prog.cellsOf 9 = 1 := by kernel_rfl
theorem cFont : Tryz.prog.cellsOf 64 = 3 := by kernel_rfl
section
variable {H : Type} {enc : TypeId × Value → H} {W : World} {base : Nat} {held : Bool} {spare : Nat → Bool}
theorem glyph_in {n : Nat} {cs : List Value} {y : DataW H × List MemPlace} (hl : cs.length = 3) (h : DataW.trod enc Tryz.prog W base spare held n 73 cs = some y) :
    ∃ x : Gl, cs = [.int .i64 x.code, .int .i64 x.width, .string x.text] ∧ x.text.size ≤ 9223372036854775807 := by
  match cs, hl with
  | [c0, c1, c2], _ =>
    obtain ⟨xs, k, -, hx, -, hlen, hg⟩ := DataW.trod_struct Tryz.underlying73 h
    match xs, hlen with
    | [y0, y1, y2], _ =>
      have g0 := hg 0 _ rfl
      have g1 := hg 1 _ rfl
      have g2 := hg 2 _ rfl
      simp [cIntC, cStrC] at g0 g1 g2
      obtain ⟨a, e0, -, -⟩ := DataW.trod_int Tryz.underlying3 g0
      obtain ⟨b, e1, -, -⟩ := DataW.trod_int Tryz.underlying3 g1
      obtain ⟨c, e2, -, hs⟩ := DataW.trod_string Tryz.underlying9 g2
      simp at e0 e1 e2
      unfold maxLen at hs
      exact ⟨⟨a, b, c⟩, by rw [e0, e1, e2], hs⟩
theorem open_glyphs {fuel : Nat} {cs : List Value} {x : DataW H × List MemPlace} (h : DataW.trod enc Tryz.prog W base (fun _ => true) held fuel 62 cs = some x) :
    ∃ (A : Option Addr) (n c : Nat) (gs : List Gl), cs = [.slice A n c] ∧ Glyphs W A n c gs := by
  haveI : Inhabited Gl := ⟨⟨0, 0, ⟨#[]⟩⟩⟩
  rcases open_slice Tryz.underlying62 h with ⟨hc, -⟩ | ⟨a', n, c, m, k, D, Pl, hc, hb, hl, hm, hmm, -, hi⟩
  · exact ⟨none, 0, 0, [], hc, ⟨rfl, by omega, by omega, fun g h => by simp at h, fun h => absurd h (by omega)⟩⟩
  · unfold maxLen at hm
    have key : ∀ i, i < n → ∃ x : Gl, W.cell? (a'.add (i * 3)) = some (.int .i64 x.code) ∧ W.cell? ((a'.add (i * 3)).add 1) = some (.int .i64 x.width) ∧ W.cell? ((a'.add (i * 3)).add 2) = some (.string x.text) ∧ x.text.size ≤ 9223372036854775807 := fun i hin => by
      obtain ⟨cs', h1, h2⟩ := hi i (by rw [hmm]; simp; omega)
      rw [cGlyph] at h1
      obtain ⟨-, hlen, hat⟩ := World.cells?_some h1
      obtain ⟨x, rfl, hx⟩ := glyph_in hlen h2
      exact ⟨x, hat 0 (by omega), hat 1 (by omega), hat 2 (by omega), hx⟩
    by_cases hn : n = 0
    · subst hn
      exact ⟨some a', 0, c, [], hc, ⟨rfl, by omega, by omega, fun g h => by simp at h, fun h => absurd h (by omega)⟩⟩
    · obtain ⟨x0, e0, -⟩ := key 0 (by omega)
      have e0' : W.cell? a' = some (.int .i64 x0.code) := by
        have : a'.add (0 * 3) = a' := by unfold Addr.add; rfl
        rw [this] at e0; exact e0
      have hs := addr_in e0'
      obtain ⟨F, hF⟩ := choose_lt key
      have hget : ∀ (i : Nat) (g : Gl), ((List.range n).map F)[i]? = some g → i < n ∧ F i = g := fun i g hg => by
        have hin : i < n := by
          have := (List.getElem?_eq_some_iff.1 hg).1
          simpa using this
        simp [List.getElem?_range hin] at hg
        exact ⟨hin, hg⟩
      refine ⟨some a', n, c, (List.range n).map F, hc, ⟨by simp, hl, by omega, fun g hg => ?_, fun _ => ⟨a'.block, a'.off, ?_, World.block_lt_of_cell? _ _ e0', fun i g hg => ?_⟩⟩⟩
      · obtain ⟨j, hj, rfl⟩ := List.mem_map.1 hg
        exact (hF j (List.mem_range.1 hj)).2.2.2
      · obtain ⟨b, o, s⟩ := a'
        obtain rfl : s = none := hs
        rfl
      · obtain ⟨hin, rfl⟩ := hget i g hg
        obtain ⟨k0, k1, k2, -⟩ := hF i hin
        rw [addr_add hs] at k0 k1 k2
        rw [addr_add rfl] at k1 k2
        exact ⟨k0, k1, k2⟩
set_option maxRecDepth 100000 in
theorem open_font {b0 : Nat} {v : Value} {d : DataW H} {p : List MemPlace} (hv : Value.okWide Tryz.prog W .any b0 64 v) (h : DataW.Trod enc Tryz.prog W base (fun _ => true) held 64 v d p) :
    ∃ (wd : Bool) (A : Option Addr) (n c : Nat) (ot : Int) (gs : List Gl), v = .agg #[.bool wd, .slice A n c, .int .i64 ot] ∧ Glyphs W A n c gs := by
  obtain ⟨v0, v1, v2, y0, y1, y2, k, rfl, -, -, h0, h1, h2⟩ := open_agg3 Tryz.underlying64 (by kernel_rfl) cFont hv h
  obtain ⟨wd, e0, -⟩ := DataW.trod_bool Tryz.underlying4 h0
  obtain ⟨A, n, c, gs, e1, hg⟩ := open_glyphs h1
  obtain ⟨ot, e2, -, -⟩ := DataW.trod_int Tryz.underlying3 h2
  injection e0 with e0
  injection e1 with e1
  injection e2 with e2
  exact ⟨wd, A, n, c, ot, gs, by rw [e0, e1, e2], hg⟩
set_option maxRecDepth 100000 in
theorem open_introw {b0 : Nat} {v : Value} {d : DataW H} {p : List MemPlace} (hv : Value.okWide Tryz.prog W .any b0 34 v) (h : DataW.Trod enc Tryz.prog W base (fun _ => true) held 34 v d p) :
    ∃ (A : Option Addr) (n c : Nat) (l : List Int), v = .slice A n c ∧ IntsAt W A n c l := by
  obtain ⟨A, n, c, rfl⟩ := okWide_slice Tryz.underlying34 hv
  obtain ⟨fuel, hf⟩ := h
  rcases open_slice Tryz.underlying34 hf with ⟨hc, -⟩ | ⟨a', len, cap, m, k, D, Pl, hc, hb, hl, hm, hmm, -, hi⟩
  · simp [Value.cells] at hc
    obtain ⟨rfl, rfl, rfl⟩ := hc
    exact ⟨none, 0, 0, [], rfl, ⟨rfl, by omega, by omega, fun h => absurd h (by omega)⟩⟩
  · simp [Value.cells] at hc
    obtain ⟨rfl, rfl, rfl⟩ := hc
    unfold maxLen at hm
    have key : ∀ i, i < n → ∃ x : Int, W.cell? (a'.add i) = some (.int .i64 x) := fun i hin => by
      obtain ⟨cs', h1, h2⟩ := hi i (by rw [hmm]; simp; omega)
      rw [cIntC] at h1
      obtain ⟨-, hlen, hat⟩ := World.cells?_some h1
      obtain ⟨z, hz, -, hw⟩ := DataW.trod_int Tryz.underlying3 h2
      subst hz
      have e := hat 0 (by omega)
      have e1 : (a'.add (i * 1)).add 0 = a'.add i := by rw [Nat.mul_one]; simp [Addr.add]
      rw [e1] at e
      exact ⟨z, e⟩
    by_cases hn : n = 0
    · subst hn
      exact ⟨some a', 0, c, [], rfl, ⟨rfl, by omega, by omega, fun h => absurd h (by omega)⟩⟩
    · obtain ⟨x0, e0⟩ := key 0 (by omega)
      have e0' : W.cell? a' = some (.int .i64 x0) := by
        have : a'.add 0 = a' := by unfold Addr.add; rfl
        rw [this] at e0; exact e0
      have hs := addr_in e0'
      obtain ⟨F, hF⟩ := choose_lt key
      refine ⟨some a', n, c, (List.range n).map F, rfl, ⟨by simp, hl, by omega, fun _ => ⟨a'.block, a'.off, ?_, World.block_lt_of_cell? _ _ e0', fun i x hx => ?_⟩⟩⟩
      · obtain ⟨b, o, s⟩ := a'
        obtain rfl : s = none := hs
        rfl
      · have hin : i < n := by
          have := (List.getElem?_eq_some_iff.1 hx).1
          simpa using this
        simp [List.getElem?_range hin] at hx
        subst hx
        have := hF i hin
        rwa [addr_add hs] at this
end
end Go.Proofs.YtdlmhienolmncaaGreat
