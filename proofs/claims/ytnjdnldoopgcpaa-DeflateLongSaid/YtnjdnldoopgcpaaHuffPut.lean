/- huff's table: what Make's closure does with a symbol. -/
import Derived.Test.YtnjdnldoopgcpaaHuffFind
import Derived.Test.YtnjdnldoopgcpaaBitsWrB
import Derived.StillTailTactics
import Derived.Deep.RegionWith
import Derived.Deep.CutRange
namespace Go.Proofs.Ytnjdnldoopgcpaa
open Go.RowKit

theorem infoInt : (Try.prog.info? 3).map (fun i => (i.zero, i.size, i.bytes)) = some (some (.int .i64 0), 1, 8) := by kernel_rfl
def ivs (l : List Nat) : List Value := l.map fun b : Nat => Value.int .i64 (b : Int)
theorem ivs_append (l l' : List Nat) : ivs (l ++ l') = ivs l ++ ivs l' := by simp [ivs]
/-- A table in block B: its counts cs, its symbols in a row of their own (the value v), its words in block G. -/
structure TB (w : World) (B base G : Nat) (cs : Array Value) (v : Value) (syms : List Nat) (ws : Array Value) (n : Nat) : Prop where
  sz : cs.size = 16
  whole : Whole w B 102 (cs ++ #[v, .slice (some ⟨G, 0, none⟩) n n])
  own : w.ownsRow base 3 1 v syms.length (ivs syms)
  words : Whole w G 106 ws
theorem cell16 {w : World} {B : Nat} {T : TypeId} {cs : Array Value} {a b : Value} (h : Whole w B T (cs ++ #[a, b])) (hs : cs.size = 16) : w.cell? ⟨B, 16, none⟩ = some a := by
  rw [h.reads 16]
  simp [hs]
theorem cell17 {w : World} {B : Nat} {T : TypeId} {cs : Array Value} {a b : Value} (h : Whole w B T (cs ++ #[a, b])) (hs : cs.size = 16) : w.cell? ⟨B, 17, none⟩ = some b := by
  rw [h.reads 17]
  simp [hs]
theorem TB.cells {w : World} {B base G : Nat} {cs : Array Value} {v : Value} {syms : List Nat} {ws : Array Value} {n : Nat} (h : TB w B base G cs v syms ws n) :
    w.cell? ⟨B, 16, none⟩ = some v ∧ w.cell? ⟨B, 17, none⟩ = some (.slice (some ⟨G, 0, none⟩) n n) ∧ ∀ i, w.frozen? ⟨B, i, none⟩ = false := by
  exact ⟨cell16 h.whole h.sz, cell17 h.whole h.sz, h.whole.thawed⟩
theorem TB.apart {w : World} {B base G : Nat} {cs : Array Value} {v : Value} {syms : List Nat} {ws : Array Value} {n : Nat} (h : TB w B base G cs v syms ws n) {g : Nat} (hg : v.ownBlock = some g) : g ≠ B ∧ g ≠ G := by
  obtain ⟨_, _, cs', hw⟩ := own_lt h.own hg
  exact ⟨hw.apart h.whole (by decide), hw.apart h.words (by decide)⟩
theorem TB.off {w : World} {B base G : Nat} {cs : Array Value} {v : Value} {syms : List Nat} {ws : Array Value} {n : Nat} (h : TB w B base G cs v syms ws n) {k : Nat} {T : TypeId} {ks : Array Value} (hk : Whole w k T ks) (hT : 3 ≠ T) {w1 : World} (hf : Fr (fun k => some k = v.ownBlock) w w1) : Whole w1 k T ks :=
  hk.frame hf (fun e => by
    obtain ⟨_, _, cs', hw⟩ := own_lt h.own e.symm
    exact hw.apart hk hT rfl)
theorem TB.grown {w w1 : World} {B base G : Nat} {cs : Array Value} {v : Value} {syms : List Nat} {ws : Array Value} {n : Nat} (h : TB w B base G cs v syms ws n) {t : TypeId} {u : Value} (hgrow : ((w.alloc (.cells #[u] t)).drew).grownBy w1 v.ownBlock) :
    Whole w1 B 102 (cs ++ #[v, .slice (some ⟨G, 0, none⟩) n n]) ∧ Whole w1 G 106 ws ∧ Fr (fun k => some k = v.ownBlock) w w1 := by
  have hf1 : Fr (fun k => some k = v.ownBlock) w w1 := ((((Fr.refl _ _).alloc _).drew).grown hgrow (fun j e hj => e.symm))
  exact ⟨h.whole.frame hf1 (fun e => (h.apart e.symm).1 rfl), h.words.frame hf1 (fun e => (h.apart e.symm).2 rfl), hf1⟩
/-- A table and what its closure has caught, behind some symbols. -/
structure TMid (w0 w : World) (B base G n bt bl : Nat) (A : Option Addr) (c : Nat) (cs : Array Value) (v : Value) (syms : List Nat) (ws : Array Value) : Prop where
  tab : TB w B base G cs v syms ws n
  ht : Whole w bt 71 #[.pointer (some ⟨B, 0, none⟩)]
  hl : Whole w bl 50 #[.slice A n c]
  below : Below base w0 w
  base_le : base ≤ w0.heap.size
  base_B : base ≤ B
  base_G : base ≤ G
theorem mid_of {w0 w w1 : World} {B base G n bt bl c s g cap : Nat} {A : Option Addr} {cs : Array Value} {v : Value} {syms : List Nat} {ws : Array Value} (h : TMid w0 w B base G n bt bl A c cs v syms ws) {t : TypeId} {u : Value} (hgrow : ((w.alloc (.cells #[u] t)).drew).grownBy w1 v.ownBlock)
    (hown1 : w1.ownsRow base 3 1 (.slice (some ⟨g, 0, none⟩) (syms.length + 1) cap) (syms.length + 1) (ivs syms ++ [.int .i64 (s : Int)])) :
    TMid w0 (w1.setCell ⟨B, 16, none⟩ (.slice (some ⟨g, 0, none⟩) (syms.length + 1) cap)) B base G n bt bl A c cs (.slice (some ⟨g, 0, none⟩) (syms.length + 1) cap) (syms ++ [s]) ws := by
  obtain ⟨hw1, hw2, hf1⟩ := h.tab.grown hgrow
  have ht1 := h.tab.off h.ht (by decide) hf1
  have hl1 := h.tab.off h.hl (by decide) hf1
  have hgB : g ≠ B := by
    obtain ⟨_, _, cs', hw⟩ := own_lt hown1 (g := g) rfl
    exact hw.apart hw1 (by decide)
  have hBG : B ≠ G := hw1.apart hw2 (by decide)
  have htB : bt ≠ B := ht1.apart hw1 (by decide)
  have hlB : bl ≠ B := hl1.apart hw1 (by decide)
  have hf2 : Fr (fun k => k = B) w1 (w1.setCell ⟨B, 16, none⟩ (.slice (some ⟨g, 0, none⟩) (syms.length + 1) cap)) := (Fr.refl _ _).setB _ _
  have hb1 : Below base w w1 := hf1.below (Nat.le_trans h.base_le h.below.size) (fun j hj e => by
    obtain ⟨hb, _, _⟩ := own_lt h.tab.own e.symm
    omega)
  refine ⟨⟨h.tab.sz, ?_, ?_, hw2.away (p := ⟨B, 16, none⟩) (Ne.symm hBG) _⟩, ht1.away (p := ⟨B, 16, none⟩) htB _, hl1.away (p := ⟨B, 16, none⟩) hlB _, (h.below.trans hb1).setCell (p := ⟨B, 16, none⟩) h.base_B _, h.base_le, h.base_B, h.base_G⟩
  · have := hw1.set 16 (.slice (some ⟨g, 0, none⟩) (syms.length + 1) cap)
    have e : (cs ++ #[v, .slice (some ⟨G, 0, none⟩) n n]).setIfInBounds 16 (.slice (some ⟨g, 0, none⟩) (syms.length + 1) cap) = cs ++ #[.slice (some ⟨g, 0, none⟩) (syms.length + 1) cap, .slice (some ⟨G, 0, none⟩) n n] := by
      rw [Array.setIfInBounds_append_right (by rw [h.tab.sz]; exact Nat.le_refl _), h.tab.sz]
      rfl
    rwa [e] at this
  · have := own_frame hown1 hf2 (fun k e => by have e1 : some g = some k := e; injection e1 with e1; subst e1; exact hgB)
    rw [ivs_append, List.length_append]
    exact this
/-- Behind the store of a word. -/
theorem mid_word {w0 w : World} {B base G n bt bl c : Nat} {A : Option Addr} {cs : Array Value} {v : Value} {syms : List Nat} {ws : Array Value} (h : TMid w0 w B base G n bt bl A c cs v syms ws) (j : Nat) (a b : Value) :
    TMid w0 ((w.setCell ⟨G, j, none⟩ a).setCell ⟨G, j + 1, none⟩ b) B base G n bt bl A c cs v syms ((ws.setIfInBounds j a).setIfInBounds (j + 1) b) := by
  have hBG : B ≠ G := h.tab.whole.apart h.tab.words (by decide)
  have htG : bt ≠ G := h.ht.apart h.tab.words (by decide)
  have hlG : bl ≠ G := h.hl.apart h.tab.words (by decide)
  have hf2 : Fr (fun k => k = G) w ((w.setCell ⟨G, j, none⟩ a).setCell ⟨G, j + 1, none⟩ b) := ((Fr.refl _ _).setB _ _).setB _ _
  exact ⟨⟨h.tab.sz, h.tab.whole.frame hf2 hBG, own_frame h.tab.own hf2 (fun k e => (h.tab.apart e).2), (h.tab.words.set j a).set (j + 1) b⟩, h.ht.frame hf2 htG, h.hl.frame hf2 hlG,
    (h.below.setCell (p := ⟨G, j, none⟩) h.base_G _).setCell (p := ⟨G, j + 1, none⟩) h.base_G _, h.base_le, h.base_B, h.base_G⟩
set_option maxRecDepth 100000 in
set_option maxHeartbeats 4000000 in
theorem make1_any (B base G n bt bl R o c : Nat) (cs : Array Value) (v : Value) (syms : List Nat) (ws : Array Value) (s k x : Nat) (w0 w : World)
    (h : TMid w0 w B base G n bt bl (some ⟨R, o, none⟩) c cs v syms ws) (hs : s < n) (hsy : syms.length ≤ 4800) (hk : k < 4611686018427387904) (hx : x ≤ 15) (hws : ws.size = 2 * n)
    (hR : R < base) (hcell : w0.cell? ⟨R, o + s, none⟩ = some (.int .i64 x)) :
    Calls Try.prog 62 #[.int .i64 s, .int .i64 k, .pointer (some ⟨bt, 0, none⟩), .pointer (some ⟨bl, 0, none⟩)] w
      fun e w' => e = .returned (.tuple #[]) ∧ ∃ v', TMid w0 w' B base G n bt bl (some ⟨R, o, none⟩) c cs v' (syms ++ [s]) ((ws.setIfInBounds (s * 2) (.int .i64 (revB k x : Int))).setIfInBounds (s * 2 + 1) (.int .i64 x)) := by
  obtain ⟨i0, hi, hz0, hz1, hz2⟩ := info_parts infoInt
  obtain ⟨c16, c17, hf⟩ := h.tab.cells
  obtain ⟨a0, cc, rfl⟩ := own_slice h.tab.own
  have f16 := hf 16
  have ct : w.cell? ⟨bt, 0, none⟩ = some (.pointer (some ⟨B, 0, none⟩)) := by rw [h.ht.reads]; rfl
  have cl : w.cell? ⟨bl, 0, none⟩ = some (.slice (some ⟨R, o, none⟩) n c) := by rw [h.hl.reads]; rfl
  have lB := h.tab.whole.lt
  have lt := h.ht.lt
  have ll := h.hl.lt
  have lG := h.tab.words.lt
  have hbase := Nat.le_trans h.base_le h.below.size
  have H := Lib.hid h
  have HC := Lib.hid hcell
  clear h hf hcell
  go_enter Try.func62, Try.ntmps62
  go_wp2_with fail
  go_cut [13] from 6 to 15 (fun _ wx => ∃ v', TMid w0 wx B base G n bt bl (some ⟨R, o, none⟩) c cs v' (syms ++ [s]) ws)
  case first =>
    go_region_law ((refine step_append_lies _ (by rfl) _ _ _ (by rfl) base 3 i0 (.int .i64 0) 1 8 Try.underlying50 hi hz0 hz1 hz2 rfl (by omega) (.slice a0 syms.length cc) syms.length (ivs syms) (by rfl) ((H.out.tab.own.alloc _).drew) ⟨w.heap.size, 0, none⟩ 1 1 [.int .i64 (s : Int)] (by rfl) (by rfl) (World.news_of_block (cs := #[.int .i64 (s : Int)]) (t := 3) (fr := (0, 0)) (heap_alloc_new w _)) (by simp [Value.oneCell']) (by omega) (by unfold maxLen; omega) (by omega) (by simp; omega) (w.heap.size + 1) (by simp) ?_; intro g cap w1 hown1 hgrow hat hlt; obtain ⟨hw1, hw2, hf1⟩ := H.out.tab.grown hgrow; have ht1 := H.out.tab.off H.out.ht (by decide) hf1; have ct1 : w1.cell? ⟨bt, 0, none⟩ = some (.pointer (some ⟨B, 0, none⟩)) := (by rw [ht1.reads]; rfl); have lt1 := ht1.lt; have d16 := cell16 hw1 H.out.tab.sz; have e16 := hw1.thawed 16; have lB1 := hw1.lt; have HG := Lib.hid (mid_of H.out hgrow hown1); clear ht1 hw1 hw2 hf1 hown1 hgrow hat hlt))
    all_goals
      go_wp2_with fail
      go_meet
      exact ⟨_, HG.out⟩
  case rest =>
    obtain ⟨v', hm⟩ := hcut
    clear ct cl c16 c17 f16 lB lt ll lG hbase
    obtain ⟨-, c17, hf⟩ := hm.tab.cells
    have ct : wc.cell? ⟨bt, 0, none⟩ = some (.pointer (some ⟨B, 0, none⟩)) := by rw [hm.ht.reads]; rfl
    have cl : wc.cell? ⟨bl, 0, none⟩ = some (.slice (some ⟨R, o, none⟩) n c) := by rw [hm.hl.reads]; rfl
    have cx : wc.cell? ⟨R, o + s, none⟩ = some (.int .i64 x) := (hm.below.cell (p := ⟨R, o + s, none⟩) hR).trans HC.out
    have lB := hm.tab.whole.lt
    have lt := hm.ht.lt
    have ll := hm.hl.lt
    have lG := hm.tab.words.lt
    obtain ⟨y0, hy0⟩ : ∃ y, ws[s * 2]? = some y := ⟨_, Array.getElem?_eq_getElem (by omega)⟩
    obtain ⟨y1, hy1⟩ : ∃ y, ws[s * 2 + 1]? = some y := ⟨_, Array.getElem?_eq_getElem (by omega)⟩
    have g0 : wc.cell? ⟨G, s * 2, none⟩ = some y0 := by rw [hm.tab.words.reads]; exact hy0
    have g1 : wc.cell? ⟨G, s * 2 + 1, none⟩ = some y1 := by rw [hm.tab.words.reads]; exact hy1
    have e0 := hm.tab.words.thawed (s * 2)
    have e1 := hm.tab.words.thawed (s * 2 + 1)
    have HM := Lib.hid hm
    clear hm hf hy0 hy1
    go_wp2_with fail
    go_still_tail 17, (by kernel_rfl)
    still_call (reverse_any k x _ hk hx)
    repeat still_step
    refine wpStill_nil ?_
    change wpList _ _ _ _ _ wc.drew
    have HM2 := Lib.hid (show TMid w0 wc.drew B base G n bt bl (some ⟨R, o, none⟩) c cs v' (syms ++ [s]) ws from ⟨⟨HM.out.tab.sz, HM.out.tab.whole.drawn1, HM.out.tab.own, HM.out.tab.words.drawn1⟩, HM.out.ht.drawn1, HM.out.hl.drawn1, ⟨HM.out.below.os, HM.out.below.tape, HM.out.below.output, HM.out.below.size, HM.out.below.block⟩, HM.out.base_le, HM.out.base_B, HM.out.base_G⟩)
    have g0' : wc.drew.cell? ⟨G, s * 2, none⟩ = some y0 := g0
    have g1' : wc.drew.cell? ⟨G, s * 2 + 1, none⟩ = some y1 := g1
    have e0' : wc.drew.frozen? ⟨G, s * 2, none⟩ = false := e0
    have e1' : wc.drew.frozen? ⟨G, s * 2 + 1, none⟩ = false := e1
    have lG' : G < wc.drew.heap.size := lG
    clear g0 g1 e0 e1 lG ct cl cx c17 lB lt ll HM
    generalize wc.drew = w2 at *
    have HW := Lib.hid (mid_word HM2.out (s * 2) (.int .i64 (revB k x : Int)) (.int .i64 (x : Int)))
    go_wp2
    go_end0
    exact ⟨rfl, _, HW.out⟩
end Go.Proofs.Ytnjdnldoopgcpaa
/- huff's Put. -/
namespace Go.Proofs.Ytnjdnldoopgcpaa
open Go.RowKit

theorem tput_nil (V : Value) (hV : ∃ p, V = .pointer p) (s : Int) (w : World) :
    Calls Try.prog 47 #[.pointer none, V, .int .i64 s] w fun e w' => e = .returned (.int .i64 3) ∧ w' = w := by
  obtain ⟨p, rfl⟩ := hV
  go_enter Try.func47, Try.ntmps47
  go_wp2
  go_ret
  exact ⟨rfl, rfl⟩
theorem tput_nil2 (B : Nat) (s : Int) (w : World) :
    Calls Try.prog 47 #[.pointer (some ⟨B, 0, none⟩), .pointer none, .int .i64 s] w fun e w' => e = .returned (.int .i64 3) ∧ w' = w := by
  go_enter Try.func47, Try.ntmps47
  go_wp2
  go_ret
  exact ⟨rfl, rfl⟩
theorem wd_drew {w : World} {B base : Nat} {v : Value} {M T : Nat} (h : WD w B base v M T) : WD w.drew B base v M T := by
  obtain ⟨word, held, bs, hs, h1, h2, h3, h4⟩ := h
  exact ⟨word, held, bs, ⟨hs.whole.drawn1, hs.own, hs.byte, hs.low⟩, h1, h2, h3, h4⟩
theorem wrote_drew {w w' : World} {B base : Nat} {v : Value} {M T : Nat} (h : Wrote B base v M T w.drew w') : Wrote B base v M T w w' := by
  obtain ⟨v', h1, h2, h3⟩ := h
  exact ⟨v', h1, ⟨h2.os, h2.tape, h2.output, h2.size, h2.block⟩, h3⟩
set_option maxRecDepth 100000 in
set_option maxHeartbeats 4000000 in
theorem tput_out (B base G n BW : Nat) (cs : Array Value) (v : Value) (syms : List Nat) (ws : Array Value) (s : Int) (w : World) (h : TB w B base G cs v syms ws n) (hs : s < 0 ∨ (n : Int) ≤ s) :
    Calls Try.prog 47 #[.pointer (some ⟨B, 0, none⟩), .pointer (some ⟨BW, 0, none⟩), .int .i64 s] w fun e w' => e = .returned (.int .i64 8) ∧ w' = w := by
  obtain ⟨-, c17, -⟩ := h.cells
  have lB := h.whole.lt
  clear h
  by_cases h0 : s < 0
  · go_enter Try.func47, Try.ntmps47
    go_wp2
    go_ret
    exact ⟨rfl, rfl⟩
  · have h1 : (n : Int) ≤ s := by omega
    clear hs
    go_enter Try.func47, Try.ntmps47
    go_wp2
    go_ret
    exact ⟨rfl, rfl⟩
set_option maxRecDepth 100000 in
set_option maxHeartbeats 4000000 in
theorem tput_none (B base G n BW s : Nat) (cs : Array Value) (v : Value) (syms : List Nat) (ws : Array Value) (w : World) (h : TB w B base G cs v syms ws n) (hs : s < n) (hw : ws[s * 2 + 1]? = some (.int .i64 0)) :
    Calls Try.prog 47 #[.pointer (some ⟨B, 0, none⟩), .pointer (some ⟨BW, 0, none⟩), .int .i64 s] w fun e w' => e = .returned (.int .i64 8) ∧ w' = w := by
  obtain ⟨-, c17, -⟩ := h.cells
  have lB := h.whole.lt
  have lG := h.words.lt
  have g1 : w.cell? ⟨G, s * 2 + 1, none⟩ = some (.int .i64 0) := by rw [h.words.reads]; exact hw
  clear h hw
  go_enter Try.func47, Try.ntmps47
  go_wp2
  go_ret
  exact ⟨rfl, rfl⟩
set_option maxRecDepth 100000 in
set_option maxHeartbeats 4000000 in
theorem tput_some (B base G n BW bs M T s k x : Nat) (cs : Array Value) (v vw : Value) (syms : List Nat) (ws : Array Value) (w : World) (h : TB w B base G cs v syms ws n) (hs : s < n) (h0 : ws[s * 2]? = some (.int .i64 k)) (h1 : ws[s * 2 + 1]? = some (.int .i64 x))
    (hx0 : 0 < x) (hx : x ≤ 15) (hk : k < 2 ^ x) (hW : WD w BW bs vw M T) (hT : T ≤ 1000000000) :
    Calls Try.prog 47 #[.pointer (some ⟨B, 0, none⟩), .pointer (some ⟨BW, 0, none⟩), .int .i64 s] w (PutIs BW bs vw (M + 2 ^ T * k) (T + x) w) := by
  obtain ⟨-, c17, -⟩ := h.cells
  have lB := h.whole.lt
  have lG := h.words.lt
  have g0 : w.cell? ⟨G, s * 2, none⟩ = some (.int .i64 k) := by rw [h.words.reads]; exact h0
  have g1 : w.cell? ⟨G, s * 2 + 1, none⟩ = some (.int .i64 x) := by rw [h.words.reads]; exact h1
  have hp := put_any BW bs M T x k vw w.drew (wd_drew hW) (by omega) hk hT
  have HP := Lib.hid hp
  clear h h0 h1 hp hk hW
  have hxz : ((x : Int) == 0) = false := by simp; omega
  go_enter Try.func47, Try.ntmps47
  go_wp2_with fail
  go_still_tail 17, (by kernel_rfl)
  change wpList _ _ _ _ _ w.drew
  generalize hq : w.drew = wq at HP ⊢
  go_wp2_with fail
  refine HP.out.mono ?_
  rintro e w2 ⟨rfl, hw⟩
  subst hq
  have HR := Lib.hid (wrote_drew hw)
  clear hw
  go_wp2
  go_ret
  exact ⟨rfl, HR.out⟩
end Go.Proofs.Ytnjdnldoopgcpaa
