/- The writer: its walks. -/
import Derived.Test.YtdoliloiagfagaaDoorByteRow
import Derived.Test.YtdoliloiagfagaaDoorBitsMath
import Derived.Test.YtdoliloiagfagaaDoorBitsLeft
import Derived.BigRegion
import Derived.RegionTactic
import Derived.IntWalk
import Derived.LoopTactic
import Derived.Deep.LoopGhost
import Derived.Deep.RegionLaw
import Derived.Deep.AppendLies
import Derived.Test.YtdoliloiagfagaaDoorBitsPull
namespace Go.Proofs.YtdoliloiagfagaaDoor
open Go.RowKit

/-- A writer's three cells: its bytes, which lie in a row of its own from block base on, and its word. -/
structure WS (w : World) (B base : Nat) (v : Value) (word held : Nat) (bs : List Nat) : Prop where
  whole : Whole w B 115 #[v, .int .u32 word, .int .i64 held]
  own : w.ownsRow base 5 1 v bs.length (bvs bs)
  byte : ∀ b ∈ bs, b < 256
  low : word < 2 ^ held
theorem own_slice {w : World} {base : Nat} {e : TypeId} {size : Nat} {v : Value} {n : Nat} {xs : List Value} (h : w.ownsRow base e size v n xs) : ∃ a c, v = .slice a n c := by
  rcases h.2 with ⟨rfl, rfl⟩ | ⟨g, cap, cur, rfl, _⟩
  · exact ⟨_, _, rfl⟩
  · exact ⟨_, _, rfl⟩
theorem newWriter_any (w : World) : Calls Tryd.prog 45 #[] w fun e w' => e = .returned (.pointer (some ⟨w.heap.size, 0, none⟩)) ∧ WS w' w.heap.size w.heap.size (.slice none 0 0) 0 0 [] ∧ Below w.heap.size w w' := by
  go_enter Tryd.func45, Tryd.ntmps45
  go_wp2
  go_ret
  exact ⟨rfl, ⟨Whole.made _ _ _, World.ownsRow_nil _ _ _ _, fun b hb => by simp at hb, by simp⟩, (Below.refl _ _).alloc (Nat.le_refl _) _⟩
theorem WS.cells {w : World} {B base : Nat} {v : Value} {word held : Nat} {bs : List Nat} (h : WS w B base v word held bs) :
    w.cell? ⟨B, 0, none⟩ = some v ∧ w.cell? ⟨B, 1, none⟩ = some (.int .u32 word) ∧ w.cell? ⟨B, 2, none⟩ = some (.int .i64 held) ∧ (∀ i, w.frozen? ⟨B, i, none⟩ = false) :=
  ⟨by rw [h.whole.reads 0]; rfl, by rw [h.whole.reads 1]; rfl, by rw [h.whole.reads 2]; rfl, h.whole.thawed⟩
theorem WS.word {w : World} {B base : Nat} {v : Value} {word held : Nat} {bs : List Nat} (h : WS w B base v word held bs) (hh : held ≤ 31) : word < 2147483648 :=
  Nat.lt_of_lt_of_le h.low (Nat.le_trans (Nat.pow_le_pow_right (by omega) hh) (by decide))
/-- A writer's block is not that of its row. -/
theorem WS.apart {w : World} {B base : Nat} {v : Value} {word held : Nat} {bs : List Nat} (h : WS w B base v word held bs) {g : Nat} (hg : v.ownBlock = some g) : g ≠ B := by
  obtain ⟨_, _, cs, hw⟩ := own_lt h.own hg
  exact hw.apart h.whole (by decide)
theorem WS.word2 {w : World} {B base word held : Nat} {v : Value} {bs : List Nat} (h : WS w B base v word held bs) {word' held' : Nat} {x y : Int} (hx : x = (word' : Int)) (hy : y = (held' : Int)) (hl : word' < 2 ^ held') :
    WS (((w.setCell ⟨B, 1, none⟩ (.int .u32 x)).setCell ⟨B, 2, none⟩ (.int .i64 y)).drew) B base v word' held' bs := by
  subst hx hy
  have hw := (h.whole.set 1 (.int .u32 (word' : Int))).set 2 (.int .i64 (held' : Int))
  rw [set2] at hw
  refine ⟨hw.drawn1, ?_, h.byte, hl⟩
  have hf : Fr (fun k => k = B) w (((w.setCell ⟨B, 1, none⟩ (.int .u32 (word' : Int))).setCell ⟨B, 2, none⟩ (.int .i64 (held' : Int))).drew) := (((Fr.refl _ _).setB _ _).setB _ _).drew
  exact own_frame h.own hf (fun g hg e => h.apart hg e)
/-- Behind the append of a byte to a writer's row. -/
theorem WS.flush {w w1 : World} {B base word held g cap : Nat} {v : Value} {bs : List Nat} (h : WS w B base v word held bs) (h8 : 8 ≤ held) {t : TypeId} {u : Value} (hgrow : ((w.alloc (.cells #[u] t)).drew).grownBy w1 v.ownBlock)
    (hown : w1.ownsRow base 5 1 (.slice (some ⟨g, 0, none⟩) (bs.length + 1) cap) (bs.length + 1) (bvs (bs ++ [word % 256]))) {x y : Int} (hx : x = ((word / 256 : Nat) : Int)) (hy : y = ((held - 8 : Nat) : Int)) :
    WS (((w1.setCell ⟨B, 0, none⟩ (.slice (some ⟨g, 0, none⟩) (bs.length + 1) cap)).setCell ⟨B, 1, none⟩ (.int .u32 x)).setCell ⟨B, 2, none⟩ (.int .i64 y)) B base (.slice (some ⟨g, 0, none⟩) (bs.length + 1) cap) (word / 256) (held - 8) (bs ++ [word % 256]) ∧
    Fr (fun k => k = B ∨ some k = v.ownBlock) w (((w1.setCell ⟨B, 0, none⟩ (.slice (some ⟨g, 0, none⟩) (bs.length + 1) cap)).setCell ⟨B, 1, none⟩ (.int .u32 x)).setCell ⟨B, 2, none⟩ (.int .i64 y)) := by
  subst hx hy
  have hB := h.whole.lt
  have hf1 : Fr (fun k => some k = v.ownBlock) w w1 := ((((Fr.refl _ _).alloc _).drew).grown hgrow (fun j e hj => e.symm))
  have hB1 : Whole w1 B 115 #[v, .int .u32 word, .int .i64 held] := h.whole.frame hf1 (fun e => h.apart e.symm rfl)
  have hgB : g ≠ B := by
    obtain ⟨_, _, cs, hw⟩ := own_lt hown (g := g) rfl
    exact hw.apart hB1 (by decide)
  have hf2 : Fr (fun k => k = B) w1 (((w1.setCell ⟨B, 0, none⟩ (.slice (some ⟨g, 0, none⟩) (bs.length + 1) cap)).setCell ⟨B, 1, none⟩ (.int .u32 ((word / 256 : Nat) : Int))).setCell ⟨B, 2, none⟩ (.int .i64 ((held - 8 : Nat) : Int))) :=
    (((Fr.refl _ _).setB _ _).setB _ _).setB _ _
  refine ⟨⟨?_, ?_, ?_, flush_lt word held h.low h8⟩, (hf1.more (fun _ _ e => .inr e)).trans hf2 (fun _ _ e => .inl e)⟩
  · have hw := ((hB1.set 0 (.slice (some ⟨g, 0, none⟩) (bs.length + 1) cap)).set 1 (.int .u32 ((word / 256 : Nat) : Int))).set 2 (.int .i64 ((held - 8 : Nat) : Int))
    rw [show ((#[v, Value.int .u32 (word : Int), .int .i64 (held : Int)].setIfInBounds 0 (.slice (some ⟨g, 0, none⟩) (bs.length + 1) cap)).setIfInBounds 1 (.int .u32 ((word / 256 : Nat) : Int))).setIfInBounds 2 (.int .i64 ((held - 8 : Nat) : Int)) = #[.slice (some ⟨g, 0, none⟩) (bs.length + 1) cap, .int .u32 ((word / 256 : Nat) : Int), .int .i64 ((held - 8 : Nat) : Int)] by simp] at hw
    exact hw
  · have := own_frame hown hf2 (fun k e => by have e1 : some g = some k := e; injection e1 with e1; subst e1; exact hgB)
    simpa using this
  · intro b hb
    rcases List.mem_append.1 hb with hb | hb
    · exact h.byte b hb
    · simp at hb; omega
/-- A writer in block B that holds the number M of T bits, the first one lowest; its bytes lie in a row of its own, the value v. -/
def WD (w : World) (B base : Nat) (v : Value) (M T : Nat) : Prop := ∃ (word held : Nat) (bs : List Nat), WS w B base v word held bs ∧ held ≤ 7 ∧ M = num bs + 256 ^ bs.length * word ∧ T = 8 * bs.length + held ∧ base ≤ w.heap.size
/-- What becomes of a writer and its memory. -/
def Wrote (B base : Nat) (v : Value) (M T : Nat) (w w' : World) : Prop :=
  ∃ v', WD w' B base v' M T ∧ Fr (fun k => k = B ∨ some k = v.ownBlock) w w' ∧ (∀ g, v'.ownBlock = some g → v.ownBlock = some g ∨ w.heap.size ≤ g)
theorem WS.grown {w w1 : World} {B base word held : Nat} {v : Value} {bs : List Nat} (h : WS w B base v word held bs) {t : TypeId} {u : Value} (hgrow : ((w.alloc (.cells #[u] t)).drew).grownBy w1 v.ownBlock) :
    w1.cell? ⟨B, 0, none⟩ = some v ∧ w1.cell? ⟨B, 1, none⟩ = some (.int .u32 word) ∧ w1.cell? ⟨B, 2, none⟩ = some (.int .i64 held) ∧ w1.frozen? ⟨B, 0, none⟩ = false ∧ w1.frozen? ⟨B, 1, none⟩ = false ∧ w1.frozen? ⟨B, 2, none⟩ = false := by
  have hf1 : Fr (fun k => some k = v.ownBlock) w w1 := ((((Fr.refl _ _).alloc _).drew).grown hgrow (fun j e hj => e.symm))
  have hB1 : Whole w1 B 115 #[v, .int .u32 word, .int .i64 held] := h.whole.frame hf1 (fun e => h.apart e.symm rfl)
  exact ⟨by rw [hB1.reads 0]; rfl, by rw [hB1.reads 1]; rfl, by rw [hB1.reads 2]; rfl, hB1.thawed 0, hB1.thawed 1, hB1.thawed 2⟩
theorem shl_more (k V : Nat) (hk : k ≤ 24) (hV : V < 2 ^ k) : decide (wrap64 (2 ^ k) ≤ (V : Int)) = false := by
  have k24 : (2 : Nat) ^ k ≤ 2 ^ 24 := Nat.pow_le_pow_right (by omega) hk
  have e : (2 : Int) ^ k = ((2 ^ k : Nat) : Int) := by push_cast; rfl
  rw [e, IntWalk.wrap64_in _ ⟨by omega, by omega⟩]
  simp only [decide_eq_false_iff_not]
  omega
theorem put_first {w : World} {B base : Nat} {v : Value} {word held k V : Nat} {bs : List Nat} (h : WS w B base v word held bs) (hh : held ≤ 7) (hk : k ≤ 24) (hV : V < 2 ^ k) :
    WS (((w.setCell ⟨B, 1, none⟩ (.int .u32 (bits .or .u32 (word : Int) ((V : Int) * 2 ^ held % 4294967296)))).setCell ⟨B, 2, none⟩ (.int .i64 ((held : Int) + k))).drew) B base v (word + V * 2 ^ held) (held + k) bs := by
  have hlt : word + V * 2 ^ held < 2 ^ (held + k) := by
    have h1 := h.low
    have h2 : V * 2 ^ held ≤ (2 ^ k - 1) * 2 ^ held := Nat.mul_le_mul_right _ (by omega)
    rw [Nat.sub_mul, Nat.one_mul] at h2
    have h3 : 2 ^ held ≤ 2 ^ k * 2 ^ held := Nat.le_mul_of_pos_left _ (Nat.two_pow_pos k)
    rw [Nat.pow_add, Nat.mul_comm (2 ^ held) (2 ^ k)]
    omega
  have h31 : (2 : Nat) ^ (held + k) ≤ 2 ^ 31 := Nat.pow_le_pow_right (by omega) (by omega)
  exact h.word2 (word_or word V held h.low (by omega)) (by omega) hlt
/-- What Put answers. -/
def PutIs (B base : Nat) (v : Value) (M T : Nat) (w : World) (e : Ending) (w' : World) : Prop := e = .returned (.int .i64 0) ∧ Wrote B base v M T w w'
set_option maxRecDepth 100000 in
set_option maxHeartbeats 4000000 in
theorem put_any (B base M T k V : Nat) (v : Value) (w : World) (h : WD w B base v M T) (hk : k ≤ 24) (hV : V < 2 ^ k) (hT : T ≤ 1000000000) :
    Calls Tryd.prog 50 #[.pointer (some ⟨B, 0, none⟩), .int .i64 V, .int .i64 k] w (PutIs B base v (M + 2 ^ T * V) (T + k) w) := by
  obtain ⟨i0, hi, hz0, hz1, hz2⟩ := info_parts info8
  obtain ⟨word, held, bs, h, hh, rfl, rfl, hbase⟩ := h
  have H := Lib.hid h
  obtain ⟨a0, cc, rfl⟩ := own_slice h.own
  obtain ⟨c0, c1, c2, hf⟩ := h.cells
  have f1 := hf 1
  have f2 := hf 2
  have hw : word < 128 := Nat.lt_of_lt_of_le h.low (Nat.pow_le_pow_right (by omega) hh)
  have k24 : (2 : Nat) ^ k ≤ 2 ^ 24 := Nat.pow_le_pow_right (by omega) hk
  have k0 : ¬ ((k : Int) < 0) := by omega
  have k1 : ¬ ((24 : Int) < k) := by omega
  have v0 : ¬ ((V : Int) < 0) := by omega
  have hvw := shl_more k V hk hV
  have hs1 := Lib.hid (put_first h hh hk hV)
  clear h hf
  go_enter Tryd.func50, Tryd.ntmps50
  go_wp2_with fail
  go_region
  go_wp2_with fail
  go_loopg [47] (held + k) (fun g _ wr => ∃ (v' : Value) (word' : Nat) (bs' : List Nat), WS wr B base v' word' g bs' ∧ g ≤ 31 ∧ num bs' + 256 ^ bs'.length * word' = num bs + 256 ^ bs.length * (word + V * 2 ^ held) ∧ 8 * bs'.length + g = 8 * bs.length + held + k ∧
    Fr (fun k => k = B ∨ some k = (Value.slice a0 bs.length cc).ownBlock) w wr ∧ (∀ g, v'.ownBlock = some g → (Value.slice a0 bs.length cc).ownBlock = some g ∨ w.heap.size ≤ g))
  case atStart =>
    refine ⟨_, _, _, hs1.out, by omega, rfl, by omega, ?_, fun g e => .inl e⟩
    exact ((((Fr.refl _ _).setB _ _).setB _ _).drew).more (fun _ _ e => .inl e)
  case round =>
    obtain ⟨v', word', bs', hr, hg1, hM, hT', hfr, hown⟩ := hrel
    obtain ⟨c0, c1, c2, hf⟩ := hr.cells
    have f0 := hf 0
    have f1 := hf 1
    have f2 := hf 2
    have hw := hr.word hg1
    obtain ⟨a1, cc1, rfl⟩ := own_slice hr.own
    have hsz := hfr.size
    have hB := hr.whole.lt
    have HR := Lib.hid (And.intro hr (And.intro hM (And.intro hfr hown)))
    clear hr hM hfr hown hf
    by_cases hge : 8 ≤ gk
    · go_wp2_with fail
      go_region_law ((refine step_append_lies _ (by rfl) _ _ _ (by rfl) base 5 i0 (.int .u8 0) 1 1 Tryd.underlying23 hi hz0 hz1 hz2 rfl (by omega) (.slice a1 bs'.length cc1) bs'.length (bvs bs') (by rfl) ((HR.out.1.own.alloc _).drew) ⟨wr.heap.size, 0, none⟩ 1 1 [.int .u8 ((word' % 256 : Nat) : Int)] (by rfl) (by rfl) (World.news_of_block (cs := #[.int .u8 ((word' % 256 : Nat) : Int)]) (t := 5) (fr := (0, 0)) (heap_alloc_new wr _)) (by simp [Value.oneCell']) (by omega) (by unfold maxLen; omega) (by omega) (by simp; omega) (wr.heap.size + 1) (by simp) ?_; intro g cap w1 hown1 hgrow hat hlt; obtain ⟨d0, d1, d2, e0, e1, e2⟩ := HR.out.1.grown hgrow; have HG := Lib.hid (And.intro hown1 (And.intro hgrow (And.intro hat hlt))); clear hown1 hgrow hat hlt))
      all_goals
        go_wp2
        obtain ⟨hown1, hgrow, hat, -⟩ := HG.out
        obtain ⟨hr, hM, hfr, hown⟩ := HR.out
        rw [show bvs bs' ++ [Value.int .u8 ((word' % 256 : Nat) : Int)] = bvs (bs' ++ [word' % 256]) from (bvs_append bs' [word' % 256]).symm] at hown1
        have hfl := fun {x y : Int} hx hy => hr.flush hge (x := x) (y := y) hgrow hown1 hx hy
        clear hown1 hgrow
        go_roundg (gk - 8)
        case measure => omega
        case rel =>
          refine ⟨_, _, _, (hfl (by omega) (by omega)).1, by omega, ?_, ?_, hfr.trans (hfl (by omega) (by omega)).2 ?_, ?_⟩
          · rw [List.length_append]; exact (flush_step bs' word').trans hM
          · rw [List.length_append]; simp; omega
          · intro j hj e
            rcases e with e | e
            · exact .inl e
            · rcases hown j e.symm with e1 | e1
              · exact .inr e1.symm
              · omega
          · intro j e
            have e1 : some g = some j := e
            injection e1 with e1
            subst e1
            rcases hat with e2 | e2
            · exact hown _ e2
            · exact .inr (by omega)
    · go_wp2
      go_ret
      obtain ⟨hr, hM, hfr, hown⟩ := HR.out
      exact ⟨rfl, _, ⟨_, _, _, hr, by omega, by rw [hM, put_word], by omega, by omega⟩, hfr, hown⟩
end Go.Proofs.YtdoliloiagfagaaDoor
