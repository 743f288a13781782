/- The walk of NewReader. -/
import Derived.Test.YtnjdnldoopgcpaaBitsAlign
import Derived.Test.YtnjdnldoopgcpaaByteRow
import Derived.Test.YtnjdnldoopgcpaaBitsPull
import Derived.BigRegion
import Derived.RegionTactic
import Derived.IntWalk
import Derived.LoopTactic
import Derived.Deep.LoopGhost
import Derived.Deep.RegionLaw
import Derived.Deep.AppendLies
namespace Go.Proofs.Ytnjdnldoopgcpaa
open Go.RowKit

theorem num_lt (bs : List Nat) (h : ∀ b ∈ bs, b < 256) : num bs < 256 ^ bs.length := by
  induction bs with
  | nil => simp [num]
  | cons b l ih =>
    have h1 := h b (by simp)
    have h2 := ih (fun x hx => h x (by simp [hx]))
    simp only [num, List.length_cons, Nat.pow_succ]
    omega
end Go.Proofs.Ytnjdnldoopgcpaa
/- The writer: its walks. -/
namespace Go.Proofs.Ytnjdnldoopgcpaa
open Go.RowKit

/-- A writer's three cells: its bytes, which lie in a row of its own from block base on, and its word. -/
structure WS (w : World) (B base : Nat) (v : Value) (word held : Nat) (bs : List Nat) : Prop where
  whole : Whole w B 90 #[v, .int .u32 word, .int .i64 held]
  own : w.ownsRow base 5 1 v bs.length (bvs bs)
  byte : ∀ b ∈ bs, b < 256
  low : word < 2 ^ held
theorem own_slice {w : World} {base : Nat} {e : TypeId} {size : Nat} {v : Value} {n : Nat} {xs : List Value} (h : w.ownsRow base e size v n xs) : ∃ a c, v = .slice a n c := by
  rcases h.2 with ⟨rfl, rfl⟩ | ⟨g, cap, cur, rfl, _⟩
  · exact ⟨_, _, rfl⟩
  · exact ⟨_, _, rfl⟩
theorem newWriter_any (w : World) : Calls Try.prog 39 #[] w fun e w' => e = .returned (.pointer (some ⟨w.heap.size, 0, none⟩)) ∧ WS w' w.heap.size w.heap.size (.slice none 0 0) 0 0 [] ∧ Below w.heap.size w w' := by
  go_enter Try.func39, Try.ntmps39
  go_wp2
  go_ret
  exact ⟨rfl, ⟨Whole.made _ _ _, World.ownsRow_nil _ _ _ _, fun b hb => by simp at hb, by simp⟩, (Below.refl _ _).alloc (Nat.le_refl _) _⟩
theorem WS.cells {w : World} {B base : Nat} {v : Value} {word held : Nat} {bs : List Nat} (h : WS w B base v word held bs) :
    w.cell? ⟨B, 0, none⟩ = some v ∧ w.cell? ⟨B, 1, none⟩ = some (.int .u32 word) ∧ w.cell? ⟨B, 2, none⟩ = some (.int .i64 held) ∧ (∀ i, w.frozen? ⟨B, i, none⟩ = false) :=
  ⟨by rw [h.whole.reads 0]; rfl, by rw [h.whole.reads 1]; rfl, by rw [h.whole.reads 2]; rfl, h.whole.thawed⟩
theorem WS.word {w : World} {B base : Nat} {v : Value} {word held : Nat} {bs : List Nat} (h : WS w B base v word held bs) (hh : held ≤ 31) : word < 2147483648 :=
  Nat.lt_of_lt_of_le h.low (Nat.le_trans (Nat.pow_le_pow_right (by omega) hh) (by decide))
/-- A writer's block is not that of its row. -/
theorem WS.apart {w : World} {B base : Nat} {v : Value} {word held : Nat} {bs : List Nat} (h : WS w B base v word held bs) {g : Nat} (hg : v.ownBlock = some g) : g ≠ B := by
  obtain ⟨_, _, cs, hw⟩ := own_lt h.own hg
  exact hw.apart h.whole (by decide)
theorem WS.word2 {w : World} {B base word held : Nat} {v : Value} {bs : List Nat} (h : WS w B base v word held bs) {word' held' : Nat} {x y : Int} (hx : x = (word' : Int)) (hy : y = (held' : Int)) (hl : word' < 2 ^ held') :
    WS (((w.setCell ⟨B, 1, none⟩ (.int .u32 x)).setCell ⟨B, 2, none⟩ (.int .i64 y)).drew) B base v word' held' bs := by
  subst hx hy
  have hw := (h.whole.set 1 (.int .u32 (word' : Int))).set 2 (.int .i64 (held' : Int))
  rw [set2] at hw
  refine ⟨hw.drawn1, ?_, h.byte, hl⟩
  have hf : Fr (fun k => k = B) w (((w.setCell ⟨B, 1, none⟩ (.int .u32 (word' : Int))).setCell ⟨B, 2, none⟩ (.int .i64 (held' : Int))).drew) := (((Fr.refl _ _).setB _ _).setB _ _).drew
  exact own_frame h.own hf (fun g hg e => h.apart hg e)
/-- Behind the append of a byte to a writer's row. -/
theorem WS.flush {w w1 : World} {B base word held g cap : Nat} {v : Value} {bs : List Nat} (h : WS w B base v word held bs) (h8 : 8 ≤ held) {t : TypeId} {u : Value} (hgrow : ((w.alloc (.cells #[u] t)).drew).grownBy w1 v.ownBlock)
    (hown : w1.ownsRow base 5 1 (.slice (some ⟨g, 0, none⟩) (bs.length + 1) cap) (bs.length + 1) (bvs (bs ++ [word % 256]))) {x y : Int} (hx : x = ((word / 256 : Nat) : Int)) (hy : y = ((held - 8 : Nat) : Int)) :
    WS (((w1.setCell ⟨B, 0, none⟩ (.slice (some ⟨g, 0, none⟩) (bs.length + 1) cap)).setCell ⟨B, 1, none⟩ (.int .u32 x)).setCell ⟨B, 2, none⟩ (.int .i64 y)) B base (.slice (some ⟨g, 0, none⟩) (bs.length + 1) cap) (word / 256) (held - 8) (bs ++ [word % 256]) ∧
    Fr (fun k => k = B ∨ some k = v.ownBlock) w (((w1.setCell ⟨B, 0, none⟩ (.slice (some ⟨g, 0, none⟩) (bs.length + 1) cap)).setCell ⟨B, 1, none⟩ (.int .u32 x)).setCell ⟨B, 2, none⟩ (.int .i64 y)) := by
  subst hx hy
  have hB := h.whole.lt
  have hf1 : Fr (fun k => some k = v.ownBlock) w w1 := ((((Fr.refl _ _).alloc _).drew).grown hgrow (fun j e hj => e.symm))
  have hB1 : Whole w1 B 90 #[v, .int .u32 word, .int .i64 held] := h.whole.frame hf1 (fun e => h.apart e.symm rfl)
  have hgB : g ≠ B := by
    obtain ⟨_, _, cs, hw⟩ := own_lt hown (g := g) rfl
    exact hw.apart hB1 (by decide)
  have hf2 : Fr (fun k => k = B) w1 (((w1.setCell ⟨B, 0, none⟩ (.slice (some ⟨g, 0, none⟩) (bs.length + 1) cap)).setCell ⟨B, 1, none⟩ (.int .u32 ((word / 256 : Nat) : Int))).setCell ⟨B, 2, none⟩ (.int .i64 ((held - 8 : Nat) : Int))) :=
    (((Fr.refl _ _).setB _ _).setB _ _).setB _ _
  refine ⟨⟨?_, ?_, ?_, flush_lt word held h.low h8⟩, (hf1.more (fun _ _ e => .inr e)).trans hf2 (fun _ _ e => .inl e)⟩
  · have hw := ((hB1.set 0 (.slice (some ⟨g, 0, none⟩) (bs.length + 1) cap)).set 1 (.int .u32 ((word / 256 : Nat) : Int))).set 2 (.int .i64 ((held - 8 : Nat) : Int))
    rw [show ((#[v, Value.int .u32 (word : Int), .int .i64 (held : Int)].setIfInBounds 0 (.slice (some ⟨g, 0, none⟩) (bs.length + 1) cap)).setIfInBounds 1 (.int .u32 ((word / 256 : Nat) : Int))).setIfInBounds 2 (.int .i64 ((held - 8 : Nat) : Int)) = #[.slice (some ⟨g, 0, none⟩) (bs.length + 1) cap, .int .u32 ((word / 256 : Nat) : Int), .int .i64 ((held - 8 : Nat) : Int)] by simp] at hw
    exact hw
  · have := own_frame hown hf2 (fun k e => by have e1 : some g = some k := e; injection e1 with e1; subst e1; exact hgB)
    simpa using this
  · intro b hb
    rcases List.mem_append.1 hb with hb | hb
    · exact h.byte b hb
    · simp at hb; omega
/-- A writer in block B that holds the number M of T bits, the first one lowest; its bytes lie in a row of its own, the value v. -/
def WD (w : World) (B base : Nat) (v : Value) (M T : Nat) : Prop := ∃ (word held : Nat) (bs : List Nat), WS w B base v word held bs ∧ held ≤ 7 ∧ M = num bs + 256 ^ bs.length * word ∧ T = 8 * bs.length + held ∧ base ≤ w.heap.size
/-- What becomes of a writer and its memory. -/
def Wrote (B base : Nat) (v : Value) (M T : Nat) (w w' : World) : Prop :=
  ∃ v', WD w' B base v' M T ∧ Fr (fun k => k = B ∨ some k = v.ownBlock) w w' ∧ (∀ g, v'.ownBlock = some g → v.ownBlock = some g ∨ w.heap.size ≤ g)
theorem WS.grown {w w1 : World} {B base word held : Nat} {v : Value} {bs : List Nat} (h : WS w B base v word held bs) {t : TypeId} {u : Value} (hgrow : ((w.alloc (.cells #[u] t)).drew).grownBy w1 v.ownBlock) :
    w1.cell? ⟨B, 0, none⟩ = some v ∧ w1.cell? ⟨B, 1, none⟩ = some (.int .u32 word) ∧ w1.cell? ⟨B, 2, none⟩ = some (.int .i64 held) ∧ w1.frozen? ⟨B, 0, none⟩ = false ∧ w1.frozen? ⟨B, 1, none⟩ = false ∧ w1.frozen? ⟨B, 2, none⟩ = false := by
  have hf1 : Fr (fun k => some k = v.ownBlock) w w1 := ((((Fr.refl _ _).alloc _).drew).grown hgrow (fun j e hj => e.symm))
  have hB1 : Whole w1 B 90 #[v, .int .u32 word, .int .i64 held] := h.whole.frame hf1 (fun e => h.apart e.symm rfl)
  exact ⟨by rw [hB1.reads 0]; rfl, by rw [hB1.reads 1]; rfl, by rw [hB1.reads 2]; rfl, hB1.thawed 0, hB1.thawed 1, hB1.thawed 2⟩
theorem shl_more (k V : Nat) (hk : k ≤ 24) (hV : V < 2 ^ k) : decide (wrap64 (2 ^ k) ≤ (V : Int)) = false := by
  have k24 : (2 : Nat) ^ k ≤ 2 ^ 24 := Nat.pow_le_pow_right (by omega) hk
  have e : (2 : Int) ^ k = ((2 ^ k : Nat) : Int) := by push_cast; rfl
  rw [e, IntWalk.wrap64_in _ ⟨by omega, by omega⟩]
  simp only [decide_eq_false_iff_not]
  omega
theorem put_first {w : World} {B base : Nat} {v : Value} {word held k V : Nat} {bs : List Nat} (h : WS w B base v word held bs) (hh : held ≤ 7) (hk : k ≤ 24) (hV : V < 2 ^ k) :
    WS (((w.setCell ⟨B, 1, none⟩ (.int .u32 (bits .or .u32 (word : Int) ((V : Int) * 2 ^ held % 4294967296)))).setCell ⟨B, 2, none⟩ (.int .i64 ((held : Int) + k))).drew) B base v (word + V * 2 ^ held) (held + k) bs := by
  have hlt : word + V * 2 ^ held < 2 ^ (held + k) := by
    have h1 := h.low
    have h2 : V * 2 ^ held ≤ (2 ^ k - 1) * 2 ^ held := Nat.mul_le_mul_right _ (by omega)
    rw [Nat.sub_mul, Nat.one_mul] at h2
    have h3 : 2 ^ held ≤ 2 ^ k * 2 ^ held := Nat.le_mul_of_pos_left _ (Nat.two_pow_pos k)
    rw [Nat.pow_add, Nat.mul_comm (2 ^ held) (2 ^ k)]
    omega
  have h31 : (2 : Nat) ^ (held + k) ≤ 2 ^ 31 := Nat.pow_le_pow_right (by omega) (by omega)
  exact h.word2 (word_or word V held h.low (by omega)) (by omega) hlt
/-- What Put answers. -/
def PutIs (B base : Nat) (v : Value) (M T : Nat) (w : World) (e : Ending) (w' : World) : Prop := e = .returned (.int .i64 0) ∧ Wrote B base v M T w w'
set_option maxRecDepth 100000 in
set_option maxHeartbeats 4000000 in
theorem put_any (B base M T k V : Nat) (v : Value) (w : World) (h : WD w B base v M T) (hk : k ≤ 24) (hV : V < 2 ^ k) (hT : T ≤ 1000000000) :
    Calls Try.prog 46 #[.pointer (some ⟨B, 0, none⟩), .int .i64 V, .int .i64 k] w (PutIs B base v (M + 2 ^ T * V) (T + k) w) := by
  obtain ⟨i0, hi, hz0, hz1, hz2⟩ := info_parts info8
  obtain ⟨word, held, bs, h, hh, rfl, rfl, hbase⟩ := h
  have H := Lib.hid h
  obtain ⟨a0, cc, rfl⟩ := own_slice h.own
  obtain ⟨c0, c1, c2, hf⟩ := h.cells
  have f1 := hf 1
  have f2 := hf 2
  have hw : word < 128 := Nat.lt_of_lt_of_le h.low (Nat.pow_le_pow_right (by omega) hh)
  have k24 : (2 : Nat) ^ k ≤ 2 ^ 24 := Nat.pow_le_pow_right (by omega) hk
  have k0 : ¬ ((k : Int) < 0) := by omega
  have k1 : ¬ ((24 : Int) < k) := by omega
  have v0 : ¬ ((V : Int) < 0) := by omega
  have hvw := shl_more k V hk hV
  have hs1 := Lib.hid (put_first h hh hk hV)
  clear h hf
  go_enter Try.func46, Try.ntmps46
  go_wp2_with fail
  go_region
  go_wp2_with fail
  go_loopg [47] (held + k) (fun g _ wr => ∃ (v' : Value) (word' : Nat) (bs' : List Nat), WS wr B base v' word' g bs' ∧ g ≤ 31 ∧ num bs' + 256 ^ bs'.length * word' = num bs + 256 ^ bs.length * (word + V * 2 ^ held) ∧ 8 * bs'.length + g = 8 * bs.length + held + k ∧
    Fr (fun k => k = B ∨ some k = (Value.slice a0 bs.length cc).ownBlock) w wr ∧ (∀ g, v'.ownBlock = some g → (Value.slice a0 bs.length cc).ownBlock = some g ∨ w.heap.size ≤ g))
  case atStart =>
    refine ⟨_, _, _, hs1.out, by omega, rfl, by omega, ?_, fun g e => .inl e⟩
    exact ((((Fr.refl _ _).setB _ _).setB _ _).drew).more (fun _ _ e => .inl e)
  case round =>
    obtain ⟨v', word', bs', hr, hg1, hM, hT', hfr, hown⟩ := hrel
    obtain ⟨c0, c1, c2, hf⟩ := hr.cells
    have f0 := hf 0
    have f1 := hf 1
    have f2 := hf 2
    have hw := hr.word hg1
    obtain ⟨a1, cc1, rfl⟩ := own_slice hr.own
    have hsz := hfr.size
    have hB := hr.whole.lt
    have HR := Lib.hid (And.intro hr (And.intro hM (And.intro hfr hown)))
    clear hr hM hfr hown hf
    by_cases hge : 8 ≤ gk
    · go_wp2_with fail
      go_region_law ((refine step_append_lies _ (by rfl) _ _ _ (by rfl) base 5 i0 (.int .u8 0) 1 1 Try.underlying22 hi hz0 hz1 hz2 rfl (by omega) (.slice a1 bs'.length cc1) bs'.length (bvs bs') (by rfl) ((HR.out.1.own.alloc _).drew) ⟨wr.heap.size, 0, none⟩ 1 1 [.int .u8 ((word' % 256 : Nat) : Int)] (by rfl) (by rfl) (World.news_of_block (cs := #[.int .u8 ((word' % 256 : Nat) : Int)]) (t := 5) (fr := (0, 0)) (heap_alloc_new wr _)) (by simp [Value.oneCell']) (by omega) (by unfold maxLen; omega) (by omega) (by simp; omega) (wr.heap.size + 1) (by simp) ?_; intro g cap w1 hown1 hgrow hat hlt; obtain ⟨d0, d1, d2, e0, e1, e2⟩ := HR.out.1.grown hgrow; have HG := Lib.hid (And.intro hown1 (And.intro hgrow (And.intro hat hlt))); clear hown1 hgrow hat hlt))
      all_goals
        go_wp2
        obtain ⟨hown1, hgrow, hat, -⟩ := HG.out
        obtain ⟨hr, hM, hfr, hown⟩ := HR.out
        rw [show bvs bs' ++ [Value.int .u8 ((word' % 256 : Nat) : Int)] = bvs (bs' ++ [word' % 256]) from (bvs_append bs' [word' % 256]).symm] at hown1
        have hfl := fun {x y : Int} hx hy => hr.flush hge (x := x) (y := y) hgrow hown1 hx hy
        clear hown1 hgrow
        go_roundg (gk - 8)
        case measure => omega
        case rel =>
          refine ⟨_, _, _, (hfl (by omega) (by omega)).1, by omega, ?_, ?_, hfr.trans (hfl (by omega) (by omega)).2 ?_, ?_⟩
          · rw [List.length_append]; exact (flush_step bs' word').trans hM
          · rw [List.length_append]; simp; omega
          · intro j hj e
            rcases e with e | e
            · exact .inl e
            · rcases hown j e.symm with e1 | e1
              · exact .inr e1.symm
              · omega
          · intro j e
            have e1 : some g = some j := e
            injection e1 with e1
            subst e1
            rcases hat with e2 | e2
            · exact hown _ e2
            · exact .inr (by omega)
    · go_wp2
      go_ret
      obtain ⟨hr, hM, hfr, hown⟩ := HR.out
      exact ⟨rfl, _, ⟨_, _, _, hr, by omega, by rw [hM, put_word], by omega, by omega⟩, hfr, hown⟩
end Go.Proofs.Ytnjdnldoopgcpaa
/- The writer's filled and Bytes. -/
namespace Go.Proofs.Ytnjdnldoopgcpaa
open Go.RowKit

theorem shl_bad (k : Nat) (V : Int) (hk : k ≤ 24) (hV : ((2 ^ k : Nat) : Int) ≤ V) : decide (wrap64 (2 ^ k) ≤ V) = true := by
  have k24 : (2 : Nat) ^ k ≤ 2 ^ 24 := Nat.pow_le_pow_right (by omega) hk
  have e : (2 : Int) ^ k = ((2 ^ k : Nat) : Int) := by push_cast; rfl
  have b1 : ((2 ^ k : Nat) : Int) ≤ ((2 ^ 24 : Nat) : Int) := Int.ofNat_le.2 k24
  have b0 : (0 : Int) ≤ ((2 ^ k : Nat) : Int) := Int.natCast_nonneg _
  generalize ((2 ^ k : Nat) : Int) = z at *
  rw [e, IntWalk.wrap64_in z ⟨by omega, by omega⟩]
  simp only [decide_eq_true_iff]
  omega
theorem put_bad (B : Nat) (V k : Int) (w : World) (h : k < 0 ∨ 24 < k ∨ V < 0 ∨ ((2 ^ k.toNat : Nat) : Int) ≤ V) :
    Calls Try.prog 46 #[.pointer (some ⟨B, 0, none⟩), .int .i64 V, .int .i64 k] w fun e w' => e = .returned (.int .i64 1) ∧ w = w' := by
  by_cases h1 : k < 0
  · clear h
    go_enter Try.func46, Try.ntmps46
    go_wp2
    go_ret
    exact ⟨rfl, rfl⟩
  · by_cases h2 : 24 < k
    · clear h
      go_enter Try.func46, Try.ntmps46
      go_wp2
      go_ret
      exact ⟨rfl, rfl⟩
    · by_cases h3 : V < 0
      · clear h
        go_enter Try.func46, Try.ntmps46
        go_wp2
        go_ret
        exact ⟨rfl, rfl⟩
      · have h4 : ((2 ^ k.toNat : Nat) : Int) ≤ V := by omega
        obtain ⟨n, rfl⟩ : ∃ n : Nat, k = n := ⟨k.toNat, by omega⟩
        rw [Int.toNat_natCast] at h4
        have hb := shl_bad n V (by omega) h4
        clear h h4
        go_enter Try.func46, Try.ntmps46
        go_wp2
        go_ret
        exact ⟨rfl, rfl⟩

/-- What filled answers: a row whose number is the writer's. -/
def FilledIs (base : Nat) (v : Value) (M T : Nat) (w : World) (e : Ending) (w' : World) : Prop :=
  ∃ (v' : Value) (bs : List Nat), e = .returned v' ∧ w'.ownsRow base 5 1 v' bs.length (bvs bs) ∧ (∀ b ∈ bs, b < 256) ∧ num bs = M ∧ bs.length = (T + 7) / 8 ∧ Fr (fun k => some k = v.ownBlock) w w'
set_option maxRecDepth 100000 in
set_option maxHeartbeats 4000000 in
theorem filled_any (B base M T : Nat) (v : Value) (w : World) (h : WD w B base v M T) (hT : T ≤ 1000000000) :
    Calls Try.prog 66 #[.pointer (some ⟨B, 0, none⟩)] w (FilledIs base v M T w) := by
  obtain ⟨i0, hi, hz0, hz1, hz2⟩ := info_parts info8
  obtain ⟨word, held, bs, h, hh, rfl, rfl, hbase⟩ := h
  have H := Lib.hid h
  obtain ⟨a0, cc, rfl⟩ := own_slice h.own
  obtain ⟨c0, c1, c2, hf⟩ := h.cells
  have hw : word < 128 := Nat.lt_of_lt_of_le h.low (Nat.pow_le_pow_right (by omega) hh)
  have hB := h.whole.lt
  clear h hf
  by_cases h0 : held = 0
  · subst h0
    have hq : word = 0 := by have := H.out.low; simpa using this
    have HQ := Lib.hid hq
    clear hq
    go_enter Try.func66, Try.ntmps66
    go_wp2
    go_ret
    exact ⟨_, bs, rfl, H.out.own, H.out.byte, by rw [HQ.out]; rfl, by omega, Fr.refl _ _⟩
  · have h1 : ((held : Int) == 0) = false := by simp; omega
    go_enter Try.func66, Try.ntmps66
    go_wp2_with fail
    go_region_law ((refine step_append_lies _ (by rfl) _ _ _ (by rfl) base 5 i0 (.int .u8 0) 1 1 Try.underlying22 hi hz0 hz1 hz2 rfl (by omega) (.slice a0 bs.length cc) bs.length (bvs bs) (by rfl) ((H.out.own.alloc _).drew) ⟨w.heap.size, 0, none⟩ 1 1 [.int .u8 ((word % 256 : Nat) : Int)] (by rfl) (by rfl) (World.news_of_block (cs := #[.int .u8 ((word % 256 : Nat) : Int)]) (t := 5) (fr := (0, 0)) (heap_alloc_new w _)) (by simp [Value.oneCell']) (by omega) (by unfold maxLen; omega) (by omega) (by simp; omega) (w.heap.size + 1) (by simp) ?_; intro g cap w1 hown1 hgrow hat hlt; have HG := Lib.hid (And.intro hown1 hgrow); clear hown1 hgrow hat hlt))
    all_goals
      go_wp2
      go_ret
      obtain ⟨hown1, hgrow⟩ := HG.out
      rw [Nat.mod_eq_of_lt (show word < 256 by omega), show bvs bs ++ [Value.int .u8 (word : Int)] = bvs (bs ++ [word]) from (bvs_append bs [word]).symm] at hown1
      refine ⟨_, bs ++ [word], rfl, by rw [List.length_append]; exact hown1, ?_, num_append bs word, by simp; omega, ((Fr.refl _ _).alloc _).drew.grown hgrow (fun j e hj => e.symm)⟩
      intro b hb
      rcases List.mem_append.1 hb with hb | hb
      · exact H.out.byte b hb
      · simp at hb; omega
/-- What the writer's Bytes answers: a new row, whose number is the writer's. -/
def WBytes (M T : Nat) (v : Value) (w : World) (e : Ending) (w' : World) : Prop :=
  ∃ A c R bs, e = .returned (.slice A bs.length c) ∧ R < w'.heap.size + 1 ∧ (bs ≠ [] → w.heap.size ≤ R ∧ R < w'.heap.size) ∧ Row8 w' R A bs.length c bs ∧ num bs = M ∧ bs.length = (T + 7) / 8 ∧ Fr (fun k => some k = v.ownBlock) w w'
theorem own_bytes {w : World} {base : Nat} {v : Value} {bs : List Nat} (h : w.ownsRow base 5 1 v bs.length (bvs bs)) (hb : ∀ b ∈ bs, b < 256) : ∃ A c, v = .slice A bs.length c ∧ Bytes w A bs.length c bs := by
  obtain ⟨A, c, R, e, _, _, hr⟩ := Row8.of_own h hb
  exact ⟨A, c, e, hr.bytes⟩
theorem wbytes_any (B base M T : Nat) (v : Value) (w : World) (h : WD w B base v M T) (hT : T ≤ 1000000000) :
    Calls Try.prog 48 #[.pointer (some ⟨B, 0, none⟩)] w (WBytes M T v w) := by
  have H := Lib.hid h
  clear h
  go_enter Try.func48, Try.ntmps48
  go_wp2_with fail
  refine (filled_any B base M T v _ H.out hT).mono ?_
  rintro e w1 ⟨v', bs, rfl, hown, hb, hn, hl, hf⟩
  obtain ⟨A, c, rfl, hrow⟩ := own_bytes hown hb
  have HR := Lib.hid (And.intro hrow (And.intro hn (And.intro hl hf)))
  have hlen : bs.length ≤ 140737488355327 := by omega
  clear hown hb hn hl hf hrow
  go_wp2_with fail
  refine (clone_any bs bs.length c A _ HR.out.1 hlen).mono ?_
  rintro e w2 ⟨A', c', R, rfl, h1, h2, hrow, hbel⟩
  have H2 := Lib.hid (And.intro h1 (And.intro h2 (And.intro hrow hbel)))
  clear h1 h2 hrow hbel
  go_wp2
  go_ret
  obtain ⟨-, hn, hl, hf⟩ := HR.out
  obtain ⟨h1, h2, hrow, hbel⟩ := H2.out
  have := hf.size
  refine ⟨A', c', R, bs, rfl, h1, fun hne => ?_, hrow, hn, hl, hf.trans (Fr.of_below hbel) (fun j hj hle => by omega)⟩
  have := h2 (List.length_pos_iff.2 hne)
  omega
end Go.Proofs.Ytnjdnldoopgcpaa

