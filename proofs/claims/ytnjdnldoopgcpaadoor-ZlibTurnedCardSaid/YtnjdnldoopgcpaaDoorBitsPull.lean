/- The plain mathematics of bits: u32's or, and, shifts on whole numbers. No program stands in it. -/
import Derived.IntWalk
import Derived.WalkKit
import Derived.Test.YtnjdnldoopgcpaaDoorRows
import Derived.WalkSpells
import Derived.Outline
import Derived.Lib.Hide
import Derived.Below
import Derived.Deep.QuietTactic
import Derived.BigQuiet
import Derived.StillTailTactics
import Derived.Test.YtnjdnldoopgcpaaDoorMem
import Derived.BigRegion
import Derived.RegionTactic
import Derived.LoopTactic
import Derived.Deep.LoopGhost
namespace Go.Proofs.YtnjdnldoopgcpaaDoor
open Go.RowKit

theorem ofInt_u32 (a : Nat) (h : a < 4294967296) : (BitVec.ofInt 32 (a : Int)).toNat = a := by
  rw [BitVec.ofInt_natCast, BitVec.toNat_ofNat]; exact Nat.mod_eq_of_lt h
theorem wrap_u32 (a : Nat) (h : a < 4294967296) : IntKind.u32.wrap (a : Int) = a := by
  show ((BitVec.ofInt 32 (a : Int)).toNat : Int) = a
  rw [ofInt_u32 a h]
theorem u32_or (a b : Nat) (ha : a < 4294967296) (hb : b < 4294967296) : bits .or .u32 (a : Int) (b : Int) = ((a ||| b : Nat) : Int) := by
  have hx : a ||| b < 2 ^ 32 := Nat.or_lt_two_pow (by omega) (by omega)
  show IntKind.u32.wrap ((BitVec.ofInt 32 (a : Int) ||| BitVec.ofInt 32 (b : Int)).toNat : Int) = _
  rw [BitVec.toNat_or, ofInt_u32 a ha, ofInt_u32 b hb, wrap_u32 _ (by omega)]
theorem u32_and (a b : Nat) (ha : a < 4294967296) (hb : b < 4294967296) : bits .and .u32 (a : Int) (b : Int) = ((a &&& b : Nat) : Int) := by
  have hx : a &&& b < 2 ^ 32 := Nat.and_lt_two_pow _ (by omega)
  show IntKind.u32.wrap ((BitVec.ofInt 32 (a : Int) &&& BitVec.ofInt 32 (b : Int)).toNat : Int) = _
  rw [BitVec.toNat_and, ofInt_u32 a ha, ofInt_u32 b hb, wrap_u32 _ (by omega)]
theorem or_above (a y h : Nat) (ha : a < 2 ^ h) : a ||| y * 2 ^ h = a + y * 2 ^ h := by
  have := Nat.two_pow_add_eq_or_of_lt ha y
  rw [Nat.or_comm, Nat.mul_comm, ← this, Nat.add_comm]
/-- A byte behind the bits of a word. -/
theorem word_or (a y h : Nat) (ha : a < 2 ^ h) (hs : a + y * 2 ^ h < 4294967296) : bits .or .u32 (a : Int) ((y : Int) * 2 ^ h % 4294967296) = ((a + y * 2 ^ h : Nat) : Int) := by
  have e : (y : Int) * 2 ^ h % 4294967296 = ((y * 2 ^ h : Nat) : Int) := by
    have : (y : Int) * 2 ^ h = ((y * 2 ^ h : Nat) : Int) := by push_cast; rfl
    rw [this]; omega
  rw [e, u32_or a _ (by omega) (by omega), or_above a y h ha]
theorem u32_mask (a n : Nat) (ha : a < 4294967296) (hn : n ≤ 24) : bits .and .u32 (a : Int) (((2 ^ n - 1 : Nat)) : Int) = ((a % 2 ^ n : Nat) : Int) := by
  have h1 : 2 ^ n ≤ 2 ^ 24 := Nat.pow_le_pow_right (by omega) hn
  have h0 : 0 < 2 ^ n := Nat.two_pow_pos n
  rw [u32_and a _ ha (by omega), Nat.and_two_pow_sub_one_eq_mod]

theorem mask_val (a n : Nat) (ha : a < 4294967296) (hn : n ≤ 24) : wrap64 (bits .and .u32 (a : Int) (((2 : Int) ^ n - 1) % 4294967296)) = ((a % 2 ^ n : Nat) : Int) := by
  have h1 : 2 ^ n ≤ 2 ^ 24 := Nat.pow_le_pow_right (by omega) hn
  have h0 : 0 < 2 ^ n := Nat.two_pow_pos n
  have e : ((2 : Int) ^ n - 1) % 4294967296 = ((2 ^ n - 1 : Nat) : Int) := by
    have : (2 : Int) ^ n = ((2 ^ n : Nat) : Int) := by push_cast; rfl
    rw [this]; omega
  rw [e, u32_mask a n ha hn]
  have hlt : a % 2 ^ n < 2 ^ n := Nat.mod_lt _ h0
  exact IntWalk.wrap64_in _ ⟨by omega, by omega⟩

/-- The number of bytes, the first one lowest. -/
def num : List Nat → Nat
  | [] => 0
  | b :: l => b + 256 * num l
theorem pull_step (word held b m : Nat) : word + b * 2 ^ held + 2 ^ (held + 8) * m = word + 2 ^ held * (b + 256 * m) := by
  rw [Nat.pow_add, Nat.mul_add, Nat.mul_comm b, Nat.mul_assoc (2 ^ held) (2 ^ 8) m, Nat.add_assoc]
theorem word_lt (word held b : Nat) (h : word < 2 ^ held) (hb : b < 256) : word + b * 2 ^ held < 2 ^ (held + 8) := by
  have e : 2 ^ (held + 8) = 256 * 2 ^ held := by rw [Nat.pow_add, Nat.mul_comm]
  have h1 : b * 2 ^ held ≤ 255 * 2 ^ held := Nat.mul_le_mul_right _ (by omega)
  rw [e]
  omega
theorem split_mod (word held n m : Nat) (hn : n ≤ held) : (word + 2 ^ held * m) % 2 ^ n = word % 2 ^ n := by
  obtain ⟨k, rfl⟩ : ∃ k, held = n + k := ⟨held - n, by omega⟩
  rw [Nat.pow_add, Nat.mul_assoc, Nat.add_mul_mod_self_left]
theorem split_div (word held n m : Nat) (hn : n ≤ held) : (word + 2 ^ held * m) / 2 ^ n = word / 2 ^ n + 2 ^ (held - n) * m := by
  obtain ⟨k, rfl⟩ : ∃ k, held = n + k := ⟨held - n, by omega⟩
  rw [Nat.pow_add, Nat.mul_assoc, Nat.add_mul_div_left _ _ (Nat.two_pow_pos n), Nat.add_sub_cancel_left]
theorem shr_lt (word held n : Nat) (h : word < 2 ^ held) (hn : n ≤ held) : word / 2 ^ n < 2 ^ (held - n) := by
  obtain ⟨k, rfl⟩ : ∃ k, held = n + k := ⟨held - n, by omega⟩
  rw [Nat.add_sub_cancel_left, Nat.div_lt_iff_lt_mul (Nat.two_pow_pos n), Nat.mul_comm, ← Nat.pow_add]
  exact h
theorem num_append (a : List Nat) (b : Nat) : num (a ++ [b]) = num a + 256 ^ a.length * b := by
  induction a with
  | nil => simp [num]
  | cons x l ih =>
    simp only [List.cons_append, num, ih, List.length_cons, Nat.pow_succ]
    rw [Nat.mul_add, Nat.mul_comm (256 ^ l.length) 256, Nat.mul_assoc]
    omega
theorem flush_step (bs : List Nat) (word : Nat) : num (bs ++ [word % 256]) + 256 ^ (bs.length + 1) * (word / 256) = num bs + 256 ^ bs.length * word := by
  rw [num_append, Nat.pow_succ, Nat.mul_assoc, Nat.add_assoc, ← Nat.mul_add]
  congr 2
  have := Nat.div_add_mod word 256
  omega
theorem put_word (n len held word V : Nat) : n + 256 ^ len * (word + V * 2 ^ held) = n + 256 ^ len * word + 2 ^ (8 * len + held) * V := by
  rw [Nat.mul_add, Nat.add_assoc, Nat.pow_add, Nat.pow_mul, Nat.mul_comm V, Nat.mul_assoc]
theorem flush_lt (word held : Nat) (h : word < 2 ^ held) (h8 : 8 ≤ held) : word / 256 < 2 ^ (held - 8) := shr_lt word held 8 h h8
end Go.Proofs.YtnjdnldoopgcpaaDoor
/- The walk of a reader's Left. -/
namespace Go.Proofs.YtnjdnldoopgcpaaDoor
open Go.RowKit

/-- A reader's three cells: the bytes that are not in the word yet, the word, how many bits it holds. -/
def RIn (w : World) (B : Nat) (a : Option Addr) (n c : Nat) (word held : Int) : Prop :=
  w.cell? ⟨B, 0, none⟩ = some (.slice a n c) ∧ w.cell? ⟨B, 1, none⟩ = some (.int .u32 word) ∧ w.cell? ⟨B, 2, none⟩ = some (.int .i64 held)
theorem rleft_any (B : Nat) (a : Option Addr) (n c : Nat) (word held : Int) (w : World) (h : RIn w B a n c word held) (hn : n ≤ 1000000000000000000) (h0 : 0 ≤ held) (h1 : held ≤ 32) :
    Calls Tryd.prog 31 #[.pointer (some ⟨B, 0, none⟩)] w fun e w' => e = .returned (.int .i64 (n * 8 + held)) ∧ ∃ k, w' = w.drewN k := by
  obtain ⟨c0, c1, c2⟩ := h
  go_enter Tryd.func31, Tryd.ntmps31
  go_wp2_with fail
  go_quiet (fail)
  go_wp2
  go_ret
  exact ⟨rfl, _, rfl⟩
end Go.Proofs.YtnjdnldoopgcpaaDoor
/- The walk of a reader's pull. -/
namespace Go.Proofs.YtnjdnldoopgcpaaDoor
open Go.RowKit

/-- A reader's three cells, its word and its bytes: 'm' bits of the word, 'bs' the bytes behind it. -/
structure RS (w : World) (B R : Nat) (A : Option Addr) (n c word held : Nat) (bs : List Nat) : Prop where
  whole : Whole w B 104 #[.slice A n c, .int .u32 word, .int .i64 held]
  len : bs.length = n
  cap : n ≤ c
  top : n ≤ 1000000000000000 ∧ c ≤ 9223372036854775807
  byte : ∀ b ∈ bs, b < 256
  low : word < 2 ^ held
  rest : 0 < n → ∃ o cur, A = some ⟨R, o, none⟩ ∧ Whole w R 5 cur ∧ ∀ (i b : Nat), bs[i]? = some b → cur[o + i]? = some (.int .u8 b)
theorem RS.drewN {w : World} {B R : Nat} {A : Option Addr} {n c word held : Nat} {bs : List Nat} (h : RS w B R A n c word held bs) (j : Nat) : RS (w.drewN j) B R A n c word held bs := ⟨h.whole, h.len, h.cap, h.top, h.byte, h.low, h.rest⟩

theorem set3 (p q r x y z : Value) : ((#[p, q, r].setIfInBounds 1 x).setIfInBounds 0 y).setIfInBounds 2 z = #[y, x, z] := by simp
theorem RS.step {w : World} {B R o gk c word held b : Nat} {bs : List Nat} (h : RS w B R (some ⟨R, o, none⟩) gk c word held (b :: bs)) (hh : held ≤ 23) {A : Option Addr} {cc : Nat} {x y : Int}
    (hA : 0 < gk - 1 → A = some ⟨R, o + 1, none⟩) (hc : cc = c - 1)
    (hx : x = bits .or .u32 (word : Int) ((b : Int) * 2 ^ held % 4294967296)) (hy : y = (held : Int) + 8) :
    RS ((((w.setCell ⟨B, 1, none⟩ (.int .u32 x)).setCell ⟨B, 0, none⟩ (.slice A (gk - 1) cc)).setCell ⟨B, 2, none⟩ (.int .i64 y)).drew) B R A (gk - 1) cc (word + b * 2 ^ held) (held + 8) bs := by
  have hl := h.len
  simp at hl
  have hb := h.byte b (by simp)
  have hp : word + b * 2 ^ held < 2 ^ (held + 8) := word_lt word held b h.low hb
  have h31 : (2 : Nat) ^ (held + 8) ≤ 2 ^ 31 := Nat.pow_le_pow_right (by omega) (by omega)
  obtain rfl : x = ((word + b * 2 ^ held : Nat) : Int) := hx.trans (word_or word b held h.low (by omega))
  obtain rfl : y = ((held + 8 : Nat) : Int) := by omega
  have hcap := h.cap
  have htop := h.top
  have hw := ((h.whole.set 1 (.int .u32 ((word + b * 2 ^ held : Nat) : Int))).set 0 (.slice A (gk - 1) cc)).set 2 (.int .i64 ((held + 8 : Nat) : Int))
  rw [set3] at hw
  refine ⟨hw.drawn1, by omega, by omega, ⟨by omega, by omega⟩, fun z hz => h.byte z (List.mem_cons_of_mem _ hz), hp, fun hn => ?_⟩
  obtain ⟨o', cur, e, hR, hcur⟩ := h.rest (by omega)
  injection e with e
  injection e with _ e2
  subst e2
  have hne : R ≠ B := hR.apart h.whole (by decide)
  refine ⟨o + 1, cur, hA hn, (((hR.away (p := ⟨B, 1, none⟩) hne _).away (p := ⟨B, 0, none⟩) hne _).away (p := ⟨B, 2, none⟩) hne _).drawn1, fun i z hz => ?_⟩
  have := hcur (i + 1) z (by simpa using hz)
  rw [show o + 1 + i = o + (i + 1) by omega]
  exact this
theorem only3 {a w : World} {B : Nat} (h : a.grownBy w (some B)) (i j k : Nat) (x y z : Value) : a.grownBy ((((w.setCell ⟨B, i, none⟩ x).setCell ⟨B, j, none⟩ y).setCell ⟨B, k, none⟩ z).drew) (some B) :=
  only_drew (only_set (only_set (only_set h (.inl rfl) _) (.inl rfl) _) (.inl rfl) _)
theorem RS.cells {w : World} {B R : Nat} {A : Option Addr} {n c word held : Nat} {bs : List Nat} (h : RS w B R A n c word held bs) :
    w.cell? ⟨B, 0, none⟩ = some (.slice A n c) ∧ w.cell? ⟨B, 1, none⟩ = some (.int .u32 word) ∧ w.cell? ⟨B, 2, none⟩ = some (.int .i64 held) ∧ (∀ i, w.frozen? ⟨B, i, none⟩ = false) :=
  ⟨by rw [h.whole.reads 0]; rfl, by rw [h.whole.reads 1]; rfl, by rw [h.whole.reads 2]; rfl, h.whole.thawed⟩
theorem RS.word {w : World} {B R : Nat} {A : Option Addr} {n c word held : Nat} {bs : List Nat} (h : RS w B R A n c word held bs) (hh : held ≤ 31) : word < 4294967296 :=
  Nat.lt_of_lt_of_le h.low (Nat.le_trans (Nat.pow_le_pow_right (by omega) hh) (by decide))

theorem set2 (p q r x y : Value) : (#[p, q, r].setIfInBounds 1 x).setIfInBounds 2 y = #[p, x, y] := by simp
theorem Int.natCast_ediv_pow (a k : Nat) : (a : Int) / 2 ^ k = ((a / 2 ^ k : Nat) : Int) := by push_cast; rfl
theorem RS.cut {w : World} {B R gk c word held k : Nat} {A : Option Addr} {bs : List Nat} (h : RS w B R A gk c word held bs) (hk : k ≤ held) {x y : Int} (hx : x = ((word / 2 ^ k : Nat) : Int)) (hy : y = (held : Int) - k) :
    RS (((w.setCell ⟨B, 1, none⟩ (.int .u32 x)).setCell ⟨B, 2, none⟩ (.int .i64 y)).drew) B R A gk c (word / 2 ^ k) (held - k) bs := by
  subst hx
  obtain rfl : y = ((held - k : Nat) : Int) := by omega
  have hw := (h.whole.set 1 (.int .u32 ((word / 2 ^ k : Nat) : Int))).set 2 (.int .i64 ((held - k : Nat) : Int))
  rw [set2] at hw
  refine ⟨hw.drawn1, h.len, h.cap, h.top, h.byte, shr_lt word held k h.low hk, fun hn => ?_⟩
  obtain ⟨o, cur, e, hR, hcur⟩ := h.rest hn
  have hne : R ≠ B := hR.apart h.whole (by decide)
  exact ⟨o, cur, e, ((hR.away (p := ⟨B, 1, none⟩) hne _).away (p := ⟨B, 2, none⟩) hne _).drawn1, hcur⟩
theorem only2 {a w : World} {B : Nat} (h : a.grownBy w (some B)) (i j : Nat) (x y : Value) : a.grownBy (((w.setCell ⟨B, i, none⟩ x).setCell ⟨B, j, none⟩ y).drew) (some B) :=
  only_drew (only_set (only_set h (.inl rfl) _) (.inl rfl) _)

/-- A reader in block B that holds the number N of L bits, the first one lowest; its bytes lie in block R. -/
def RD (w : World) (B R N L : Nat) : Prop := ∃ (A : Option Addr) (n c word held : Nat) (bs : List Nat), RS w B R A n c word held bs ∧ held ≤ 7 ∧ N = word + 2 ^ held * num bs ∧ L = held + 8 * n
/-- What a call answers that takes k bits of the number N of L. -/
def Took (B R N L : Nat) (w : World) (v : Value) (k : Nat) (e : Ending) (w' : World) : Prop := e = .returned v ∧ RD w' B R (N / 2 ^ k) (L - k) ∧ w.grownBy w' (some B)

set_option maxRecDepth 100000 in
set_option maxHeartbeats 4000000 in
theorem pull_any (B R N L k : Nat) (w : World) (h : RD w B R N L) (hk : k ≤ 24) (hL : k ≤ L) :
    Calls Tryd.prog 99 #[.pointer (some ⟨B, 0, none⟩), .int .i64 k] w (Took B R N L w (.int .i64 (N % 2 ^ k : Nat)) k) := by
  obtain ⟨A, n, c, word, held, bs, h, hh, rfl, rfl⟩ := h
  have H := Lib.hid h
  clear h
  go_enter Tryd.func99, Tryd.ntmps99
  go_wp2
  go_loopg [6] n (fun g _ wr => ∃ (A' : Option Addr) (c' word' held' : Nat) (bs' : List Nat), RS wr B R A' g c' word' held' bs' ∧ held' ≤ k + 7 ∧ held' + 8 * g = held + 8 * n ∧ word' + 2 ^ held' * num bs' = word + 2 ^ held * num bs ∧ w.grownBy wr (some B))
  case atStart => exact ⟨A, c, word, held, bs, H.out, by omega, rfl, rfl, World.grownBy.refl _ _⟩
  case round =>
    obtain ⟨A', c', word', held', bs', hr, hh1, hh2, hN, hg⟩ := hrel
    obtain ⟨c0, c1, c2, hf⟩ := hr.cells
    have f0 := hf 0
    have f1 := hf 1
    have f2 := hf 2
    have hw := hr.word (by omega)
    have hcap := hr.cap
    have htop := hr.top
    have HN := Lib.hid hN
    have HG := Lib.hid hg
    clear hN hg hf
    by_cases hlt : held' < k
    · have hgk : 0 < gk := by omega
      obtain ⟨o, cur, rfl, hR, hcur⟩ := hr.rest hgk
      obtain ⟨b, bs2, rfl⟩ : ∃ b bs2, bs' = b :: bs2 := by
        cases bs' with
        | nil => have := hr.len; simp at this; omega
        | cons b bs2 => exact ⟨b, bs2, rfl⟩
      have hb : b < 256 := hr.byte b (by simp)
      have hy : wr.cell? ⟨R, o, none⟩ = some (.int .u8 b) := by rw [hR.reads]; exact hcur 0 b rfl
      have hRB : R ≠ B := hR.apart hr.whole (by decide)
      have HR := Lib.hid hr
      clear hr hR hcur
      go_wp2
      go_region
      go_wp2
      all_goals
        go_roundg (gk - 1)
        case measure => omega
        case rel => exact ⟨_, _, _, _, _, RS.step HR.out (by omega) (fun hn => by first | rfl | omega) (by omega) rfl rfl, by omega, by omega, (pull_step word' held' b (num bs2)).trans HN.out, only3 HG.out _ _ _ _ _ _⟩
    · go_wp2
      go_region
      go_wp2
      go_ret
      refine ⟨congrArg Ending.returned (congrArg (Value.int .i64) ?_), ⟨A', gk, c', word' / 2 ^ k, held' - k, bs', RS.cut hr (by omega) (Int.natCast_ediv_pow word' k) rfl, by omega, ?_, by omega⟩, only2 HG.out _ _ _ _⟩
      · rw [← HN.out, split_mod word' held' k _ (by omega)]
        exact mask_val word' k hw hk
      · rw [← HN.out, split_div word' held' k _ (by omega)]
end Go.Proofs.YtnjdnldoopgcpaaDoor
