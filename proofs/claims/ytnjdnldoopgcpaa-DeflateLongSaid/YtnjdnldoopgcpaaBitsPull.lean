/- The plain mathematics of bits: u32's or, and, shifts on whole numbers. No program stands in it. -/
import Derived.IntWalk
import Derived.WalkKit
import Derived.Test.YtnjdnldoopgcpaaRows
import Derived.WalkSpells
import Derived.Outline
import Derived.Lib.Hide
import Derived.Below
import Derived.Deep.QuietTactic
import Derived.BigQuiet
import Derived.StillTailTactics
import Derived.Test.YtnjdnldoopgcpaaMem
import Derived.BigRegion
import Derived.RegionTactic
import Derived.LoopTactic
import Derived.Deep.LoopGhost
namespace Go.Proofs.Ytnjdnldoopgcpaa
open Go.RowKit

theorem ofInt_u32 (a : Nat) (h : a < 4294967296) : (BitVec.ofInt 32 (a : Int)).toNat = a := by
  rw [BitVec.ofInt_natCast, BitVec.toNat_ofNat]; exact Nat.mod_eq_of_lt h
theorem wrap_u32 (a : Nat) (h : a < 4294967296) : IntKind.u32.wrap (a : Int) = a := by
  show ((BitVec.ofInt 32 (a : Int)).toNat : Int) = a
  rw [ofInt_u32 a h]
theorem u32_or (a b : Nat) (ha : a < 4294967296) (hb : b < 4294967296) : bits .or .u32 (a : Int) (b : Int) = ((a ||| b : Nat) : Int) := by
  have hx : a ||| b < 2 ^ 32 := Nat.or_lt_two_pow (by omega) (by omega)
  show IntKind.u32.wrap ((BitVec.ofInt 32 (a : Int) ||| BitVec.ofInt 32 (b : Int)).toNat : Int) = _
  rw [BitVec.toNat_or, ofInt_u32 a ha, ofInt_u32 b hb, wrap_u32 _ (by omega)]
theorem u32_and (a b : Nat) (ha : a < 4294967296) (hb : b < 4294967296) : bits .and .u32 (a : Int) (b : Int) = ((a &&& b : Nat) : Int) := by
  have hx : a &&& b < 2 ^ 32 := Nat.and_lt_two_pow _ (by omega)
  show IntKind.u32.wrap ((BitVec.ofInt 32 (a : Int) &&& BitVec.ofInt 32 (b : Int)).toNat : Int) = _
  rw [BitVec.toNat_and, ofInt_u32 a ha, ofInt_u32 b hb, wrap_u32 _ (by omega)]
theorem or_above (a y h : Nat) (ha : a < 2 ^ h) : a ||| y * 2 ^ h = a + y * 2 ^ h := by
  have := Nat.two_pow_add_eq_or_of_lt ha y
  rw [Nat.or_comm, Nat.mul_comm, ← this, Nat.add_comm]
/-- A byte behind the bits of a word. -/
theorem word_or (a y h : Nat) (ha : a < 2 ^ h) (hs : a + y * 2 ^ h < 4294967296) : bits .or .u32 (a : Int) ((y : Int) * 2 ^ h % 4294967296) = ((a + y * 2 ^ h : Nat) : Int) := by
  have e : (y : Int) * 2 ^ h % 4294967296 = ((y * 2 ^ h : Nat) : Int) := by
    have : (y : Int) * 2 ^ h = ((y * 2 ^ h : Nat) : Int) := by push_cast; rfl
    rw [this]; omega
  rw [e, u32_or a _ (by omega) (by omega), or_above a y h ha]
theorem u32_mask (a n : Nat) (ha : a < 4294967296) (hn : n ≤ 24) : bits .and .u32 (a : Int) (((2 ^ n - 1 : Nat)) : Int) = ((a % 2 ^ n : Nat) : Int) := by
  have h1 : 2 ^ n ≤ 2 ^ 24 := Nat.pow_le_pow_right (by omega) hn
  have h0 : 0 < 2 ^ n := Nat.two_pow_pos n
  rw [u32_and a _ ha (by omega), Nat.and_two_pow_sub_one_eq_mod]

theorem mask_val (a n : Nat) (ha : a < 4294967296) (hn : n ≤ 24) : wrap64 (bits .and .u32 (a : Int) (((2 : Int) ^ n - 1) % 4294967296)) = ((a % 2 ^ n : Nat) : Int) := by
  have h1 : 2 ^ n ≤ 2 ^ 24 := Nat.pow_le_pow_right (by omega) hn
  have h0 : 0 < 2 ^ n := Nat.two_pow_pos n
  have e : ((2 : Int) ^ n - 1) % 4294967296 = ((2 ^ n - 1 : Nat) : Int) := by
    have : (2 : Int) ^ n = ((2 ^ n : Nat) : Int) := by push_cast; rfl
    rw [this]; omega
  rw [e, u32_mask a n ha hn]
  have hlt : a % 2 ^ n < 2 ^ n := Nat.mod_lt _ h0
  exact IntWalk.wrap64_in _ ⟨by omega, by omega⟩

/-- The number of bytes, the first one lowest. -/
def num : List Nat → Nat
  | [] => 0
  | b :: l => b + 256 * num l
theorem pull_step (word held b m : Nat) : word + b * 2 ^ held + 2 ^ (held + 8) * m = word + 2 ^ held * (b + 256 * m) := by
  rw [Nat.pow_add, Nat.mul_add, Nat.mul_comm b, Nat.mul_assoc (2 ^ held) (2 ^ 8) m, Nat.add_assoc]
theorem word_lt (word held b : Nat) (h : word < 2 ^ held) (hb : b < 256) : word + b * 2 ^ held < 2 ^ (held + 8) := by
  have e : 2 ^ (held + 8) = 256 * 2 ^ held := by rw [Nat.pow_add, Nat.mul_comm]
  have h1 : b * 2 ^ held ≤ 255 * 2 ^ held := Nat.mul_le_mul_right _ (by omega)
  rw [e]
  omega
theorem split_mod (word held n m : Nat) (hn : n ≤ held) : (word + 2 ^ held * m) % 2 ^ n = word % 2 ^ n := by
  obtain ⟨k, rfl⟩ : ∃ k, held = n + k := ⟨held - n, by omega⟩
  rw [Nat.pow_add, Nat.mul_assoc, Nat.add_mul_mod_self_left]
theorem split_div (word held n m : Nat) (hn : n ≤ held) : (word + 2 ^ held * m) / 2 ^ n = word / 2 ^ n + 2 ^ (held - n) * m := by
  obtain ⟨k, rfl⟩ : ∃ k, held = n + k := ⟨held - n, by omega⟩
  rw [Nat.pow_add, Nat.mul_assoc, Nat.add_mul_div_left _ _ (Nat.two_pow_pos n), Nat.add_sub_cancel_left]
theorem shr_lt (word held n : Nat) (h : word < 2 ^ held) (hn : n ≤ held) : word / 2 ^ n < 2 ^ (held - n) := by
  obtain ⟨k, rfl⟩ : ∃ k, held = n + k := ⟨held - n, by omega⟩
  rw [Nat.add_sub_cancel_left, Nat.div_lt_iff_lt_mul (Nat.two_pow_pos n), Nat.mul_comm, ← Nat.pow_add]
  exact h
theorem num_append (a : List Nat) (b : Nat) : num (a ++ [b]) = num a + 256 ^ a.length * b := by
  induction a with
  | nil => simp [num]
  | cons x l ih =>
    simp only [List.cons_append, num, ih, List.length_cons, Nat.pow_succ]
    rw [Nat.mul_add, Nat.mul_comm (256 ^ l.length) 256, Nat.mul_assoc]
    omega
theorem flush_step (bs : List Nat) (word : Nat) : num (bs ++ [word % 256]) + 256 ^ (bs.length + 1) * (word / 256) = num bs + 256 ^ bs.length * word := by
  rw [num_append, Nat.pow_succ, Nat.mul_assoc, Nat.add_assoc, ← Nat.mul_add]
  congr 2
  have := Nat.div_add_mod word 256
  omega
theorem put_word (n len held word V : Nat) : n + 256 ^ len * (word + V * 2 ^ held) = n + 256 ^ len * word + 2 ^ (8 * len + held) * V := by
  rw [Nat.mul_add, Nat.add_assoc, Nat.pow_add, Nat.pow_mul, Nat.mul_comm V, Nat.mul_assoc]
theorem flush_lt (word held : Nat) (h : word < 2 ^ held) (h8 : 8 ≤ held) : word / 256 < 2 ^ (held - 8) := shr_lt word held 8 h h8
end Go.Proofs.Ytnjdnldoopgcpaa
/- The walk of a reader's Left. -/
namespace Go.Proofs.Ytnjdnldoopgcpaa
open Go.RowKit

/-- A reader's three cells: the bytes that are not in the word yet, the word, how many bits it holds. -/
def RIn (w : World) (B : Nat) (a : Option Addr) (n c : Nat) (word held : Int) : Prop :=
  w.cell? ⟨B, 0, none⟩ = some (.slice a n c) ∧ w.cell? ⟨B, 1, none⟩ = some (.int .u32 word) ∧ w.cell? ⟨B, 2, none⟩ = some (.int .i64 held)
end Go.Proofs.Ytnjdnldoopgcpaa
/- The walk of a reader's pull. -/
namespace Go.Proofs.Ytnjdnldoopgcpaa
open Go.RowKit

theorem set3 (p q r x y z : Value) : ((#[p, q, r].setIfInBounds 1 x).setIfInBounds 0 y).setIfInBounds 2 z = #[y, x, z] := by simp
theorem only3 {a w : World} {B : Nat} (h : a.grownBy w (some B)) (i j k : Nat) (x y z : Value) : a.grownBy ((((w.setCell ⟨B, i, none⟩ x).setCell ⟨B, j, none⟩ y).setCell ⟨B, k, none⟩ z).drew) (some B) :=
  only_drew (only_set (only_set (only_set h (.inl rfl) _) (.inl rfl) _) (.inl rfl) _)
theorem set2 (p q r x y : Value) : (#[p, q, r].setIfInBounds 1 x).setIfInBounds 2 y = #[p, x, y] := by simp
theorem Int.natCast_ediv_pow (a k : Nat) : (a : Int) / 2 ^ k = ((a / 2 ^ k : Nat) : Int) := by push_cast; rfl
theorem only2 {a w : World} {B : Nat} (h : a.grownBy w (some B)) (i j : Nat) (x y : Value) : a.grownBy (((w.setCell ⟨B, i, none⟩ x).setCell ⟨B, j, none⟩ y).drew) (some B) :=
  only_drew (only_set (only_set h (.inl rfl) _) (.inl rfl) _)

end Go.Proofs.Ytnjdnldoopgcpaa

