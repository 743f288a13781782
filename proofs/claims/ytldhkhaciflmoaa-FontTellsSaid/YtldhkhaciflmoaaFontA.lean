/- font: the small questions: is a number a width, is it a code, is a text one; how long are codes. -/
import Derived.Test.YtldhkhaciflmoaaMem
import Derived.Test.YtldhkhaciflmoaaRows
import Derived.WalkKit
import Derived.WalkSpells
import Derived.Outline
import Derived.Lib.Hide
import Derived.Lib.SliceRun
import Derived.Deep.QuietTactic
import Derived.BigQuiet
import Derived.Lib.Strings
namespace Go.Proofs.Ytldhkhaciflmoaa
open Go.RowKit

/-- May a number be a code? -/
def codeB (wd : Bool) (x : Int) : Bool := decide (0 ≤ x ∧ x < (if wd then 65536 else 256))
def widthB (x : Int) : Bool := decide (0 ≤ x ∧ x ≤ 10000)
def textB (s : ByteArray) : Bool := decide (0 < s.size ∧ s.size ≤ 16 ∧ s.size % 2 = 0)
theorem ret_b {a b : Bool} (h : a = b) : Ending.returned (.bool a) = .returned (.bool b) := by rw [h]
theorem dec_t {p : Prop} [Decidable p] (h : p) : true = decide p := (decide_eq_true h).symm
theorem dec_f {p : Prop} [Decidable p] (h : ¬ p) : false = decide p := (decide_eq_false h).symm
theorem isWidth_any (x : Int) (w : World) : Calls Try.prog 28 #[.int .i64 x] w fun e w' => e = .returned (.bool (widthB x)) ∧ w = w' := by
  by_cases h0 : 0 ≤ x
  · by_cases h1 : x ≤ 10000
    all_goals
      go_enter Try.func28, Try.ntmps28
      go_wp2
      go_ret
      exact ⟨ret_b (by first | exact dec_t (by omega) | exact dec_f (by omega)), rfl⟩
  · go_enter Try.func28, Try.ntmps28
    go_wp2
    go_ret
    exact ⟨ret_b (dec_f (by omega)), rfl⟩
theorem isCode_any (wd : Bool) (A : Option Addr) (n c : Nat) (ot x : Int) (w : World) : Calls Try.prog 29 #[.agg #[.bool wd, .slice A n c, .int .i64 ot], .int .i64 x] w fun e w' => e = .returned (.bool (codeB wd x)) ∧ Below w.heap.size w w' := by
  cases wd
  · by_cases h0 : 0 ≤ x
    · by_cases h1 : x < 256
      all_goals
        go_enter Try.func29, Try.ntmps29
        go_wp2
        go_ret
        exact ⟨ret_b (by first | exact dec_t (by simp; omega) | exact dec_f (by simp; omega)), (Below.refl _ _).alloc (Nat.le_refl _) _⟩
    · go_enter Try.func29, Try.ntmps29
      go_wp2
      go_ret
      exact ⟨ret_b (dec_f (by simp; omega)), (Below.refl _ _).alloc (Nat.le_refl _) _⟩
  · by_cases h0 : 0 ≤ x
    · by_cases h1 : x < 65536
      all_goals
        go_enter Try.func29, Try.ntmps29
        go_wp2
        go_ret
        exact ⟨ret_b (by first | exact dec_t (by simp; omega) | exact dec_f (by simp; omega)), (Below.refl _ _).alloc (Nat.le_refl _) _⟩
    · go_enter Try.func29, Try.ntmps29
      go_wp2
      go_ret
      exact ⟨ret_b (dec_f (by simp; omega)), (Below.refl _ _).alloc (Nat.le_refl _) _⟩
def sizeOfCodes (wd : Bool) : Nat := if wd then 2 else 1
theorem codeSize_any (wd : Bool) (A : Option Addr) (n c : Nat) (ot : Int) (w : World) : Calls Try.prog 22 #[.agg #[.bool wd, .slice A n c, .int .i64 ot]] w fun e w' => e = .returned (.int .i64 (sizeOfCodes wd : Nat)) ∧ Below w.heap.size w w' := by
  cases wd
  all_goals
    go_enter Try.func22, Try.ntmps22
    go_wp2
    go_ret
    exact ⟨rfl, (Below.refl _ _).alloc (Nat.le_refl _) _⟩
theorem full_text {s : ByteArray} (h0 : 0 < s.size) : s.toList.isEmpty = false := by
  rw [Lib.toList_data]
  have : s.data.size = s.size := rfl
  cases h : s.data.toList with
  | nil => rw [← Array.length_toList, h] at this; simp at this; omega
  | cons a l => rfl
theorem isText_any (s : ByteArray) (w : World) (hs : s.size ≤ 9223372036854775807) (h0 : 0 < s.size) : Calls Try.prog 30 #[.string s] w fun e w' => e = .returned (.bool (textB s)) ∧ w = w' := by
  have e1 := full_text h0
  by_cases h1 : s.size ≤ 16
  · go_enter Try.func30, Try.ntmps30
    go_wp2
    go_ret
    exact ⟨ret_b (by rw [Bool.eq_iff_iff, beq_iff_eq]; unfold textB; rw [decide_eq_true_iff]; omega), rfl⟩
  · go_enter Try.func30, Try.ntmps30
    go_wp2
    go_ret
    exact ⟨ret_b (dec_f (by omega)), rfl⟩
end Go.Proofs.Ytldhkhaciflmoaa
