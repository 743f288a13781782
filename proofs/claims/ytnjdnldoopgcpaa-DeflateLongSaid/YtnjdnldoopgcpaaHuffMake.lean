/- huff's Make: the lengths that no table takes. -/
import Derived.Test.YtnjdnldoopgcpaaHuffPut
namespace Go.Proofs.Ytnjdnldoopgcpaa
open Go.RowKit

/-- Do these lengths leave no bits without a meaning, or is one code of one bit all there is? -/
def sumOk (l : List Int) : Prop := share (natsOf l) l.length = 32768 ∨ share (natsOf l) l.length = 0 ∨ (cnt (natsOf l) 1 l.length = 1 ∧ share (natsOf l) l.length = 16384)
set_option maxRecDepth 100000 in
set_option maxHeartbeats 4000000 in
theorem make_bad (A : Option Addr) (n c : Nat) (l : List Int) (w : World) (h : IntsAt w A n c l) (hbad : ¬ (lensOk l ∧ sumOk l)) :
    Calls Try.prog 43 #[.slice A n c] w fun e w' => ((¬ lensOk l ∧ e = .returned (.tuple #[.pointer none, .int .i64 1])) ∨ (lensOk l ∧ e = .returned (.tuple #[.pointer none, .int .i64 4]))) ∧ Below w.heap.size w w' := by
  have hl := h.len
  subst hl
  have hcap := h.cap
  have htop := h.top
  have hm := measure_any A l.length c l (w.alloc (.cells #[.slice A l.length c] 50)) (h.below ((Below.refl _ _).alloc (Nat.le_refl _) _))
  have HB := Lib.hid hbad
  have HM := Lib.hid hm
  clear h hm hbad
  go_enter Try.func43, Try.ntmps43
  go_wp2_with fail
  refine HM.out.mono ?_
  rintro e w1 ⟨hb, h⟩
  have HL := Lib.hid (((Below.refl w.heap.size w).alloc (Nat.le_refl _) (.cells #[.slice A l.length c] 50)).trans (hb.mono (by simp)))
  clear hb
  rcases h with ⟨hno, rfl⟩ | ⟨hok, hov, rfl⟩ | ⟨hok, hle, rfl⟩
  · have HX := Lib.hid hno
    clear hno
    go_wp2
    go_ret2
    exact ⟨.inl ⟨HX.out, rfl⟩, HL.out.alloc HL.out.size _⟩
  · have HX := Lib.hid (And.intro hok hov)
    clear hok hov
    go_wp2
    go_ret2
    exact ⟨.inr ⟨HX.out.1, rfl⟩, HL.out.alloc HL.out.size _⟩
  · have hns : ¬ sumOk l := fun h => HB.out ⟨hok, h⟩
    have h1 : ¬ share (natsOf l) l.length = 32768 := fun h => hns (.inl h)
    have h2 : ¬ share (natsOf l) l.length = 0 := fun h => hns (.inr (.inl h))
    have h3 : ¬ (cnt (natsOf l) 1 l.length = 1 ∧ share (natsOf l) l.length = 16384) := fun h => hns (.inr (.inr h))
    have HX := Lib.hid (And.intro hok hle)
    clear hok hle hns
    have hall : (cntArr (natsOf l) l.length).all (·.oneCell') = true := by
      rw [Array.all_eq_true_iff_forall_mem]
      intro x hx
      simp [cntArr] at hx
      obtain ⟨k, -, rfl⟩ := hx
      rfl
    have HA := Lib.hid hall
    clear hall
    have hw := Whole.made w1 97 #[.int .i64 0, .int .i64 0, .int .i64 0, .int .i64 0, .int .i64 0, .int .i64 0, .int .i64 0, .int .i64 0, .int .i64 0, .int .i64 0, .int .i64 0, .int .i64 0, .int .i64 0, .int .i64 0, .int .i64 0, .int .i64 0]
    have cg : ((w1.alloc (.cells #[.int .i64 0, .int .i64 0, .int .i64 0, .int .i64 0, .int .i64 0, .int .i64 0, .int .i64 0, .int .i64 0, .int .i64 0, .int .i64 0, .int .i64 0, .int .i64 0, .int .i64 0, .int .i64 0, .int .i64 0, .int .i64 0] 97)).setRow w1.heap.size (cntArr (natsOf l) l.length)).cell? ⟨w1.heap.size, 1, none⟩ = some (.int .i64 (cnt (natsOf l) 1 l.length : Int)) := by
      rw [(setRow_whole (cntArr (natsOf l) l.length) hw).reads]
      exact cntArr_at _ _ _ (by omega)
    have HW := Lib.hid hw
    clear hw
    have b1 : ((share (natsOf l) l.length : Int) != 32768) = true := by simp; omega
    have b2 : ((share (natsOf l) l.length : Int) != 0) = true := by simp; omega
    by_cases hc : cnt (natsOf l) 1 l.length = 1
    · have h4 : ¬ share (natsOf l) l.length = 16384 := fun h => h3 ⟨hc, h⟩
      have b4 : ((share (natsOf l) l.length : Int) == 16384) = false := by simp; omega
      rw [hc] at cg
      clear h3
      go_wp2_with (refine wpList_store_row rfl _ _ _ rfl w1.heap.size (cntArr (natsOf l) l.length) rfl rfl 97 #[.int .i64 0, .int .i64 0, .int .i64 0, .int .i64 0, .int .i64 0, .int .i64 0, .int .i64 0, .int .i64 0, .int .i64 0, .int .i64 0, .int .i64 0, .int .i64 0, .int .i64 0, .int .i64 0, .int .i64 0, .int .i64 0] HW.out (by rw [cntArr_size]; exact sizeC) (by rw [cntArr_size]; rfl) HA.out ?_)
      go_ret2
      exact ⟨.inr ⟨HX.out.1, rfl⟩, (HL.out.alloc HL.out.size _).trans (setRow_below _ _ HL.out.size)⟩
    · have b4 : ((cnt (natsOf l) 1 l.length : Int) == 1) = false := by simp; omega
      clear h3
      go_wp2_with (refine wpList_store_row rfl _ _ _ rfl w1.heap.size (cntArr (natsOf l) l.length) rfl rfl 97 #[.int .i64 0, .int .i64 0, .int .i64 0, .int .i64 0, .int .i64 0, .int .i64 0, .int .i64 0, .int .i64 0, .int .i64 0, .int .i64 0, .int .i64 0, .int .i64 0, .int .i64 0, .int .i64 0, .int .i64 0, .int .i64 0] HW.out (by rw [cntArr_size]; exact sizeC) (by rw [cntArr_size]; rfl) HA.out ?_)
      go_ret2
      exact ⟨.inr ⟨HX.out.1, rfl⟩, (HL.out.alloc HL.out.size _).trans (setRow_below _ _ HL.out.size)⟩
end Go.Proofs.Ytnjdnldoopgcpaa
