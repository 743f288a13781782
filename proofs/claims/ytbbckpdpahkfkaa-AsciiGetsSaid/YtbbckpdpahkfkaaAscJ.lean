/- The decoder's add: walked. -/
import Derived.Test.YtbbckpdpahkfkaaAscI
import Derived.Laws.Shifts
namespace Go.Proofs.Ytbbckpdpahkfkaa
open Go.RowKit

/-- The decoder in block D, its bytes a row of the call's own. -/
structure DW (D B most : Nat) (v : Value) (bs : List Nat) (N H : Nat) (W : World) : Prop where
  box : Whole W D 48 #[.int .i64 (most : Int), v, .int .i64 (N : Int), .int .i64 (H : Int)]
  own : W.ownsRow B 5 1 v bs.length (bvs bs)
  byte : ∀ x ∈ bs, x < 256
  lt : D < B
  size : B ≤ W.heap.size
/-- What a method may turn. -/
def KD (D B : Nat) (W W' : World) : Prop := Fr (fun k => k = D ∨ B ≤ k) W W'
theorem KD.trans {D B : Nat} {a b c : World} (h : KD D B a b) (k : KD D B b c) : KD D B a c := Fr.trans h k (fun _ _ e => e)
def addB (most : Nat) (bs r : List Nat) : List Nat := if most < bs.length then bs else bs ++ r
def AddIs (D B most : Nat) (bs : List Nat) (N H : Nat) (W : World) (e : Ending) (W' : World) : Prop :=
  e = .returned (.tuple #[]) ∧ ∃ v', DW D B most v' bs N H W' ∧ KD D B W W'
theorem DW.drewN {D B most N H : Nat} {v : Value} {bs : List Nat} {W : World} (h : DW D B most v bs N H W) (j : Nat) : DW D B most v bs N H (W.drewN j) :=
  ⟨h.box.drawn _, own_frame h.own ((Fr.refl (fun _ => False) W).drewN _) (fun _ _ e => e), h.byte, h.lt, h.size⟩
theorem slice4 (D k : Nat) (hk : k ≤ 4) (W : World) : (Instr.sliceAt 59 (.pointer (some ⟨D, 0, none⟩)) none (some (.int .i64 (k : Int))) none).run Try.prog W = .ok (.slice (some ⟨D, 0, none⟩) k 4) W := by
  have U : Try.prog.underlying 59 = some (.array (Try.prog.arrayLen 59) (Try.prog.elem 59)) := by kernel_rfl
  have S : (sizeOf (Try.prog.elem 59)).run Try.prog W = .ok 1 W := by kernel_rfl
  have E : Try.prog.arrayLen 59 = 4 := by kernel_rfl
  rw [run_sliceAt_array_h (ht := U) (h0 := by omega) (h2 := by rw [E]; omega), S, E]
  simp [Result.andThen, slicedAt, Addr.add]
theorem four_parts (n : Nat) (hn : n < 4294967296) : bvs (fourB n) = [.int .u8 ((n : Int) / 16777216), .int .u8 ((n : Int) / 65536 % 256), .int .u8 ((n : Int) / 256 % 256), .int .u8 ((n : Int) % 256)] := by
  have h1 : ((n / 16777216 % 256 : Nat) : Int) = (n : Int) / 16777216 := by omega
  have h2 : ((n / 65536 % 256 : Nat) : Int) = (n : Int) / 65536 % 256 := by omega
  have h3 : ((n / 256 % 256 : Nat) : Int) = (n : Int) / 256 % 256 := by omega
  have h4 : ((n % 256 : Nat) : Int) = (n : Int) % 256 := by omega
  rw [← h1, ← h2, ← h3, ← h4]
  rfl
/-- The decoder's bytes grow. -/
theorem DW.push {D B most N H m : Nat} {v v' : Value} {bs r : List Nat} {W Wm w1 : World} (h : DW D B most v bs N H W) (hm : m = r.length) (hr : ∀ x ∈ r, x < 256) (hWm : Below W.heap.size W Wm)
    (hown : w1.ownsRow B 5 1 v' (bs.length + m) (bvs bs ++ bvs r)) (hg : Wm.grownBy w1 v.ownBlock) :
    Whole w1 D 48 #[.int .i64 (most : Int), v, .int .i64 (N : Int), .int .i64 (H : Int)] ∧ DW D B most v' (bs ++ r) N H (w1.setCell ⟨D, 1, none⟩ v') ∧ KD D B W (w1.setCell ⟨D, 1, none⟩ v') := by
  have hbk : ∀ j, v.ownBlock = some j → B ≤ j := fun j e => (own_lt h.own e).1
  have hlt := h.lt
  have hw1 : Whole w1 D 48 #[.int .i64 (most : Int), v, .int .i64 (N : Int), .int .i64 (H : Int)] := (h.box.here hWm).kept hg (fun e => by have := hbk D e.symm; omega)
  have hk1 : KD D B W w1 := (Fr.trans ((Fr.of_below hWm).more (fun j hj e => absurd hj (Nat.not_lt.2 e))) (Fr.of_grown hg) (fun j _ e => .inr (hbk j e.symm)))
  refine ⟨hw1, ⟨?_, ?_, ?_, h.lt, ?_⟩, hk1.set (p := ⟨D, 1, none⟩) (fun _ => .inl rfl) _⟩
  · have := hw1.set 1 v'
    simpa using this
  · rw [bvs_append, List.length_append, ← hm]
    exact own_frame hown ((Fr.refl (fun k => k = D) w1).setB 1 _) (fun g hg2 e => by have := (own_lt hown hg2).1; omega)
  · intro x hx
    rcases List.mem_append.1 hx with hx | hx
    · exact h.byte x hx
    · exact hr x hx
  · have := hk1.size
    have := h.size
    simp
    omega
theorem four_byte (n : Nat) : ∀ x ∈ fourB n, x < 256 := fun x hx => by
  simp only [fourB, List.mem_cons, List.not_mem_nil, or_false] at hx
  omega
set_option maxRecDepth 100000 in
set_option maxHeartbeats 4000000 in
set_option pp.deepTerms true in
set_option pp.maxSteps 1000000 in
theorem add_any (D B most : Nat) (v : Value) (bs : List Nat) (N H n k : Nat) (W : World) (h : DW D B most v bs N H W) (hn : n < 4294967296) (h1 : 1 ≤ k) (h4 : k ≤ 4) (hbl : bs.length ≤ 2000000) :
    Calls Try.prog 34 #[.pointer (some ⟨D, 0, none⟩), .int .i64 n, .int .i64 k] W (AddIs D B most (addB most bs ((fourB n).take k)) N H W) := by
  obtain ⟨a0, ca, rfl⟩ := own_slice h.own
  have r0 : W.cell? ⟨D, 0, none⟩ = some (.int .i64 (most : Int)) := h.box.reads 0
  have r1 : W.cell? ⟨D, 1, none⟩ = some (.slice a0 bs.length ca) := h.box.reads 1
  have f1 := h.box.thawed 1
  have lD := h.box.lt
  obtain ⟨i0, hi, hz0, hz1, hz2⟩ := info_parts info8
  have HX := Lib.hid h
  clear h
  by_cases hlong : most < bs.length
  · have hg : decide ((most : Int) < (bs.length : Int)) = true := by simp; omega
    go_enter Try.func34, Try.ntmps34
    go_wp2_with fail
    go_quiet (fail)
    go_wp2_with fail
    go_end0
    refine ⟨rfl, .slice a0 bs.length ca, ?_, ?_⟩
    · unfold addB; rw [if_pos hlong]
      exact HX.out.drewN _
    · exact (Fr.refl _ W).drewN _
  · have hg : decide ((most : Int) < (bs.length : Int)) = false := by simp; omega
    go_enter Try.func34, Try.ntmps34
    go_wp2_with fail
    go_quiet (fail)
    have HX2 := Lib.hid (HX.out.drewN nq)
    have HK2 : Hid (KD D B W (W.drewN nq)) := (Fr.refl _ W).drewN _
    have r1' : (W.drewN nq).cell? ⟨D, 1, none⟩ = some (.slice a0 bs.length ca) := r1
    have lD' : D < (W.drewN nq).heap.size := lD
    clear r0 r1 f1 lD HX
    generalize W.drewN nq = W2 at *
    have hsl : ∀ X : World, (Instr.sliceAt 59 (.pointer (some ⟨W2.heap.size, 0, none⟩)) none (some (.int .i64 (k : Int))) none).run Try.prog X = .ok (.slice (some ⟨W2.heap.size, 0, none⟩) k 4) X := fun X => slice4 _ _ h4 X
    have HP := Lib.hid (fun (W3 w1 : World) (v1 : Value) (hW3 : Below W2.heap.size W2 W3) (h1 : w1.ownsRow B 5 1 v1 (bs.length + k) (bvs bs ++ bvs ((fourB n).take k))) (h2 : W3.grownBy w1 (Value.slice a0 bs.length ca).ownBlock) => HX2.out.push (r := (fourB n).take k) (m := k) (by rw [List.length_take]; simp [fourB]; omega) (fun x hx => four_byte n x (List.mem_of_mem_take hx)) hW3 h1 h2)
    have HFP := Lib.hid (four_parts n hn)
    go_wp2_with fail
    have hW3 : Below W2.heap.size W2 (W2.alloc (.cells #[Value.int .u8 ((n : Int) / 16777216), .int .u8 ((n : Int) / 65536 % 256), .int .u8 ((n : Int) / 256 % 256), .int .u8 ((n : Int) % 256)] 59)) := (Below.refl _ _).alloc (Nat.le_refl _) _
    have hnw := World.news_of_block (heap_alloc_new W2 (.cells #[Value.int .u8 ((n : Int) / 16777216), .int .u8 ((n : Int) / 65536 % 256), .int .u8 ((n : Int) / 256 % 256), .int .u8 ((n : Int) % 256)] 59))
    obtain ⟨W3, hw3⟩ : ∃ W3, W2.alloc (.cells #[Value.int .u8 ((n : Int) / 16777216), .int .u8 ((n : Int) / 65536 % 256), .int .u8 ((n : Int) / 256 % 256), .int .u8 ((n : Int) % 256)] 59) = W3 := ⟨_, rfl⟩
    have hs3 : W3.heap.size = W2.heap.size + 1 := by rw [← hw3]; simp
    rw [hw3] at hW3 hnw ⊢
    have c1 : W3.cell? ⟨D, 1, none⟩ = some (.slice a0 bs.length ca) := (HX2.out.box.here hW3).reads 1
    have lD3 := (HX2.out.box.here hW3).lt
    have HO3 := Lib.hid (own_frame HX2.out.own (Fr.of_below hW3) (fun g e => by have := (own_lt HX2.out.own e).2.1; omega))
    have HW3 := Lib.hid hW3
    have HNW := Lib.hid hnw
    have hB3 := HX2.out.size
    clear hw3 hW3 hnw r1' lD'
    go_region_law ((refine step_append_lies _ (by rfl) _ _ _ (by rfl) B 5 i0 (.int .u8 0) 1 1 Try.underlying22 hi hz0 hz1 hz2 rfl (by omega) (.slice a0 bs.length ca) bs.length (bvs bs) (by rfl) (HO3.out.drew) ⟨W2.heap.size, 0, none⟩ k 4 ([Value.int .u8 ((n : Int) / 16777216), .int .u8 ((n : Int) / 65536 % 256), .int .u8 ((n : Int) / 256 % 256), .int .u8 ((n : Int) % 256)].take k) (by rfl) (by rw [List.length_take]; simp; omega) (news_take HNW.out k) (fun u hu => by rw [← HFP.out] at hu; exact bvs_one _ u (List.mem_of_mem_take hu)) (by omega) (by unfold maxLen; omega) (by omega) (by rw [show W3.drew.heap.size = W3.heap.size from rfl]; omega) (W2.heap.size + 1) (by exact hs3) ?_; intro g1 cap1 w1 hown1 hgrow1 hat1 hlt1; rw [← HFP.out, show (bvs (fourB n)).take k = bvs ((fourB n).take k) from by unfold bvs; rw [List.map_take]] at hown1; have H4 := Lib.hid (HP.out W3.drew w1 _ (HW3.out.drew) hown1 hgrow1); have hcr := H4.out.1.reads 1; have hfr := H4.out.1.thawed 1; have hlr := H4.out.1.lt; clear hown1 hgrow1 hat1 hlt1))
    all_goals
      go_wp2_with fail
      go_end0
      have h5 := H4.out.2.1
      rw [show bs ++ (fourB n).take k = addB most bs ((fourB n).take k) from (if_neg hlong).symm] at h5
      exact ⟨rfl, _, h5, HK2.out.trans H4.out.2.2⟩
end Go.Proofs.Ytbbckpdpahkfkaa
