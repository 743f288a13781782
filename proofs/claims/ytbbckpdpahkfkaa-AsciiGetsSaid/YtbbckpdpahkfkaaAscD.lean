/- A text cut at a sign; an own row in a box, over the chunks of bytes. -/
import Derived.Test.YtbbckpdpahkfkaaAscC
import Derived.Test.YtbbckpdpahkfkaaRegionD
import Derived.Test.YtbbckpdpahkfkaaRoundIn
import Derived.Test.YtbbckpdpahkfkaaShelf
import Derived.Maps.AppendAt
namespace Go.Proofs.Ytbbckpdpahkfkaa
open Go.RowKit
attribute [local go_sem] Oper.semAt_some

theorem ofNat_ne {x : Nat} (hx : x < 256) (k : Nat) (hk : k < 256) : (UInt8.ofNat k == UInt8.ofNat x) = decide (x = k) := by
  by_cases h : x = k
  · subst h; simp
  · rw [decide_eq_false h, beq_eq_false_iff_ne]
    intro e
    have := congrArg UInt8.toNat e
    simp only [UInt8.toNat_ofNat'] at this
    rw [Nat.mod_eq_of_lt hk, Nat.mod_eq_of_lt hx] at this
    omega
theorem index1 : ∀ (t : List Nat), (∀ x ∈ t, x < 256) → Lib.index (t.map UInt8.ofNat) [62] = match cut1 t with | none => -1 | some b => (b.length : Int)
  | [], _ => rfl
  | c :: r, hb => by
    have ih := index1 r (fun x hx => hb x (List.mem_cons_of_mem _ hx))
    have hc := ofNat_ne (hb c (List.mem_cons_self ..)) 62 (by omega)
    show Lib.index (UInt8.ofNat c :: r.map UInt8.ofNat) [62] = _
    have e : ([62] : List UInt8).isPrefixOf (UInt8.ofNat c :: r.map UInt8.ofNat) = decide (c = 62) := by
      simp only [List.isPrefixOf, Bool.and_true]
      exact hc
    unfold Lib.index
    rw [e, cut1]
    by_cases h : c = 62
    · rw [if_pos (by simp [h]), if_pos h]; rfl
    · rw [if_neg (by simp [h]), if_neg h, ih]
      cases cut1 r with
      | none => rfl
      | some b =>
        rw [if_neg (by simp)]
        simp
theorem index2 : ∀ (t : List Nat), (∀ x ∈ t, x < 256) → Lib.index (t.map UInt8.ofNat) [126, 62] = match cut2 t with | none => -1 | some b => (b.length : Int)
  | [], _ => rfl
  | [c], hb => by
    have hc := ofNat_ne (hb c (List.mem_cons_self ..)) 126 (by omega)
    show Lib.index [UInt8.ofNat c] [126, 62] = -1
    unfold Lib.index
    rw [if_neg (by simp [List.isPrefixOf])]
    rfl
  | c :: d :: r, hb => by
    have ih := index2 (d :: r) (fun x hx => hb x (List.mem_cons_of_mem _ hx))
    have hc := ofNat_ne (hb c (List.mem_cons_self ..)) 126 (by omega)
    have hd := ofNat_ne (hb d (List.mem_cons_of_mem _ (List.mem_cons_self ..))) 62 (by omega)
    show Lib.index (UInt8.ofNat c :: (d :: r).map UInt8.ofNat) [126, 62] = _
    have e : ([126, 62] : List UInt8).isPrefixOf (UInt8.ofNat c :: (d :: r).map UInt8.ofNat) = decide (c = 126 ∧ d = 62) := by
      show ((126 : UInt8) == UInt8.ofNat c && ((62 : UInt8) == UInt8.ofNat d && _)) = _
      rw [show ((126 : UInt8) == UInt8.ofNat c) = decide (c = 126) from hc, show ((62 : UInt8) == UInt8.ofNat d) = decide (d = 62) from hd]
      simp
    unfold Lib.index
    rw [e, cut2]
    by_cases h : c = 126 ∧ d = 62
    · rw [if_pos (by simp [h]), if_pos h]; rfl
    · rw [if_neg (by simpa using h), if_neg h, ih]
      cases cut2 (d :: r) with
      | none => rfl
      | some b =>
        rw [if_neg (by simp)]
        simp
theorem cut1_take : ∀ (t b : List Nat), cut1 t = some b → b = t.take b.length
  | [], b, h => by cases h
  | c :: r, b, h => by
    rw [cut1] at h
    split at h
    · injection h with h; subst h; rfl
    · cases hr : cut1 r with
      | none => rw [hr] at h; cases h
      | some q =>
        rw [hr] at h
        injection h with h
        subst h
        rw [List.length_cons, List.take_succ_cons, ← cut1_take r q hr]
theorem cut2_take : ∀ (t b : List Nat), cut2 t = some b → b = t.take b.length
  | [], b, h => by cases h
  | [_], b, h => by cases h
  | c :: d :: r, b, h => by
    rw [cut2] at h
    split at h
    · injection h with h; subst h; rfl
    · cases hr : cut2 (d :: r) with
      | none => rw [hr] at h; cases h
      | some q =>
        rw [hr] at h
        injection h with h
        subst h
        rw [List.length_cons, List.take_succ_cons, ← cut2_take (d :: r) q hr]
/-- A variable of the program that a search looks at. -/
def MX (w : World) : Prop := 0 < w.heap.size ∧ ∃ m, w.cell? ⟨0, 0, none⟩ = some (.int .i64 m)
theorem MX.below {w w' : World} {B : Nat} (h : MX w) (hb : Below B w w') (hB : 0 < B) : MX w' := by
  obtain ⟨h0, m, hm⟩ := h
  exact ⟨Nat.lt_of_lt_of_le h0 hb.size, m, (hb.cell (p := ⟨0, 0, none⟩) hB).trans hm⟩
/-- What strings.Cut answers. -/
def CutIs (r : Option (List Nat)) (w : World) (e : Ending) (w' : World) : Prop :=
  Below w.heap.size w w' ∧ match r with
    | none => ∃ s u, e = .returned (.tuple #[.string s, .string u, .bool false])
    | some b => ∃ u, e = .returned (.tuple #[.string (strB b), .string u, .bool true])
theorem cutone_any (t : List Nat) (w : World) (hb : ∀ x ∈ t, x < 256) (hl : t.length ≤ 100000) (hM : MX w) :
    Calls Try.prog 23 #[.string (strB t), .string ⟨#[62]⟩] w (CutIs (cut1 t) w) := by
  obtain ⟨_, m, hm⟩ := hM
  refine (Try.strings_Cut (strB t) ⟨#[62]⟩ m w (by rw [strB_size]; omega) hm).mono ?_
  rintro e w' ⟨rfl, n, rfl⟩
  refine ⟨below_drewN (Below.refl _ _) n, ?_⟩
  have hd : (strB t).data.toList = t.map UInt8.ofNat := by simp [strB]
  have hs : (⟨#[62]⟩ : ByteArray).data.toList = [62] := rfl
  have hi := index1 t hb
  rw [hd, hs]
  cases h : cut1 t with
  | none =>
    rw [h] at hi
    have h3 : (Lib.cut (t.map UInt8.ofNat) [62]).2.2 = false := by unfold Lib.cut; rw [hi]; rfl
    rw [h3]
    exact ⟨_, _, rfl⟩
  | some b =>
    rw [h] at hi
    simp only [] at hi
    have h3 : (Lib.cut (t.map UInt8.ofNat) [62]).2.2 = true := by unfold Lib.cut; rw [hi, if_pos (by omega)]
    have h1 : (Lib.cut (t.map UInt8.ofNat) [62]).1 = b.map UInt8.ofNat := by
      unfold Lib.cut
      rw [hi, if_pos (by omega)]
      simp only [Int.toNat_natCast]
      rw [← List.map_take, ← cut1_take t b h]
    rw [h3, h1]
    exact ⟨_, rfl⟩
theorem cuttwo_any (t : List Nat) (w : World) (hb : ∀ x ∈ t, x < 256) (hl : t.length ≤ 100000) (hM : MX w) :
    Calls Try.prog 23 #[.string (strB t), .string ⟨#[126, 62]⟩] w (CutIs (cut2 t) w) := by
  obtain ⟨_, m, hm⟩ := hM
  refine (Try.strings_Cut (strB t) ⟨#[126, 62]⟩ m w (by rw [strB_size]; omega) hm).mono ?_
  rintro e w' ⟨rfl, n, rfl⟩
  refine ⟨below_drewN (Below.refl _ _) n, ?_⟩
  have hd : (strB t).data.toList = t.map UInt8.ofNat := by simp [strB]
  have hs : (⟨#[126, 62]⟩ : ByteArray).data.toList = [126, 62] := rfl
  have hi := index2 t hb
  rw [hd, hs]
  cases h : cut2 t with
  | none =>
    rw [h] at hi
    have h3 : (Lib.cut (t.map UInt8.ofNat) [126, 62]).2.2 = false := by unfold Lib.cut; rw [hi]; rfl
    rw [h3]
    exact ⟨_, _, rfl⟩
  | some b =>
    rw [h] at hi
    simp only [] at hi
    have h3 : (Lib.cut (t.map UInt8.ofNat) [126, 62]).2.2 = true := by unfold Lib.cut; rw [hi, if_pos (by omega)]
    have h1 : (Lib.cut (t.map UInt8.ofNat) [126, 62]).1 = b.map UInt8.ofNat := by
      unfold Lib.cut
      rw [hi, if_pos (by omega)]
      simp only [Int.toNat_natCast]
      rw [← List.map_take, ← cut2_take t b h]
    rw [h3, h1]
    exact ⟨_, rfl⟩
theorem chunk_call (F : Fence) (hF : Open_ F) (n : Nat) (A : Option Addr) (m c K : Nat) (w : World) (hK : 1 ≤ K) :
    CallsIn F n Try.prog 18 #[.slice A m c, .int .i64 (K : Int)] w fun e w' => e = .returned (.func (.func 32) #[] #[.pointer (some ⟨w.heap.size, 0, none⟩), .pointer (some ⟨w.heap.size + 1, 0, none⟩)]) ∧ w' = (w.alloc (.cells #[.slice A m c] 22)).alloc (.cells #[.int .i64 (K : Int)] 3) := by
  refine hF.calls ?_
  have hk : decide (K < 1) = false := by simp; omega
  go_enter Try.func18, Try.ntmps18
  go_wp2
  go_ret
  exact ⟨rfl, rfl⟩
/-- A row of the call's own in box L. -/
structure IO (w : World) (L : Nat) (o : List Nat) (W : World) (v : Value) : Prop where
  row : Boxed W L 22 v
  own : W.ownsRow (L + 3) 5 1 v o.length (bvs o)
  byte : ∀ x ∈ o, x < 256
  below : Below w.heap.size w W
  size : L + 3 ≤ W.heap.size
theorem IO.kept {w W W' : World} {L : Nat} {o : List Nat} {v : Value} {X : Nat → Prop} (h : IO w L o W v) (k : Kept w.heap.size X W W') (hX : ∀ g, X g → g ≠ L ∧ g < L + 3) : IO w L o W' v :=
  ⟨k.boxed h.row (fun e => (hX _ e).1 rfl), k.own h.own (fun g hg e => by have := (hX _ e).2; have := (own_lt h.own hg).1; omega), h.byte, k.below h.below (Nat.le_refl _), Nat.le_trans h.size k.size⟩
theorem IO.push {w W Wm w1 : World} {L B0 : Nat} {o r : List Nat} {m : Nat} {v v' : Value} (h : IO w L o W v) (hWm : Below W.heap.size W Wm) (hm : m = r.length) (hr : ∀ x ∈ r, x < 256) (hL : w.heap.size ≤ L)
    (hown : w1.ownsRow (L + 3) 5 1 v' (o.length + m) (bvs o ++ bvs r)) (hgrow : Wm.grownBy w1 v.ownBlock) (hB0 : KeepsFrom B0 W Wm) :
    Boxed w1 L 22 v ∧ KeepsFrom B0 W (w1.setCell ⟨L, 0, none⟩ v') ∧ KCh (L + 1) (L + 2) L W (w1.setCell ⟨L, 0, none⟩ v') ∧ IO w L (o ++ r) (w1.setCell ⟨L, 0, none⟩ v') v' := by
  have hbk : ∀ j, v.ownBlock = some j → L + 3 ≤ j := fun j e => (own_lt h.own e).1
  have hlt := h.row.lt
  have hrm : Boxed Wm L 22 v := (hWm.block L hlt).trans h.row
  have hr1 : Boxed w1 L 22 v := (hgrow.block L (Nat.lt_of_lt_of_le hlt hWm.size) (fun e => by have := hbk L e.symm; omega)).trans hrm
  have hownm : Wm.ownsRow (L + 3) 5 1 v o.length (bvs o) := own_frame h.own (Fr.of_below hWm) (fun g e => by have := (own_lt h.own e).2.1; omega)
  refine ⟨hr1, ?_, ?_, ?_⟩
  · refine hB0.trans (((KeepsOthers.of_grownBy hgrow fun j o ej hj => ?_).trans (KeepsOthers.setCell _ _ _)).from _)
    obtain ⟨_, _, cs, hw⟩ := own_lt hownm ej
    have e := hj.symm.trans (show Wm.heap[j]? = some (.cells cs 5 (0, 0)) from hw)
    injection e with e
    subst e
    rfl
  · have hf : Fr (fun k => L ≤ k ∧ k ≠ L + 1 ∧ k ≠ L + 2) W Wm := (Fr.of_below hWm).more (fun j hj e => absurd hj (Nat.not_lt.2 e))
    have hf2 : Fr (fun k => L ≤ k ∧ k ≠ L + 1 ∧ k ≠ L + 2) W w1 := hf.grown hgrow (fun j e _ => by have := hbk j e; omega)
    exact hf2.set (p := ⟨L, 0, none⟩) (fun _ => ⟨Nat.le_refl _, by simp, by simp⟩) _
  · refine ⟨hr1.set _, ?_, ?_, ?_, ?_⟩
    · rw [bvs_append, List.length_append, ← hm]
      exact hown.kept (grownBy_setCell' w1 _ v') (.inr (hr1.not_row (by decide) hown).symm)
    · intro x hx
      rcases List.mem_append.1 hx with hx | hx
      · exact h.byte x hx
      · exact hr x hx
    · have hbm : Below w.heap.size w Wm := h.below.trans (hWm.mono h.below.size)
      exact (hbm.grown hgrow hbm.size (fun j hj => by have := hbk j hj; omega)).setCell (p := ⟨L, 0, none⟩) hL _
    · have := hgrow.size
      have := hWm.size
      have := h.size
      simp
      omega
end Go.Proofs.Ytbbckpdpahkfkaa
