/- The part at the beginning of some bytes: run's cutPart, walked. -/
import Derived.Test.YtbghmbcipekboaaRunB
namespace Go.Proofs.Ytbghmbcipekboaa
open Go.RowKit

/-- The bytes for which the first part stands, and how many tell it. -/
def cut1 : List Nat → Option (List Nat × Nat)
  | x :: y :: l => if 128 < x then some (List.replicate (257 - x) y, 2) else if (x :: y :: l).length < x + 2 then none else some ((y :: l).take (x + 1), x + 2)
  | _ => none
theorem getM_cut1 (most : Nat) (bs o : List Nat) (h : bs[0]? ≠ some 128) : getM most bs o = match cut1 bs with
    | none => .more
    | some (p, t) => if most < o.length + p.length then .long else getM most (bs.drop t) (o ++ p) := by
  match bs, h with
  | [], _ => rfl
  | [x], h =>
    have hx : x ≠ 128 := fun e => h (by simp [e])
    rcases Nat.lt_or_ge x 128 with h1 | h1
    · rw [getM_copy _ _ _ _ h1, if_pos (by simp)]; rfl
    · rw [getM_rep0 _ _ _ (by omega)]; rfl
  | x :: y :: l, h =>
    have hx : x ≠ 128 := fun e => h (by simp [e])
    simp only [cut1]
    by_cases h1 : 128 < x
    · rw [if_pos h1, getM_rep _ _ _ _ _ h1]
      simp
    · rw [if_neg h1, getM_copy _ _ _ _ (by omega)]
      by_cases h2 : (y :: l).length < x + 1
      · rw [if_pos h2, if_pos (by simp only [List.length_cons] at h2 ⊢; omega)]
      · have h3 : ¬ (x :: y :: l).length < x + 2 := by simp only [List.length_cons] at h2 ⊢; omega
        rw [if_neg h2, if_neg h3]
        simp only [List.length_take, List.drop_succ_cons]
        rw [Nat.min_eq_left (by omega)]
/-- What cutPart answers. -/
def PartIs (bs : List Nat) (w : World) (e : Ending) (w' : World) : Prop :=
  ∃ (v : Value) (t : Nat), e = .returned (.tuple #[v, .int .i64 t]) ∧ Below w.heap.size w w' ∧
    ((cut1 bs = none ∧ v = .slice none 0 0 ∧ t = 0) ∨ ∃ (p : List Nat) (A : Option Addr) (c : Nat), cut1 bs = some (p, t) ∧ 2 ≤ t ∧ t ≤ bs.length ∧ 1 ≤ p.length ∧ v = .slice A p.length c ∧ Bytes w' A p.length c p)
set_option maxRecDepth 100000 in
set_option maxHeartbeats 4000000 in
theorem cutPart_any (A : Option Addr) (n c : Nat) (bs : List Nat) (w : World) (h : Bytes w A n c bs) :
    Calls Try.prog 20 #[.slice A n c] w (PartIs bs w) := by
  have hl := h.len
  have hcap := h.cap
  have htop := h.top
  obtain rfl := hl
  have H := Lib.hid h
  clear h
  match bs, H, hcap with
  | [], H, hcap =>
    go_enter Try.func20, Try.ntmps20
    go_wp2
    go_ret2
    exact ⟨_, 0, rfl, Below.refl _ _, .inl ⟨rfl, rfl, rfl⟩⟩
  | [x], H, hcap =>
    go_enter Try.func20, Try.ntmps20
    go_wp2
    go_ret2
    exact ⟨_, 0, rfl, Below.refl _ _, .inl ⟨rfl, rfl, rfl⟩⟩
  | x :: y :: l, H, hcap =>
    have hx := H.out.byte x (by simp)
    have hy := H.out.byte y (by simp)
    obtain ⟨R, o, hA, hR, hcell⟩ := H.out.at_ (by simp)
    have c0 := hcell 0 x rfl
    rw [Nat.add_zero] at c0
    have c1 := hcell 1 y rfl
    have HA := Lib.hid hA
    clear hcell hA
    obtain rfl := HA.out
    have hlen : (x :: y :: l).length = l.length + 2 := rfl
    rw [hlen] at hcap ⊢
    by_cases hb : 128 < x
    · have hk : ((257 - x : Nat) : Int) = 257 - (x : Int) := by omega
      go_enter Try.func20, Try.ntmps20
      go_wp2_with (go_at_call 21; rw [← hk]; refine (repeat_one R (o + 1) _ y (257 - x) _ hR hy c1 (by omega) (by omega)).mono ?_; rintro e w1 ⟨g, rfl, hg, hby, hbel⟩)
      go_ret2
      exact ⟨.slice (some ⟨g, 0, none⟩) (257 - x) (257 - x), 2, rfl, hbel, .inr ⟨List.replicate (257 - x) y, some ⟨g, 0, none⟩, 257 - x, by simp [cut1, hb], by omega, by simp, by simp; omega, by rw [List.length_replicate], by rw [List.length_replicate]; exact hby⟩⟩
    · by_cases hs : l.length + 2 < x + 2
      · go_enter Try.func20, Try.ntmps20
        go_wp2
        go_ret2
        exact ⟨_, 0, rfl, Below.refl _ _, .inl ⟨by simp only [cut1]; rw [if_neg hb, if_pos (by rw [hlen]; exact hs)], rfl, rfl⟩⟩
      · go_enter Try.func20, Try.ntmps20
        go_wp2
        go_ret2
        have hpl : ((y :: l).take (x + 1)).length = x + 1 := by rw [List.length_take, List.length_cons]; omega
        refine ⟨.slice (some ⟨R, o + 1, none⟩) (x + 1) (c - 1), x + 2, rfl, Below.refl _ _, .inr ⟨(y :: l).take (x + 1), some ⟨R, o + 1, none⟩, c - 1, ?_, by omega, by rw [hlen]; omega, by omega, by rw [hpl], ?_⟩⟩
        · simp only [cut1]; rw [if_neg hb, if_neg (by rw [hlen]; exact hs)]
        · have ht := H.out.tail (k := 1) (by simp)
          rw [hpl]
          exact ⟨hpl, by omega, by omega, fun b hb => ht.byte b (List.mem_of_mem_take hb), fun _ => ⟨R, o + 1, rfl, hR, fun i b hi => by
            obtain ⟨R', o', e, _, hc⟩ := ht.at_ (by simp)
            injection e with e
            injection e with e1 e2
            subst e1 e2
            refine hc i b ?_
            have hi1 := (List.getElem?_eq_some_iff.1 hi).1
            rw [List.getElem?_take, if_pos (by rw [hpl] at hi1; exact hi1)] at hi
            exact hi⟩⟩
end Go.Proofs.Ytbghmbcipekboaa
