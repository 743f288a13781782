/- The decoder's rest: walked; what the rows of a decoder mean. -/
import Derived.Test.YtbbckpdpahkfkaaAscK
namespace Go.Proofs.Ytbbckpdpahkfkaa
open Go.RowKit

def padN : Nat → Nat → Nat
  | 0, N => N
  | j + 1, N => padN j (85 * N + 84)
theorem num5_app (l r : List Nat) (n : Nat) : num5 (l ++ r) n = num5 r (num5 l n) := by
  induction l generalizing n with
  | nil => rfl
  | cons d l ih => exact ih _
theorem num5_pad (j n : Nat) : num5 (List.replicate j 84) n = padN j n := by
  induction j generalizing n with
  | zero => rfl
  | succ j ih => exact ih _
theorem num5_lt (l : List Nat) (h : ∀ d ∈ l, d < 85) : ∀ n, num5 l n < (n + 1) * 85 ^ l.length := by
  induction l with
  | nil => intro n; simp [num5]
  | cons d l ih =>
    intro n
    have h1 := ih (fun x hx => h x (List.mem_cons_of_mem _ hx)) (85 * n + d)
    have h2 := h d (List.mem_cons_self ..)
    show num5 l (85 * n + d) < _
    refine Nat.lt_of_lt_of_le h1 ?_
    rw [List.length_cons, Nat.pow_succ, Nat.mul_comm (85 ^ l.length) 85, ← Nat.mul_assoc]
    exact Nat.mul_le_mul_right _ (by omega)
theorem padN_lt (j N : Nat) : padN j N < (N + 1) * 85 ^ j := by
  rw [← num5_pad]
  have := num5_lt (List.replicate j 84) (fun d hd => by have := List.eq_of_mem_replicate hd; omega) N
  rwa [List.length_replicate] at this
/-- The program's bytes stand for the document's: they stop once they are too many. -/
def BR (most : Nat) (bs out : List Nat) : Prop := bs = out ∨ (most < bs.length ∧ most < out.length)
theorem BR.add {most : Nat} {bs out r : List Nat} (h : BR most bs out) (hr : 1 ≤ r.length) : BR most (addB most bs r) (out ++ r) := by
  unfold addB
  rcases h with rfl | ⟨h1, h2⟩
  · split
    · exact .inr ⟨by assumption, by rw [List.length_append]; omega⟩
    · exact .inl rfl
  · rw [if_pos h1]
    exact .inr ⟨h1, by rw [List.length_append]; omega⟩
theorem addB_len (most : Nat) (bs r : List Nat) : (addB most bs r).length ≤ bs.length + r.length := by
  unfold addB; split
  · omega
  · rw [List.length_append]; exact Nat.le_refl _
def restR (most : Nat) (bs : List Nat) (N H : Nat) : Option (List Nat × Nat × Nat) :=
  if H = 0 then some (bs, N, 0) else if H = 1 then none else if 4294967295 < padN (5 - H) N then none else some (addB most bs ((fourB (padN (5 - H) N)).take (H - 1)), 0, 0)
set_option maxRecDepth 100000 in
set_option maxHeartbeats 4000000 in
theorem rest_any (D B most : Nat) (v : Value) (bs : List Nat) (N H : Nat) (W : World) (h : DW D B most v bs N H W) (hH : H ≤ 4) (hN : N < 85 ^ H) (hbl : bs.length ≤ 2000000) :
    Calls Try.prog 29 #[.pointer (some ⟨D, 0, none⟩)] W (TakeIs D B most (restR most bs N H) W) := by
  have r3 : W.cell? ⟨D, 3, none⟩ = some (.int .i64 (H : Int)) := h.box.reads 3
  have lD := h.box.lt
  have HX := Lib.hid h
  clear h
  rcases (by omega : H = 0 ∨ H = 1 ∨ 2 ≤ H) with rfl | rfl | hH2
  · go_enter Try.func29, Try.ntmps29
    go_wp2_with fail
    go_ret
    exact ⟨Fr.refl _ W, rfl, v, HX.out⟩
  · go_enter Try.func29, Try.ntmps29
    go_wp2_with fail
    go_ret
    exact ⟨Fr.refl _ W, rfl⟩
  have h1 : ((H : Int) == 0) = false := by simp; omega
  have h2 : ((H : Int) == 1) = false := by simp; omega
  obtain ⟨M, hM⟩ : ∃ M, padN (5 - H) N = M := ⟨_, rfl⟩
  have hM9 : M < 4500000000 := by
    have h3 := padN_lt (5 - H) N
    rw [hM] at h3
    refine Nat.lt_of_lt_of_le h3 ?_
    refine Nat.le_trans (Nat.mul_le_mul_right _ (show N + 1 ≤ 85 ^ H from hN)) ?_
    rw [← Nat.pow_add, show H + (5 - H) = 5 by omega]
    decide
  have HM := Lib.hid hM
  have HR := Lib.hid (show restR most bs N H = if 4294967295 < M then none else some (addB most bs ((fourB M).take (H - 1)), 0, 0) by unfold restR; rw [if_neg (by omega), if_neg (by omega), hM])
  clear hM
  go_enter Try.func29, Try.ntmps29
  go_wp2_with fail
  go_loopg [23] (5 - H) (fun g _ wr => ∃ H' N' : Nat, g + H' = 5 ∧ 2 ≤ H' ∧ padN (5 - H') N' = M ∧ N' < 85 ^ H' ∧ DW D B most v bs N' H' wr ∧ KD D B W wr)
  case atStart => exact ⟨H, N, by omega, hH2, HM.out, hN, HX.out, Fr.refl _ W⟩
  case round =>
    obtain ⟨H', N', hg, h2', hp, hlt, hd, hk⟩ := hrel
    have c2 : wr.cell? ⟨D, 2, none⟩ = some (.int .i64 (N' : Int)) := hd.box.reads 2
    have c3 : wr.cell? ⟨D, 3, none⟩ = some (.int .i64 (H' : Int)) := hd.box.reads 3
    have f2 := hd.box.thawed 2
    have f3 := hd.box.thawed 3
    have lr := hd.box.lt
    have HD := Lib.hid (And.intro hd hk)
    clear hd hk
    by_cases h5 : H' < 5
    · have hg5 : decide ((H' : Int) < 5) = true := by simp; omega
      have HPD := Lib.hid (show padN (5 - (H' + 1)) (85 * N' + 84) = M by rw [← hp, show 5 - H' = (5 - (H' + 1)) + 1 by omega]; rfl)
      have hn9 : 85 * N' + 84 < 85 ^ (H' + 1) := by rw [Nat.pow_succ]; omega
      have hn8 : N' < 52200625 := Nat.lt_of_lt_of_le hlt (Nat.pow_le_pow_right (by omega) (show H' ≤ 4 by omega))
      have HN9 := Lib.hid hn9
      obtain ⟨N2, hN2⟩ : ∃ x, 85 * N' + 84 = x := ⟨_, rfl⟩
      rw [hN2] at HPD HN9
      have HE := Lib.hid (show (N' : Int) * 85 + 84 = (N2 : Int) by omega)
      clear hp hlt hn9 hN2
      go_wp2_with fail
      rw [HE.out]
      go_roundg (5 - (H' + 1))
      case measure => omega
      case rel => exact ⟨H' + 1, N2, by omega, by omega, HPD.out, HN9.out, by have := (HD.out.1.set2 (N' := N2)).set3 (H' := H' + 1); simpa using this, HD.out.2.trans ((KD.set _ 2 _).trans (KD.set _ 3 _))⟩
    · obtain rfl : H' = 5 := by omega
      obtain rfl : N' = M := hp
      rw [show ((5 : Nat) : Int) = 5 from rfl] at c3
      have hgr := group_any D B most v bs N' 5 (H - 1) wr HD.out.1 (by omega) (by omega) (by omega) hbl
      rw [show ((H - 1 : Nat) : Int) = (H : Int) - 1 by omega] at hgr
      have HG := Lib.hid hgr
      obtain ⟨R, hR⟩ : ∃ R, restR most bs N H = R := ⟨_, rfl⟩
      have hR2 := HR.out
      rw [hR] at hR2
      have HR2 := Lib.hid hR2
      have HR3 := Lib.hid hR
      clear hgr hR hR2 hlt
      go_wp2_with fail
      refine HG.out.mono ?_
      rintro e w1 ⟨hk1, ht⟩
      rw [← HR2.out] at ht
      have hk2 := Lib.hid (HD.out.2.trans hk1)
      cases R with
      | none =>
        obtain rfl := ht
        go_wp2_with fail
        go_ret
        rw [HR3.out]
        exact ⟨hk2.out, rfl⟩
      | some q =>
        obtain ⟨bs', N2, H2⟩ := q
        obtain ⟨rfl, v', hd⟩ := ht
        have HD2 := Lib.hid hd
        clear hd
        go_wp2_with fail
        go_ret
        rw [HR3.out]
        exact ⟨hk2.out, rfl, v', HD2.out⟩
end Go.Proofs.Ytbbckpdpahkfkaa
