/- lex: gap, regulars. -/
import Derived.Test.YtdiaijdobglaaaaGreatDoorLexC
namespace Go.Proofs.YtdiaijdobglaaaaGreatDoor
open Go.RowKit

theorem FrR.trans {R : Nat} {a b d : World} (h : FrR R a b) (k : FrR R b d) : FrR R a d := Fr.trans h k (fun _ _ e => e)
set_option maxRecDepth 100000 in
set_option maxHeartbeats 4000000 in
theorem gap_any (R : Nat) (A : Option Addr) (n c : Nat) (bs : List Nat) (k : Nat) (w : World) (h : Rdr w R A n c bs k) :
    Calls Tryz.prog 28 #[.pointer (some ⟨R, 0, none⟩)] w fun e w' => ∃ k', Moved R A n c bs k' (.tuple #[]) w e w' ∧ gapL (bs.drop k) = bs.drop k' ∧ k ≤ k' := by
  have H := Lib.hid h
  have hle := h.le
  clear h
  go_enter Tryz.func28, Tryz.ntmps28
  go_wp2_with fail
  go_loopg [2] (n - k) (fun g _ wr => ∃ k' : Nat, g + k' = n ∧ k ≤ k' ∧ Hid (Rdr wr R A n c bs k') ∧ Hid (gapL (bs.drop k) = gapL (bs.drop k')) ∧ Hid (FrR R w wr))
  case atStart => exact ⟨k, by omega, by omega, H, Lib.hid rfl, Lib.hid (Fr.refl _ _)⟩
  case round =>
    obtain ⟨k', hg, hkk, HR, HC, HF⟩ := hrel
    obtain ⟨c0, c1, c2, hRl⟩ := HR.out.cells
    by_cases hk : k' < n
    · obtain ⟨B, o, x, rfl, hBR, hB, hc, hx, hx2⟩ := HR.out.at_ hk
      have hcap := HR.out.bytes.cap
      have htop := HR.out.bytes.top
      have hsm := HR.out.small
      have i0 : (0 : Int) ≤ (k' : Int) := by omega
      have i1 : (k' : Int) < (n : Int) := by omega
      have HK := Lib.hid hk
      have HX := Lib.hid hx
      clear hx
      cases hs : spB x
      · have HS := Lib.hid hs
        clear hs
        by_cases h37 : x = 37
        · have e1 : ((x : Int) == 37) = true := by simp; omega
          have HX7 : Hid (bs[k']? = some 37) := Lib.hid (by rw [HX.out, h37])
          have HE := Lib.hid (gap_com HX7.out)
          clear h37
          go_wp2_with fail
          go_quiet ((first | (go_at_call 29; exact Calls.quiet_of (more_t (HR.out.drewN _) HK.out)) | (go_at_call 53; exact quiet_same (by have := isSpace_any x; rw [HS.out] at this; exact this _))))
          go_wp2_with fail
          refine (take_any R _ n c bs k' x _ (HR.out.drewN _) HX.out).mono ?_
          rintro e w1 ⟨rfl, hr, hf⟩
          have HR1 := Lib.hid hr
          have HF1 := Lib.hid (FrR.trans HF.out (Fr.from _ hf))
          clear hr hf
          go_wp2_with fail
          refine (comment_any R _ n c bs (k' + 1) _ HR1.out).mono ?_
          rintro e w2 ⟨k2, ⟨rfl, hr, hf⟩, he, hk2⟩
          have HR2 := Lib.hid hr
          have HF2 := Lib.hid (FrR.trans HF1.out hf)
          have HE2 := Lib.hid he
          have hle2 := hr.le
          clear hr hf he
          go_wp2_with fail
          go_roundg (n - k2)
          case measure => omega
          case rel => exact ⟨k2, by omega, by omega, HR2, Lib.hid (by rw [HC.out, HE.out, HE2.out]), HF2⟩
        · have e1 : ((x : Int) == 37) = false := by simp; omega
          have HE := Lib.hid (gap_stop HX.out HS.out h37)
          clear h37
          go_wp2_with fail
          go_quiet ((first | (go_at_call 29; exact Calls.quiet_of (more_t (HR.out.drewN _) HK.out)) | (go_at_call 53; exact quiet_same (by have := isSpace_any x; rw [HS.out] at this; exact this _))))
          go_wp2_with fail
          go_end0
          exact ⟨k', ⟨rfl, HR.out.drewN _, HF.out.drewN _⟩, by rw [HC.out, HE.out], hkk⟩
      · have HS := Lib.hid hs
        have h37 : x ≠ 37 := by rintro rfl; exact absurd hs (by decide)
        have e1 : ((x : Int) == 37) = false := by simp; omega
        have HE := Lib.hid (gap_sp HX.out HS.out)
        clear hs h37
        go_wp2_with fail
        go_quiet ((first | (go_at_call 29; exact Calls.quiet_of (more_t (HR.out.drewN _) HK.out)) | (go_at_call 53; exact quiet_same (by have := isSpace_any x; rw [HS.out] at this; exact this _))))
        go_wp2_with fail
        refine (take_any R _ n c bs k' x _ (HR.out.drewN _) HX.out).mono ?_
        rintro e w1 ⟨rfl, hr, hf⟩
        have HR1 := Lib.hid hr
        have HF1 := Lib.hid (FrR.trans HF.out (Fr.from _ hf))
        clear hr hf
        go_wp2_with fail
        go_roundg (gk - 1)
        case measure => omega
        case rel => exact ⟨k' + 1, by omega, by omega, HR1, Lib.hid (by rw [HC.out, HE.out]), HF1⟩
    · have HK := Lib.hid hk
      have HE := Lib.hid (gap_nil (l := bs.drop k') (by rw [List.length_drop, HR.out.len]; omega))
      clear hk
      go_wp2_with fail
      go_quiet ((go_at_call 29; exact Calls.quiet_of (more_f (HR.out.drewN _) HK.out)))
      go_wp2_with fail
      go_end0
      exact ⟨k', ⟨rfl, HR.out.drewN _, HF.out.drewN _⟩, by rw [HC.out, HE.out], hkk⟩
theorem Bytes.part {w : World} {A : Option Addr} {n c : Nat} {bs : List Nat} (h : Bytes w A n c bs) (i j : Nat) (hij : i ≤ j) (hj : j ≤ n) {A2 : Option Addr} {c2 : Nat} (hA : i < j → ∀ B o, A = some ⟨B, o, none⟩ → A2 = some ⟨B, o + i, none⟩) (hc : j - i ≤ c2) (hc2 : c2 ≤ c) :
    Bytes w A2 (j - i) c2 ((bs.drop i).take (j - i)) :=
  ⟨by rw [List.length_take, List.length_drop, h.len]; omega, hc, Nat.le_trans hc2 h.top, fun b hb => h.byte b (List.mem_of_mem_drop (List.mem_of_mem_take hb)), fun hn => by
    obtain ⟨R, o, e, hR, hb⟩ := h.at_ (by omega)
    refine ⟨R, o + i, hA (by omega) R o e, hR, fun m b hm => ?_⟩
    have hml : m < j - i := by
      have := (List.getElem?_eq_some_iff.1 hm).1
      rw [List.length_take] at this
      omega
    rw [List.getElem?_take, if_pos hml, List.getElem?_drop] at hm
    rw [Nat.add_assoc]
    exact hb _ b hm⟩
/-- What regulars answers: the bytes, and the place behind. -/
def RegSaid (R : Nat) (A : Option Addr) (n c : Nat) (bs : List Nat) (k : Nat) (w : World) (e : Ending) (w' : World) : Prop :=
  ∃ k' A2 n2 c2, Moved R A n c bs k' (.slice A2 n2 c2) w e w' ∧ Bytes w' A2 n2 c2 (regL (bs.drop k)) ∧ offL (bs.drop k) = bs.drop k' ∧ k ≤ k'
theorem reg_end {w wr : World} {R : Nat} {A A2 : Option Addr} {n c c2 : Nat} {bs : List Nat} {k k' : Nat} (HR : Rdr wr R A n c bs k') (hC : offL (bs.drop k) = bs.drop k') (hF : FrR R w wr) (hkk : k ≤ k')
    (hA : k < k' → ∀ B o, A = some ⟨B, o, none⟩ → A2 = some ⟨B, o + k, none⟩) (hc : k' - k ≤ c2) (hc2 : c2 ≤ c) : RegSaid R A n c bs k w (.returned (.slice A2 (k' - k) c2)) wr :=
  ⟨k', A2, k' - k, c2, ⟨rfl, HR, hF⟩, by rw [reg_of hC.symm hkk (by rw [HR.len]; exact HR.le)]; exact HR.bytes.part k k' hkk HR.le hA hc hc2, hC, hkk⟩
set_option maxRecDepth 100000 in
set_option maxHeartbeats 4000000 in
theorem regulars_any (R : Nat) (A : Option Addr) (n c : Nat) (bs : List Nat) (k : Nat) (w : World) (h : Rdr w R A n c bs k) :
    Calls Tryz.prog 32 #[.pointer (some ⟨R, 0, none⟩)] w (RegSaid R A n c bs k w) := by
  have H := Lib.hid h
  have hle := h.le
  obtain ⟨a0, a1, a2, hRl0⟩ := h.cells
  clear h
  go_enter Tryz.func32, Tryz.ntmps32
  go_wp2_with fail
  clear a0 a1 a2 hRl0
  go_loopg [8] (n - k) (fun g _ wr => ∃ k' : Nat, g + k' = n ∧ k ≤ k' ∧ Hid (Rdr wr R A n c bs k') ∧ Hid (offL (bs.drop k) = offL (bs.drop k')) ∧ Hid (FrR R w wr))
  case atStart => exact ⟨k, by omega, by omega, H, Lib.hid rfl, Lib.hid (Fr.refl _ _)⟩
  case round =>
    obtain ⟨k', hg, hkk, HR, HC, HF⟩ := hrel
    obtain ⟨c0, c1, c2, hRl⟩ := HR.out.cells
    have hcap := HR.out.bytes.cap
    have htop := HR.out.bytes.top
    have hsm := HR.out.small
    have q1 : (0 : Int) ≤ (k : Int) := by omega
    have q2 : (k : Int) ≤ (k' : Int) := by omega
    have q3 : (k' : Int) ≤ (c : Int) := by have := HR.out.le; omega
    by_cases hk : k' < n
    · obtain ⟨B, o, x, rfl, hBR, hB, hc, hx, hx2⟩ := HR.out.at_ hk
      have i0 : (0 : Int) ≤ (k' : Int) := by omega
      have i1 : (k' : Int) < (n : Int) := by omega
      have HK := Lib.hid hk
      have HX := Lib.hid hx
      clear hx
      cases hs : rgB x
      · have HS := Lib.hid hs
        have HE := Lib.hid (off_stop HX.out HS.out)
        have hkc : ((k : Int) == (c : Int)) = false := by simp; omega
        clear hs
        go_wp2_with fail
        go_quiet ((first | (go_at_call 29; exact Calls.quiet_of (more_t (HR.out.drewN _) HK.out)) | (go_at_call 30; exact quiet_same (by have := isRegular_any x; rw [HS.out] at this; exact this _))))
        go_wp2_with fail
        go_quiet (fail)
        go_wp2_with fail
        go_ret
        exact reg_end ((HR.out.drewN _).drewN _) (by rw [HC.out, HE.out]) ((HF.out.drewN _).drewN _) hkk (fun _ B' o' e => by injection e with e; injection e with e1 e2; subst e1 e2; rfl) (by omega) (by omega)
      · have HS := Lib.hid hs
        have HE := Lib.hid (off_go HX.out HS.out)
        clear hs
        go_wp2_with fail
        go_quiet ((first | (go_at_call 29; exact Calls.quiet_of (more_t (HR.out.drewN _) HK.out)) | (go_at_call 30; exact quiet_same (by have := isRegular_any x; rw [HS.out] at this; exact this _))))
        go_wp2_with fail
        go_roundg (gk - 1)
        case measure => omega
        case rel => exact ⟨k' + 1, by omega, by omega, Lib.hid ((HR.out.drewN _).set (by omega) (by omega)), Lib.hid (by rw [HC.out, HE.out]), Lib.hid ((HF.out.drewN _).setB 1 _)⟩
    · have HK := Lib.hid hk
      have HE := Lib.hid (off_nil (l := bs.drop k') (by rw [List.length_drop, HR.out.len]; omega))
      by_cases hn : n = 0
      · obtain rfl : k' = 0 := by have := HR.out.le; omega
        obtain rfl : k = 0 := by omega
        clear hk
        cases A
        all_goals
          go_wp2_with fail
          go_quiet ((go_at_call 29; exact Calls.quiet_of (more_f (HR.out.drewN _) HK.out)))
          go_wp2_with fail
          go_quiet (fail)
          go_wp2_with fail
          go_ret
          exact reg_end (k := 0) (k' := 0) (c2 := c) ((HR.out.drewN _).drewN _) (off_nil (by rw [List.length_drop, HR.out.len]; omega)) ((HF.out.drewN _).drewN _) (Nat.le_refl _) (fun h => absurd h (by decide)) (Nat.zero_le _) (Nat.le_refl _)
      · obtain ⟨B, o, rfl, hB, -⟩ := HR.out.bytes.at_ (by omega)
        clear hk
        by_cases hkc : k = c
        · subst hkc
          have hkc2 : ((k : Int) == (k : Int)) = true := by simp
          go_wp2_with fail
          go_quiet ((go_at_call 29; exact Calls.quiet_of (more_f (HR.out.drewN _) HK.out)))
          go_wp2_with fail
          go_quiet (fail)
          go_wp2_with fail
          go_ret
          exact reg_end ((HR.out.drewN _).drewN _) (by rw [HC.out, HE.out]) ((HF.out.drewN _).drewN _) hkk (fun h => absurd h (by have := HR.out.le; omega)) (by omega) (by omega)
        · have hkc2 : ((k : Int) == (c : Int)) = false := by simp; omega
          have hkc3 : (k : Int) < (c : Int) := by omega
          go_wp2_with fail
          go_quiet ((go_at_call 29; exact Calls.quiet_of (more_f (HR.out.drewN _) HK.out)))
          go_wp2_with fail
          go_quiet (fail)
          go_wp2_with fail
          go_ret
          exact reg_end ((HR.out.drewN _).drewN _) (by rw [HC.out, HE.out]) ((HF.out.drewN _).drewN _) hkk (fun _ B' o' e => by injection e with e; injection e with e1 e2; subst e1 e2; rfl) (by omega) (by omega)
end Go.Proofs.YtdiaijdobglaaaaGreatDoor
