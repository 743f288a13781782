/- cut: has each glyph a font? -/
import Derived.Test.YtdlmhienolmncaaCutI
import Derived.Test.YtdlmhienolmncaaCutD
namespace Go.Proofs.Ytdlmhienolmncaa
open Go.RowKit Dec

theorem known_bad1 {fs : List Nm} {l : List Mk} (h : nmsB fs = false) : knownE fs l = 1 := by unfold knownE knownB; rw [h]; rfl
theorem known_bad2 {fs : List Nm} {l : List Mk} (h : l.all (hasB fs) = false) : knownE fs l = 1 := by unfold knownE knownB; rw [h, Bool.and_false]; rfl
theorem known_ok {fs : List Nm} {l : List Mk} (h : nmsB fs = true) (h2 : l.all (hasB fs) = true) : knownE fs l = 0 := by unfold knownE knownB; rw [h, h2]; rfl
set_option maxRecDepth 100000 in
set_option maxHeartbeats 4000000 in
theorem known_any (A : Option Addr) (n c : Nat) (fs : List Nm) (A2 : Option Addr) (n2 c2 : Nat) (l : List Mk) (w : World) (h : NmsAt w A n c fs) (h2 : MarksAt w A2 n2 c2 l) :
    Calls Try.prog 29 #[.slice A n c, .slice A2 n2 c2] w fun e w' => e = .returned (.int .i64 (knownE fs l)) ∧ Below w.heap.size w w' := by
  have hcap := h2.row.cap
  have htop := h2.row.top
  have HL := Lib.hid h2.len
  have H := Lib.hid h
  have HM := Lib.hid h2
  have HC := Lib.hid (ncheck_any A n c fs w h)
  obtain ⟨q, hq⟩ : ∃ q, nmsB fs = q := ⟨_, rfl⟩
  have HQ := Lib.hid hq
  have HE := Lib.hid (show nmsE fs = if q = true then 0 else 1 by rw [← hq]; rfl)
  rw [HE.out] at HC
  clear h h2 hq
  cases q
  · simp only [Bool.false_eq_true, if_false] at HC
    go_enter Try.func29, Try.ntmps29
    go_wp2_with fail
    refine HC.out.mono ?_
    rintro e w1 ⟨rfl, hb⟩
    have HB := Lib.hid hb
    clear hb
    go_wp2_with fail
    go_ret
    exact ⟨by rw [known_bad1 HQ.out]; rfl, HB.out⟩
  simp only [if_true] at HC
  go_enter Try.func29, Try.ntmps29
  go_wp2_with fail
  refine HC.out.mono ?_
  rintro e wa ⟨rfl, hb⟩
  have HA := Lib.hid hb
  clear hb
  go_wp2_with fail
  go_loopw [17] (fun i wr => ∃ k : Nat, i = .int .i64 (k : Int) ∧ k ≤ n2 ∧ Hid ((l.take k).all (hasB fs) = true) ∧ Hid (Below w.heap.size w wr)) (fun i _ => n2 - (intOf i).toNat)
  case atStart => exact ⟨0, rfl, by omega, Lib.hid (by simp), HA⟩
  case round =>
    obtain ⟨j, rfl, hj, HK, HB⟩ := hrel
    by_cases hlt : j < n2
    · have d1 : decide ((j : Int) < (n2 : Int)) = true := decide_eq_true (by omega)
      obtain ⟨x, hx⟩ : ∃ x, l[j]? = some x := ⟨_, List.getElem?_eq_getElem (by rw [HL.out]; exact hlt)⟩
      obtain ⟨R, o, rfl, hR, hc, hns, -⟩ := (HM.out.below HB.out).get hx
      have HAT := Lib.hid (show ∀ (i : Nat) (u : Value), (mkA x).toList[i]? = some u → wr.cell? ⟨R, o + j * 25 + i, none⟩ = some u from hc)
      have HS := Lib.hid (all_step (hasB fs) hx HK.out)
      have HN := Lib.hid (fun h => all_no (hasB fs) hx h)
      obtain ⟨w1, hw1⟩ : ∃ w1, wr.alloc (.cells (mkA x) 41) = w1 := ⟨_, rfl⟩
      have hW1 : Whole w1 wr.heap.size 41 (mkA x) := by rw [← hw1]; exact Whole.made _ _ _
      have HB1 := Lib.hid (show Below w.heap.size w w1 by rw [← hw1]; exact HB.out.alloc HB.out.size _)
      have HW1 := Lib.hid hw1
      have k0 : w1.cell? ⟨wr.heap.size, 0, none⟩ = some (.int .i64 x.kind) := hW1.reads 0
      have k13 : w1.cell? ⟨wr.heap.size, 13, none⟩ = some (.string x.name) := hW1.reads 13
      have l1 := hW1.lt
      have HF := Lib.hid (fun w' (hb : Below w.heap.size w w') => nfind_any A n c fs x.name w' (H.out.below hb))
      have HH := Lib.hid (show hasB fs x = (!glyphB x || (fontOf fs x.name).isSome) from rfl)
      clear hx hc hw1 hW1
      by_cases hg : x.kind = 1
      · have d2 : (x.kind != 1) = false := by simp [hg]
        have HG := Lib.hid (show glyphB x = true by unfold glyphB; exact decide_eq_true hg)
        clear hg
        obtain ⟨q, hq⟩ : ∃ q, fontOf fs x.name = q := ⟨_, rfl⟩
        rw [hq, HG.out] at HH
        rw [hq] at HF
        clear hq
        cases q with
        | none =>
          simp only [fontV, Option.isSome_none] at HF HH
          go_wp2_with (first
            | (refine wpList_load_at rfl _ _ rfl R (o + j * 25) rfl (mkA x) _ HAT.out Try.underlying41 rfl (szMk x) ?_)
            | (refine wpList_store_let rfl _ _ _ rfl rfl _ _ (mkA x) HW1.out rfl rfl (szMk x) rfl (mkA_one x) ?_))
          refine (HF.out _ HB1.out).mono ?_
          rintro e w2 ⟨rfl, hb⟩
          have HB2 := Lib.hid (HB1.out.trans (hb.mono HB1.out.size))
          clear hb k0 k13 l1
          go_wp2_with fail
          go_ret
          exact ⟨by rw [known_bad2 (HN.out (by rw [HH.out]; rfl))]; rfl, HB2.out.alloc HB2.out.size _⟩
        | some f =>
          simp only [fontV, Option.isSome_some] at HF HH
          go_wp2_with (first
            | (refine wpList_load_at rfl _ _ rfl R (o + j * 25) rfl (mkA x) _ HAT.out Try.underlying41 rfl (szMk x) ?_)
            | (refine wpList_store_let rfl _ _ _ rfl rfl _ _ (mkA x) HW1.out rfl rfl (szMk x) rfl (mkA_one x) ?_))
          refine (HF.out _ HB1.out).mono ?_
          rintro e w2 ⟨rfl, hb⟩
          have HB2 := Lib.hid (HB1.out.trans (hb.mono HB1.out.size))
          clear hb k0 k13 l1
          go_wp2_with fail
          go_roundw
          case rel => exact ⟨j + 1, by go_num, by omega, Lib.hid (by rw [HS.out, HH.out]; rfl), Lib.hid (HB2.out.alloc HB2.out.size _)⟩
          case measure => simp [intOf]; omega
      · have d2 : (x.kind != 1) = true := by simp [hg]
        have HG := Lib.hid (show glyphB x = false by unfold glyphB; exact decide_eq_false hg)
        clear hg
        go_wp2_with (first
          | (refine wpList_load_at rfl _ _ rfl R (o + j * 25) rfl (mkA x) _ HAT.out Try.underlying41 rfl (szMk x) ?_)
          | (refine wpList_store_let rfl _ _ _ rfl rfl _ _ (mkA x) HW1.out rfl rfl (szMk x) rfl (mkA_one x) ?_))
        go_roundw
        case rel => exact ⟨j + 1, by go_num, by omega, Lib.hid (by rw [HS.out, HH.out, HG.out]; rfl), HB1⟩
        case measure => simp [intOf]; omega
    · obtain rfl : j = n2 := by omega
      have d1 : decide ((j : Int) < (j : Int)) = false := by simp
      have HZ := HK
      rw [List.take_of_length_le (by rw [HL.out]; exact Nat.le_refl _)] at HZ
      go_wp2_with fail
      go_ret
      exact ⟨by rw [known_ok HQ.out HZ.out]; rfl, HB.out⟩
end Go.Proofs.Ytdlmhienolmncaa
