/- lex: octal, escape. -/
import Derived.Test.YtdiaijdobglaaaaGreatDoorLexG
namespace Go.Proofs.YtdiaijdobglaaaaGreatDoor
open Go.RowKit

theorem oct_in {x : Nat} (h : octB x = true) : 48 ≤ x ∧ x ≤ 55 := by
  unfold octB at h
  simpa using h
theorem octL_cons (d : Nat) (z : List Nat) : octL (d :: z) = if octB (hd z) = true then
      if octB (hd (z.drop 1)) = true then ([(64 * (d - 48) + 8 * (hd z - 48) + (hd (z.drop 1) - 48)) % 256], z.drop 2)
      else ([8 * (d - 48) + (hd z - 48)], z.drop 1)
    else ([d - 48], z) := rfl
/-- What octal answers: a byte, and the place behind. -/
def OctSaid (R : Nat) (A : Option Addr) (n c : Nat) (bs : List Nat) (d k : Nat) (w : World) (e : Ending) (w' : World) : Prop :=
  ∃ v k' : Nat, Moved R A n c bs k' (.int .u8 (v : Int)) w e w' ∧ v < 256 ∧ octL (d :: bs.drop k) = ([v], bs.drop k') ∧ k ≤ k'
set_option maxRecDepth 100000 in
set_option maxHeartbeats 4000000 in
theorem octal_any (R : Nat) (A : Option Addr) (n c : Nat) (bs : List Nat) (d k : Nat) (w : World) (h : Rdr w R A n c bs k) (hd0 : octB d = true) :
    Calls Tryz.prog 76 #[.pointer (some ⟨R, 0, none⟩), .int .u8 (d : Int)] w (OctSaid R A n c bs d k w) := by
  obtain ⟨c0, c1, c2, hRl⟩ := h.cells
  have hcap := h.bytes.cap
  have htop := h.bytes.top
  have hsm := h.small
  have hle := h.le
  obtain ⟨d1, d2⟩ := oct_in hd0
  have hw : IntKind.u8.wrap ((d : Int) - 48) = (d : Int) - 48 := by show _ % 256 = _; omega
  have H := Lib.hid h
  by_cases hk : k < n
  · obtain ⟨B, o, x, rfl, hBR, hB, hc, hx, hx2⟩ := h.at_ hk
    have i0 : (0 : Int) ≤ (k : Int) := by omega
    have i1 : (k : Int) < (n : Int) := by omega
    have HK := Lib.hid hk
    have HX := Lib.hid hx
    cases ho : octB x
    · have HO := Lib.hid ho
      have HE := Lib.hid (show octL (d :: bs.drop k) = ([d - 48], bs.drop k) by rw [octL_cons, hd_at hx, if_neg (by rw [ho]; decide)])
      clear h hx ho hk
      go_enter Tryz.func76, Tryz.ntmps76
      go_wp2_with fail
      refine wp_loop_rounds 1 ?_
      rw [rounds_succ]
      go_wp2_with fail
      go_quiet ((first | (go_at_call 29; exact Calls.quiet_of (more_t (H.out.drewN _) HK.out)) | (go_at_call 75; exact quiet_same (by have := isOctal_any x; rw [HO.out] at this; exact this _))))
      go_wp2_with fail
      go_ret
      exact ⟨d - 48, k, ⟨congrArg (fun z => Ending.returned (.int .u8 z)) (by omega), H.out.drewN _, (Fr.refl _ w).drewN _⟩, by omega, HE.out, Nat.le_refl _⟩
    · obtain ⟨x3, x4⟩ := oct_in ho
      have HO := Lib.hid ho
      have HXK := Lib.hid (hd_at hx)
      clear h ho hk
      by_cases hk2 : k + 1 < n
      · obtain ⟨y, hy⟩ : ∃ y, bs[k + 1]? = some y := ⟨_, List.getElem?_eq_getElem (by rw [H.out.len]; exact hk2)⟩
        have hy2 := H.out.bytes.byte y (List.mem_of_getElem? hy)
        have HY := Lib.hid hy
        have HYK := Lib.hid (show hd ((bs.drop k).drop 1) = y by rw [List.drop_drop]; exact hd_at hy)
        have HK2 := Lib.hid hk2
        have i2 : (0 : Int) ≤ (k : Int) + 1 := by omega
        have i3 : (k : Int) + 1 < (n : Int) := by omega
        clear hy hx
        cases oy : octB y
        · have HOY := Lib.hid oy
          have HE := Lib.hid (show octL (d :: bs.drop k) = ([8 * (d - 48) + (x - 48)], bs.drop (k + 1)) by rw [octL_cons, HXK.out, HYK.out, if_pos HO.out, if_neg (by rw [oy]; decide), List.drop_drop])
          clear oy
          go_enter Tryz.func76, Tryz.ntmps76
          go_wp2_with fail
          refine wp_loop_rounds 2 ?_
          rw [rounds_succ]
          go_wp2_with fail
          go_quiet ((first | (go_at_call 29; exact Calls.quiet_of (more_t (H.out.drewN _) HK.out)) | (go_at_call 75; exact quiet_same (by have := isOctal_any x; rw [HO.out] at this; exact this _))))
          go_wp2_with fail
          refine (take_any R _ n c bs k x _ (H.out.drewN _) HX.out).mono ?_
          rintro e w1 ⟨rfl, hr, hf⟩
          have HR1 := Lib.hid hr
          have HF1 := Lib.hid (Fr.from _ hf)
          obtain ⟨b0, b1, b2, hRl1⟩ := hr.cells
          have hcy := hr.at_ HK2.out
          obtain ⟨B', o', y', eB, -, hB', hcy, hy', -⟩ := hcy
          injection eB with eB
          injection eB with eB1 eB2
          subst eB1 eB2
          obtain rfl : y = y' := by rw [HY.out] at hy'; injection hy'
          clear hy'
          clear hr hf c0 c1 c2 hRl hc
          go_wp2_with fail
          rw [rounds_succ]
          go_wp2_with fail
          go_quiet ((first | (go_at_call 29; exact Calls.quiet_of (more_t (HR1.out.drewN _) HK2.out)) | (go_at_call 75; exact quiet_same (by have := isOctal_any y; rw [HOY.out] at this; exact this _))))
          go_wp2_with fail
          go_ret
          exact ⟨8 * (d - 48) + (x - 48), k + 1, ⟨congrArg (fun z => Ending.returned (.int .u8 z)) (by omega), HR1.out.drewN _, HF1.out.drewN _⟩, by omega, HE.out, by omega⟩
        · obtain ⟨y3, y4⟩ := oct_in oy
          have HOY := Lib.hid oy
          have HE := Lib.hid (show octL (d :: bs.drop k) = ([(64 * (d - 48) + 8 * (x - 48) + (y - 48)) % 256], bs.drop (k + 2)) by rw [octL_cons, HXK.out, HYK.out, if_pos HO.out, if_pos oy, List.drop_drop])
          clear oy
          go_enter Tryz.func76, Tryz.ntmps76
          go_wp2_with fail
          refine wp_loop_rounds 3 ?_
          rw [rounds_succ]
          go_wp2_with fail
          go_quiet ((first | (go_at_call 29; exact Calls.quiet_of (more_t (H.out.drewN _) HK.out)) | (go_at_call 75; exact quiet_same (by have := isOctal_any x; rw [HO.out] at this; exact this _))))
          go_wp2_with fail
          refine (take_any R _ n c bs k x _ (H.out.drewN _) HX.out).mono ?_
          rintro e w1 ⟨rfl, hr, hf⟩
          have HR1 := Lib.hid hr
          have HF1 := Lib.hid (Fr.from _ hf)
          obtain ⟨b0, b1, b2, hRl1⟩ := hr.cells
          have hcy := hr.at_ HK2.out
          obtain ⟨B', o', y', eB, -, hB', hcy, hy', -⟩ := hcy
          injection eB with eB
          injection eB with eB1 eB2
          subst eB1 eB2
          obtain rfl : y = y' := by rw [HY.out] at hy'; injection hy'
          clear hy'
          clear hr hf c0 c1 c2 hRl hc
          go_wp2_with fail
          rw [rounds_succ]
          go_wp2_with fail
          go_quiet ((first | (go_at_call 29; exact Calls.quiet_of (more_t (HR1.out.drewN _) HK2.out)) | (go_at_call 75; exact quiet_same (by have := isOctal_any y; rw [HOY.out] at this; exact this _))))
          go_wp2_with fail
          refine (take_any R _ n c bs (k + 1) y _ (HR1.out.drewN _) HY.out).mono ?_
          rintro e w2 ⟨rfl, hr, hf⟩
          have HR2 := Lib.hid hr
          have HF2 := Lib.hid (FrR.trans HF1.out (Fr.from _ hf))
          clear hr hf b0 b1 b2 hRl1
          go_wp2_with fail
          rw [rounds_succ]
          go_wp2_with fail
          go_quiet (fail)
          go_wp2_with fail
          go_ret
          exact ⟨(64 * (d - 48) + 8 * (x - 48) + (y - 48)) % 256, k + 2, ⟨congrArg (fun z => Ending.returned (.int .u8 z)) (by omega), HR2.out.drewN _, HF2.out.drewN _⟩, by omega, HE.out, by omega⟩
      · have HE := Lib.hid (show octL (d :: bs.drop k) = ([8 * (d - 48) + (x - 48)], bs.drop (k + 1)) by
          rw [octL_cons, HXK.out, if_pos HO.out, List.drop_drop, hd_none (by rw [H.out.len]; omega), if_neg (by decide)])
        have HK2 := Lib.hid hk2
        clear hx hk2
        go_enter Tryz.func76, Tryz.ntmps76
        go_wp2_with fail
        refine wp_loop_rounds 2 ?_
        rw [rounds_succ]
        go_wp2_with fail
        go_quiet ((first | (go_at_call 29; exact Calls.quiet_of (more_t (H.out.drewN _) HK.out)) | (go_at_call 75; exact quiet_same (by have := isOctal_any x; rw [HO.out] at this; exact this _))))
        go_wp2_with fail
        refine (take_any R _ n c bs k x _ (H.out.drewN _) HX.out).mono ?_
        rintro e w1 ⟨rfl, hr, hf⟩
        have HR1 := Lib.hid hr
        have HF1 := Lib.hid (Fr.from _ hf)
        obtain ⟨b0, b1, b2, hRl1⟩ := hr.cells
        clear hr hf c0 c1 c2 hRl hc
        go_wp2_with fail
        rw [rounds_succ]
        go_wp2_with fail
        go_quiet ((go_at_call 29; exact Calls.quiet_of (more_f (HR1.out.drewN _) HK2.out)))
        go_wp2_with fail
        go_ret
        exact ⟨8 * (d - 48) + (x - 48), k + 1, ⟨congrArg (fun z => Ending.returned (.int .u8 z)) (by omega), HR1.out.drewN _, HF1.out.drewN _⟩, by omega, HE.out, by omega⟩
  · have HE := Lib.hid (show octL (d :: bs.drop k) = ([d - 48], bs.drop k) by rw [octL_cons, hd_none (by rw [H.out.len]; omega), if_neg (by decide)])
    have HK := Lib.hid hk
    clear h hk
    go_enter Tryz.func76, Tryz.ntmps76
    go_wp2_with fail
    refine wp_loop_rounds 1 ?_
    rw [rounds_succ]
    go_wp2_with fail
    go_quiet ((go_at_call 29; exact Calls.quiet_of (more_f (H.out.drewN _) HK.out)))
    go_wp2_with fail
    go_ret
    exact ⟨d - 48, k, ⟨congrArg (fun z => Ending.returned (.int .u8 z)) (by omega), H.out.drewN _, (Fr.refl _ w).drewN _⟩, by omega, HE.out, Nat.le_refl _⟩
end Go.Proofs.YtdiaijdobglaaaaGreatDoor
