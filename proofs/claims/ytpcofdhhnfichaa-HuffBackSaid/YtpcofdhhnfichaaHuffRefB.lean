/- The reference of huff: Codes. -/
import Derived.Test.YtpcofdhhnfichaaHuffRefA
namespace Go.Proofs.Ytpcofdhhnfichaa
open Go.RowKit

set_option maxRecDepth 100000 in
set_option maxHeartbeats 4000000 in
theorem refCodes_any (A : Option Addr) (n c : Nat) (l : List Int) (w : World) (h : IntsAt w A n c l) :
    Calls Try.prog 10 #[.slice A n c] w (CodesAns l w) := by
  have hl := h.len
  subst hl
  have hcap := h.cap
  have htop := h.top
  have hm := share_any A l.length c l w h
  have H := Lib.hid h
  have HM := Lib.hid hm
  clear h hm
  go_enter Try.func10, Try.ntmps10
  go_wp2_with fail
  refine HM.out.mono ?_
  rintro e w1 ⟨rfl, ⟨hno, rfl⟩ | ⟨hok, rfl⟩⟩
  · have HX := Lib.hid hno
    clear hno
    go_wp2
    go_ret2
    exact ⟨Below.refl _ _, .inl ⟨HX.out, rfl⟩⟩
  by_cases hov : 32768 < share (natsOf l) l.length
  · have HX := Lib.hid hok
    clear hok
    go_wp2
    go_ret2
    exact ⟨Below.refl _ _, .inr (.inl ⟨HX.out, hov, rfl⟩)⟩
  have hn := hok.1
  have HO := Lib.hid hok
  clear hok
  have hmk := fun W => run_make_row' (P := Try.prog) 22 3 (.int .i64 0) 8 Try.underlying22 (by kernel_rfl) rfl .i64 .i64 l.length (by omega) (by omega) W
  go_wp2_with fail
  go_loopw [6, 7] (fun x y wr => ∃ L : Nat, L ≤ 15 ∧ y = .int .i64 ((L : Int) + 1) ∧ x = .int .i64 (endC (natsOf l) L : Int) ∧ Whole wr w1.heap.size 3 (codesArr l L 0) ∧ Below w1.heap.size w1 wr) (fun _ y _ => 16 - (intOf y).toNat)
  case atStart =>
    refine ⟨0, by omega, rfl, by simp [endC], ?_, (Below.refl _ _).alloc (Nat.le_refl _) _⟩
    rw [← codesArr_zero]
    exact Whole.made _ _ _
  case round =>
    obtain ⟨L, hL, rfl, rfl, hw, hb⟩ := hrel
    have hsm := endC_small l hn L hL
    have HP := Lib.hid (And.intro hw hb)
    clear hw hb
    by_cases hlt : L < 15
    · go_wp2_with fail
      go_loopw [6, 8] (fun x z ws => ∃ s : Nat, s ≤ l.length ∧ z = .int .i64 s ∧ x = .int .i64 (codeAt l L s : Int) ∧ Whole ws w1.heap.size 3 (codesArr l L s) ∧ Below w1.heap.size w1 ws) (fun _ z _ => l.length - (intOf z).toNat)
      case atStart => exact ⟨0, by omega, rfl, congrArg (Value.int .i64) (by rw [codeAt_zero]; omega), HP.out.1, HP.out.2⟩
      case round =>
        obtain ⟨s, hs, rfl, rfl, hw, hb⟩ := hrel
        have hcl := codeAt_le l hn L s hlt hs
        by_cases hls : s < l.length
        · obtain ⟨R, o, hA, hR, hcell⟩ := H.out.at_ (by omega)
          obtain ⟨x, hx⟩ : ∃ x, l[s]? = some x := ⟨l[s], List.getElem?_eq_getElem hls⟩
          have hc1 := (hb.cell (p := ⟨R, o + s, none⟩) hR).trans (hcell s x hx)
          have cg : wr.cell? ⟨w1.heap.size, s, none⟩ = some (.int .i64 (codeIn l L s s : Int)) := by rw [hw.reads, codesArr_at l L s s hls]
          have fg := hw.thawed s
          have lg := hw.lt
          have HX := Lib.hid hx
          have HA := Lib.hid hA
          have HP := Lib.hid (And.intro hw hb)
          clear hx hcell hA hw hb
          obtain rfl := HA.out
          by_cases he : x = (L : Int) + 1
          · subst he
            have h1 := HP.out.1.set s (.int .i64 (codeAt l L s : Int))
            rw [codesArr_hit HX.out] at h1
            have HQ := Lib.hid (And.intro h1 (HP.out.2.setCell (p := ⟨w1.heap.size, s, none⟩) (Nat.le_refl _) (.int .i64 (codeAt l L s : Int))))
            have hh := codeAt_hit HX.out
            have HH := Lib.hid hh
            clear h1 hh
            go_wp2_with fail
            go_roundw
            case rel => exact ⟨s + 1, by omega, by go_num, congrArg (Value.int .i64) (by rw [HH.out]; omega), HQ.out⟩
            case measure => simp [intOf]; omega
          · have hpos := (HO.out.2 x (List.mem_of_getElem? HX.out)).1
            go_wp2_with fail
            go_roundw
            case rel => exact ⟨s + 1, by omega, by go_num, by rw [codeAt_miss HX.out hpos he], by rw [← codesArr_miss HX.out he]; exact HP.out.1, HP.out.2⟩
            case measure => simp [intOf]; omega
        · obtain rfl : s = l.length := by omega
          have HP := Lib.hid (And.intro hw hb)
          clear hw hb
          go_wp2_with fail
          go_roundw
          case rel => exact ⟨L + 1, by omega, by go_num, by rw [codeAt_end], by rw [← codesArr_next]; exact HP.out.1, HP.out.2⟩
          case measure => simp [intOf]; omega
    · obtain rfl : L = 15 := by omega
      go_wp2
      go_ret2
      exact ⟨HP.out.2, .inr (.inr ⟨HO.out, by omega, _, Nat.le_refl _, HP.out.1, rfl⟩)⟩
end Go.Proofs.Ytpcofdhhnfichaa
