/- huff's assign, for any closure that keeps an invariant. -/
import Derived.Test.YtdoliloiagfagaaDoorHuffMeas
namespace Go.Proofs.YtdoliloiagfagaaDoor
open Go.RowKit

/-- The code in round s of length L + 1. -/
def codeAt (l : List Int) (L s : Nat) : Nat := 2 * endC (natsOf l) L + cnt (natsOf l) (L + 1) s
theorem natsOf_length (l : List Int) : (natsOf l).length = l.length := by simp [natsOf]
theorem codeAt_end (l : List Int) (L : Nat) : codeAt l L l.length = endC (natsOf l) (L + 1) := by simp [codeAt, endC, natsOf_length]
theorem codeAt_zero (l : List Int) (L : Nat) : codeAt l L 0 = 2 * endC (natsOf l) L := by simp [codeAt, cnt_zero]
theorem codeAt_hit {l : List Int} {L s : Nat} (h : l[s]? = some ((L : Int) + 1)) : codeAt l L (s + 1) = codeAt l L s + 1 := by
  have := cnt_succ (L + 1) (natsOf_at h)
  have e : ((L : Int) + 1).toNat = L + 1 := by omega
  rw [e, if_pos rfl] at this
  simp [codeAt, this]
  omega
theorem codeAt_miss {l : List Int} {L s : Nat} {x : Int} (h : l[s]? = some x) (h0 : 0 ≤ x) (hx : x ≠ (L : Int) + 1) : codeAt l L (s + 1) = codeAt l L s := by
  have := cnt_succ (L + 1) (natsOf_at h)
  have hne : ¬ x.toNat = L + 1 := fun e => hx (by have := Int.toNat_of_nonneg h0; omega)
  rw [if_neg hne] at this
  simp [codeAt, this]
theorem codeAt_le (l : List Int) (hl : l.length ≤ 320) (L s : Nat) (hL : L < 15) (hs : s ≤ l.length) : codeAt l L s ≤ 20972160 := by
  have h1 := endC_le (natsOf l) (by rw [natsOf_length]; exact hl) L
  have h2 := cnt_le (natsOf l) (L + 1) s
  have h3 : 2 ^ L ≤ 2 ^ 15 := Nat.pow_le_pow_right (by decide) (by omega)
  unfold codeAt
  generalize 2 ^ L = z at *
  omega
theorem endC_small (l : List Int) (hl : l.length ≤ 320) (L : Nat) (hL : L ≤ 15) : endC (natsOf l) L ≤ 20972160 := by
  have h1 := endC_le (natsOf l) (by rw [natsOf_length]; exact hl) L
  have h3 : 2 ^ L ≤ 2 ^ 15 := Nat.pow_le_pow_right (by decide) (by omega)
  generalize 2 ^ L = z at *
  omega
theorem code_shift (x : Nat) (h : x ≤ 20972160) : wrap64 ((x : Int) * 2) = ((2 * x : Nat) : Int) := by
  rw [IntWalk.wrap64_in _ ⟨by omega, by omega⟩]
  omega
set_option maxRecDepth 100000 in
set_option maxHeartbeats 4000000 in
theorem assign_any (f : Nat) (capt : Array Value) (P : Nat → Nat → World → Prop) (A : Option Addr) (n c : Nat) (l : List Int) (w0 w : World) (hf : ∀ (args : Array Value) (w : World), (callFunc f args).run Tryd.prog w = .ok (.enter f args) w) (h : IntsAt w0 A n c l) (hok : lensOk l)
    (keep : ∀ (L s : Nat) (w' : World), P L s w' → Below w0.heap.size w0 w')
    (step : ∀ (L s : Nat) (w' : World), L < 15 → s < l.length → l[s]? = some ((L : Int) + 1) → P L s w' → Calls Tryd.prog f (#[.int .i64 s, .int .i64 (codeAt l L s : Int)] ++ capt) w' fun e w'' => e = .returned (.tuple #[]) ∧ P L (s + 1) w'')
    (skip : ∀ (L s : Nat) (w' : World) (x : Int), L < 15 → l[s]? = some x → x ≠ (L : Int) + 1 → P L s w' → P L (s + 1) w')
    (next : ∀ (L : Nat) (w' : World), L < 15 → P L l.length w' → P (L + 1) 0 w')
    (h0 : P 0 0 w) :
    Calls Tryd.prog 68 #[.slice A n c, .func (.func f) #[] capt] w fun e w' => e = .returned (.tuple #[]) ∧ P 15 0 w' := by
  have hl := h.len
  subst hl
  have hcap := h.cap
  have htop := h.top
  have hn := hok.1
  have H := Lib.hid h
  have HO := Lib.hid hok
  have HK := Lib.hid keep
  have HS := Lib.hid step
  have HI := Lib.hid skip
  have HN := Lib.hid next
  have H0 := Lib.hid h0
  clear h hok keep step skip next h0
  go_enter Tryd.func68, Tryd.ntmps68
  go_wp2
  go_loopw [4, 5, 6, 7] (fun x y _ _ wr => ∃ L : Nat, L ≤ 15 ∧ y = .int .i64 ((L : Int) + 1) ∧ x = .int .i64 (endC (natsOf l) L : Int) ∧ P L 0 wr) (fun _ y _ _ _ => 16 - (intOf y).toNat)
  case atStart => exact ⟨0, by omega, rfl, by simp [endC], H0.out⟩
  case round =>
    obtain ⟨L, hL, rfl, rfl, hp⟩ := hrel
    have hsm := endC_small l hn L hL
    have hsh := code_shift _ hsm
    have HP := Lib.hid hp
    clear hp
    by_cases hlt : L < 15
    · go_wp2
      go_loopw [4, 6, 7, 16] (fun x _ _ z ws => ∃ s : Nat, s ≤ l.length ∧ z = .int .i64 s ∧ x = .int .i64 (codeAt l L s : Int) ∧ P L s ws) (fun _ _ _ z _ => l.length - (intOf z).toNat)
      case atStart => exact ⟨0, by omega, rfl, congrArg (Value.int .i64) (by rw [codeAt_zero]; omega), HP.out⟩
      case round =>
        obtain ⟨s, hs, rfl, rfl, hp⟩ := hrel
        have hcl := codeAt_le l hn L s hlt hs
        have HP := Lib.hid hp
        clear hp
        by_cases hls : s < l.length
        · obtain ⟨R, o, hA, hR, hcell⟩ := H.out.at_ (by omega)
          obtain ⟨x, hx⟩ : ∃ x, l[s]? = some x := ⟨l[s], List.getElem?_eq_getElem hls⟩
          have hc1 := ((HK.out L s wr HP.out).cell (p := ⟨R, o + s, none⟩) hR).trans (hcell s x hx)
          have HX := Lib.hid hx
          have HA := Lib.hid hA
          clear hx hcell hA
          obtain rfl := HA.out
          by_cases he : x = (L : Int) + 1
          · subst he
            go_wp2_with fail
            refine (HS.out L s wr hlt hls HX.out HP.out).mono ?_
            rintro e w1 ⟨rfl, hp1⟩
            have HP1 := Lib.hid hp1
            clear hp1
            go_wp2
            have hd : decide ((L : Int) + 1 ≤ 15) = true := decide_eq_true (by omega)
            simp only [hd]
            go_roundw
            case rel => exact ⟨s + 1, by omega, by go_num, congrArg (Value.int .i64) (by rw [codeAt_hit HX.out]; omega), HP1.out⟩
            case measure => simp [intOf]; omega
          · have hpos := (HO.out.2 x (List.mem_of_getElem? HX.out)).1
            go_wp2
            go_roundw
            case rel => exact ⟨s + 1, by omega, by go_num, by rw [codeAt_miss HX.out hpos he], HI.out L s wr x hlt HX.out he HP.out⟩
            case measure => simp [intOf]; omega
        · obtain rfl : s = l.length := by omega
          go_wp2
          go_roundw
          case rel => exact ⟨L + 1, by omega, by go_num, by rw [codeAt_end], HN.out L wr hlt HP.out⟩
          case measure => simp [intOf]; omega
    · obtain rfl : L = 15 := by omega
      go_wp2
      go_end0
      exact ⟨rfl, HP.out⟩
end Go.Proofs.YtdoliloiagfagaaDoor
