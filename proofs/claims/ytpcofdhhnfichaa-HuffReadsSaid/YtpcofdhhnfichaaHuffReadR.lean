/- The reference's Read. -/
import Derived.Test.YtpcofdhhnfichaaHuffReadT
import Derived.Test.YtpcofdhhnfichaaHuffWord
namespace Go.Proofs.Ytpcofdhhnfichaa
open Go.RowKit

theorem xbits_one (X R N n p c : Nat) (A : Option Addr) (w : World) (h : XR w X R N n p A c) (hL : p + 1 ≤ n) :
    Calls Try.prog 35 #[.pointer (some ⟨X, 0, none⟩), .int .i64 1] w fun e w' => e = .returned (.tuple #[.int .i64 (N / 2 ^ p % 2 : Nat), .int .i64 0]) ∧ XR w' X R N n (p + 1) A c ∧ Fr (fun j => j = X) w w' := by
  refine Calls.mono (xbits_any X R N n p c 1 A w h (by omega) hL) ?_
  rintro e w' ⟨rfl, h1, h2⟩
  exact ⟨rfl, h1, h2⟩
theorem xbits_none (X R N n p c : Nat) (A : Option Addr) (w : World) (h : XR w X R N n p A c) (hL : n < p + 1) :
    Calls Try.prog 35 #[.pointer (some ⟨X, 0, none⟩), .int .i64 1] w fun e w' => e = .returned (.tuple #[.int .i64 0, .int .i64 6]) ∧ ∃ j, w' = w.drewN j := xbits_more X R N n p c 1 A w h (by omega) hL
/-- What the reference's Read answers. -/
def XReadIs (l : List Int) (X R N n p c : Nat) (A : Option Addr) (w : World) (e : Ending) (w' : World) : Prop :=
  ∃ (s : Nat) (E : Int) (u : Nat), e = .returned (.tuple #[.int .i64 s, .int .i64 E]) ∧ RES l (N / 2 ^ p) (n - p) s E u ∧ XR w' X R N n (p + u) A c ∧ Fr (fun k => k = X) w w'
theorem fr_below {w0 w w' : World} {X : Nat} (h0 : Below w0.heap.size w0 w) (hX : w0.heap.size ≤ X) (hf : Fr (fun k => k = X) w w') : Below w0.heap.size w0 w' :=
  h0.trans (hf.below h0.size (fun j hj e => by omega))
set_option maxRecDepth 100000 in
set_option maxHeartbeats 4000000 in
theorem xread_any (X R N n p c : Nat) (A : Option Addr) (A0 : Option Addr) (n0 c0 : Nat) (l : List Int) (w0 w : World) (hI : IntsAt w0 A0 n0 c0 l) (hb0 : Below w0.heap.size w0 w) (hX : w0.heap.size ≤ X) (h : XR w X R N n p A c) (hRw : R < w.heap.size) (hok : lensOk l) (hsum : share (natsOf l) l.length ≤ 32768) :
    Calls Try.prog 20 #[.slice A0 n0 c0, .pointer (some ⟨X, 0, none⟩)] w (XReadIs l X R N n p c A w) := by
  have hl := hI.len
  subst hl
  have hcap := hI.cap
  have htop := hI.top
  have hn := hok.1
  have hXl := h.whole.lt
  have hple := h.le
  have hcod := refCodes_any A0 l.length c0 l w (hI.below hb0)
  have HC := Lib.hid hcod
  have HI := Lib.hid (And.intro hI hb0)
  have HX := Lib.hid h
  have HO := Lib.hid (And.intro hok hsum)
  clear hI hb0 h hok hsum hcod
  go_enter Try.func20, Try.ntmps20
  go_wp2_with fail
  refine HC.out.mono ?_
  rintro e w1 ⟨hb, ⟨hno, -⟩ | ⟨-, hov, -⟩ | ⟨-, -, g, hg, hw, rfl⟩⟩
  · exact absurd HO.out.1 hno
  · have := HO.out.2; omega
  have hf1 : Fr (fun k => k = X) w w1 := (Fr.of_below hb).more (fun j hj e => absurd hj (by omega))
  have hx1 := HX.out.frame ((Fr.of_below hb)) (by omega) (by omega)
  have hgX : g ≠ X := by omega
  have HS := Lib.hid (show XR w1 X R N n (p + 0) A c ∧ Whole w1 g 3 (codesArr l 15 0) ∧ Fr (fun k => k = X) w w1 from ⟨hx1, hw, hf1⟩)
  clear hb hf1 hx1 hw
  go_wp2_with fail
  go_loopw [8, 9] (fun v z wr => ∃ L : Nat, L ≤ 15 ∧ p + L ≤ n ∧ z = .int .i64 ((L : Int) + 1) ∧ v = .int .i64 (revB (N / 2 ^ p) L : Int) ∧ Hid (∀ j, j < L → hit l (N / 2 ^ p) j = none) ∧ XR wr X R N n (p + L) A c ∧ Whole wr g 3 (codesArr l 15 0) ∧ Fr (fun k => k = X) w wr) (fun _ z _ => 17 - (intOf z).toNat)
  case atStart => exact ⟨0, by omega, by omega, rfl, by simp [revB], Lib.hid (fun j hj => absurd hj (by omega)), HS.out.1, HS.out.2.1, HS.out.2.2⟩
  case round =>
    obtain ⟨L, hL, hpL, rfl, rfl, HH, hx, hw, hf⟩ := hrel
    have hrv := revB_le (N / 2 ^ p) L hL
    have HF := Lib.hid (And.intro hx (And.intro hw hf))
    clear hx hw hf
    by_cases hlt : L < 15
    · by_cases hav : n ≤ p + L
      · obtain rfl : n = p + L := by omega
        go_wp2_with fail
        refine (xbits_none X R _ _ _ _ _ wr HF.out.1 (by omega)).mono ?_
        rintro e w2 ⟨rfl, j, rfl⟩
        go_wp2_with fail
        go_ret2
        exact ⟨0, 6, L, rfl, .inr (.inl ⟨by omega, fun j hj => HH.out j (by omega), rfl, rfl, by omega⟩), HF.out.1.drewN j, HF.out.2.2.drewN j⟩
      · go_wp2_with fail
        refine (xbits_one X R _ _ _ _ _ wr HF.out.1 (by omega)).mono ?_
        rintro e w2 ⟨rfl, hx2, hf2⟩
        have hbit : N / 2 ^ (p + L) % 2 = N / 2 ^ p / 2 ^ L % 2 := by rw [Nat.div_div_eq_div_mul, ← Nat.pow_add]
        rw [hbit]
        have hb2 : N / 2 ^ p / 2 ^ L % 2 < 2 := Nat.mod_lt _ (by decide)
        have hnx : revB (N / 2 ^ p) (L + 1) = 2 * revB (N / 2 ^ p) L + N / 2 ^ p / 2 ^ L % 2 := rfl
        have hf02 := HF.out.2.2.trans hf2 (fun _ _ e => e)
        have hw2 := HF.out.2.1.frame hf2 hgX
        have hI2 := HI.out.1.below (fr_below HI.out.2 hX hf02)
        have H2 := Lib.hid (And.intro hx2 (And.intro hw2 (And.intro hf02 hI2)))
        have HNX := Lib.hid hnx
        clear hx2 hf2 hbit hnx hf02 hw2 hI2
        generalize hV : revB (N / 2 ^ p) L = V at *
        have HV := Lib.hid hV
        clear hV
        generalize N / 2 ^ p / 2 ^ L % 2 = bt at *
        go_wp2_with fail
        go_loop [12] (fun y => ∃ s : Nat, s ≤ l.length ∧ y = .int .i64 s ∧ Hid (∀ j, j < s → ¬ ((natsOf l)[j]? = some (L + 1) ∧ codeOf (natsOf l) j (L + 1) = 2 * V + bt))) (fun y => l.length - (intOf y).toNat)
        case atStart => exact ⟨0, by omega, rfl, Lib.hid (fun j hj => absurd hj (by omega))⟩
        case round =>
          obtain ⟨s, hs, rfl, HQ⟩ := hrel
          by_cases hsl : s < l.length
          · obtain ⟨R0, o0, hA, hR0, hcell⟩ := H2.out.2.2.2.at_ (by omega)
            obtain ⟨x, hx⟩ : ∃ x, l[s]? = some x := ⟨l[s], List.getElem?_eq_getElem hsl⟩
            have hc1 := hcell s x hx
            have hxr := HO.out.1.2 x (List.mem_of_getElem? hx)
            have HXX := Lib.hid hx
            have HA := Lib.hid hA
            clear hx hcell hA
            obtain rfl := HA.out
            have hstep : ∀ (P : Prop), (¬ ((natsOf l)[s]? = some (L + 1) ∧ codeOf (natsOf l) s (L + 1) = 2 * V + bt)) → (∀ j, j < s + 1 → ¬ ((natsOf l)[j]? = some (L + 1) ∧ codeOf (natsOf l) j (L + 1) = 2 * V + bt)) := fun _ h j hj => by
              rcases Nat.lt_or_ge j s with e | e
              · exact HQ.out j e
              · obtain rfl : j = s := by omega
                exact h
            have HST := Lib.hid hstep
            clear hstep
            by_cases hx1 : x = (L : Int) + 1
            · subst hx1
              have hnat : (natsOf l)[s]? = some (L + 1) := by
                have := natsOf_at HXX.out
                rwa [show ((L : Int) + 1).toNat = L + 1 by omega] at this
              have hci := codeIn_has l s (L + 1) (by have := HXX.out; simpa using this) (by omega) (by omega)
              have hcg : w2.cell? ⟨g, s, none⟩ = some (.int .i64 (codeOf (natsOf l) s (L + 1) : Int)) := by rw [H2.out.2.1.reads, codesArr_at l 15 0 s hsl, hci]
              have hlg := H2.out.2.1.lt
              have HNA := Lib.hid hnat
              clear hnat hci
              by_cases hq : codeOf (natsOf l) s (L + 1) = 2 * V + bt
              · have HHIT := Lib.hid ((hit_iff l (N / 2 ^ p) L s).2 ⟨hsl, HNA.out, by rw [hq, HNX.out]⟩)
                rw [hq] at hcg
                clear hq
                go_wp2_with fail
                go_ret2
                exact ⟨s, 0, L + 1, rfl, .inl ⟨L, hlt, by omega, HH.out, HHIT.out, rfl, rfl⟩, H2.out.1, H2.out.2.2.1⟩
              · have HNE := Lib.hid (HST.out True (fun h => hq h.2))
                have hbb : ((codeOf (natsOf l) s (L + 1) : Int) == 2 * (V : Int) + (bt : Int)) = false := by
                  rw [beq_eq_false_iff_ne]; omega
                generalize codeOf (natsOf l) s (L + 1) = cq at hcg hbb
                clear hq
                go_wp2_with fail
                exact ⟨⟨s + 1, by omega, by go_num, HNE⟩, by simp [intOf]; omega⟩
            · have HNE := Lib.hid (HST.out True (fun h => hx1 (by
                have := natsOf_at HXX.out
                rw [h.1] at this
                injection this with this
                omega)))
              go_wp2_with fail
              exact ⟨⟨s + 1, by omega, by go_num, HNE⟩, by simp [intOf]; omega⟩
          · obtain rfl : s = l.length := by omega
            have hno : hit l (N / 2 ^ p) L = none := by
              cases hh : hit l (N / 2 ^ p) L with
              | none => rfl
              | some s =>
                obtain ⟨a, b, c⟩ := (hit_iff l (N / 2 ^ p) L s).1 hh
                exact absurd ⟨b, by rw [c, HNX.out]⟩ (HQ.out s a)
            have hnone : ∀ j, j < L + 1 → hit l (N / 2 ^ p) j = none := fun j hj => by
              rcases Nat.lt_or_ge j L with e | e
              · exact HH.out j e
              · obtain rfl : j = L := by omega
                exact hno
            have HNN := Lib.hid hnone
            clear hno hnone
            go_wp2_with fail
            go_roundw
            case rel => exact ⟨L + 1, by omega, by omega, by go_num, congrArg (Value.int .i64) (by rw [HNX.out]; omega), HNN, H2.out.1, H2.out.2.1, H2.out.2.2.1⟩
            case measure => simp [intOf]; omega
    · obtain rfl : L = 15 := by omega
      go_wp2_with fail
      go_ret2
      exact ⟨0, 4, 15, rfl, .inr (.inr ⟨by omega, HH.out, rfl, rfl, rfl⟩), HF.out.1, HF.out.2.2⟩
end Go.Proofs.Ytpcofdhhnfichaa
