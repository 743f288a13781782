/- The walk of BitsBytes. -/
import Derived.Test.YtaophopgmmjbeaaBitsAwake
namespace Go.Proofs.Ytaophopgmmjbeaa
open Go.RowKit

theorem digit_num : ∀ (bs : List Nat), (∀ b ∈ bs, b < 256) → ∀ i b, bs[i]? = some b → digit (num bs) i = b
  | [], _, i, b, h => by simp at h
  | x :: l, hb, 0, b, h => by
    have h1 := hb x (List.mem_cons_self ..)
    simp at h
    subst h
    simp only [digit, num, Nat.pow_zero, Nat.div_one]
    omega
  | x :: l, hb, i + 1, b, h => by
    have h1 := hb x (List.mem_cons_self ..)
    have ih := digit_num l (fun y hy => hb y (List.mem_cons_of_mem _ hy)) i b (by simpa using h)
    unfold digit at ih ⊢
    rw [Nat.pow_succ, Nat.mul_comm, ← Nat.div_div_eq_div_mul]
    have : num (x :: l) / 256 = num l := by simp only [num]; omega
    rw [this]
    exact ih
theorem row_bytes {w : World} {g : Nat} {bs : List Nat} (hw : Whole w g 5 (rowB (num bs) bs.length bs.length)) (hb : ∀ b ∈ bs, b < 256) (hl : bs.length ≤ 1000000) : Bytes w (some ⟨g, 0, none⟩) bs.length bs.length bs :=
  ⟨rfl, Nat.le_refl _, by omega, hb, fun _ => ⟨g, 0, rfl, hw.lt, fun i b h => by
    have hi := (List.getElem?_eq_some_iff.1 h).1
    rw [hw.reads, rowB_at _ _ _ _ (by omega), if_pos (by omega), digit_num bs hb (0 + i) b (by simpa using h)]⟩⟩
theorem Bytes.fr {w w' : World} {A : Option Addr} {n c : Nat} {bs : List Nat} {S : Nat → Prop} (h : Bytes w A n c bs) (hf : Fr S w w') (hn : 0 < n → ∀ R o, A = some ⟨R, o, none⟩ → R < w.heap.size → ¬ S R) : Bytes w' A n c bs :=
  ⟨h.len, h.cap, h.top, h.byte, fun h0 => by
    obtain ⟨R, o, e, hR, hc⟩ := h.at_ h0
    exact ⟨R, o, e, Nat.lt_of_lt_of_le hR hf.size, fun i b hb => (World.cell?_of_block (w := w) (hf.block R hR (hn h0 R o e hR))).trans (hc i b hb)⟩⟩
set_option maxRecDepth 100000 in
set_option maxHeartbeats 4000000 in
theorem bytes_law (A : Option Addr) (n c : Nat) (bs : List Nat) (w : World) (h : Bytes w A n c bs) :
    Calls Try.prog 7 #[.slice A n c] w (True_ w) := by
  have hl := h.len
  subst hl
  by_cases hn : 500 < bs.length
  · go_enter Try.func7, Try.ntmps7
    go_wp2
    go_ret
    exact ⟨rfl, Below.refl _ _⟩
  have hn : bs.length ≤ 500 := by omega
  have H := Lib.hid h
  clear h
  go_enter Try.func7, Try.ntmps7
  go_wp2_with fail
  refine (newReader_any bs bs.length c A _ H.out (by omega)).mono ?_
  rintro e w1 ⟨B1, R1, rfl, a1, a2, a3, hr1, hb1⟩
  have hB1 := hr1.lt
  have H1 := Lib.hid (And.intro hr1 hb1)
  clear hr1 hb1
  go_wp2_with fail
  refine (newReader_any bs bs.length c A _ (H.out.below H1.out.2) (by omega)).mono ?_
  rintro e w2 ⟨B2, R2, rfl, b1, b2, b3, hr2, hb2⟩
  have hB2 := hr2.lt
  have hr1' := H1.out.1.frame (Fr.of_below hb2) (by omega) (by omega)
  have hs2 := hb2.size
  have H2 := Lib.hid (And.intro hr1' (And.intro hr2 (H1.out.2.trans (hb2.mono (by have := H1.out.2.size; omega)))))
  clear hr2 hb2 hr1'
  go_wp2_with fail
  refine (rbytes_any B1 R1 (num bs) (8 * bs.length) bs.length _ H2.out.1 (by omega) (by omega) (by omega)).mono ?_
  rintro e w3 ⟨g, rfl, hg1, hg2, hr3, hg3⟩
  rw [show 8 * bs.length % 8 = 0 by omega, Nat.pow_zero, Nat.div_one] at hg2 hr3
  rw [show 8 * bs.length - 0 - 8 * bs.length = 0 by omega] at hr3
  have hf3 := Fr.of_grown hg3
  have hr4 : RD w3 B2 R2 (num bs) (8 * bs.length) := H2.out.2.1.frame hf3 (fun e => by injection e; omega) (fun e => by injection e; omega)
  have hb3 : Below w.heap.size w w3 := H2.out.2.2.trans (hf3.below (by omega) (fun j hj e => by injection e; omega))
  have hby := row_bytes hg2 H.out.byte (by omega)
  have hw3 : w2.heap.size ≤ w3.heap.size := hf3.size
  have H3 := Lib.hid (And.intro hr3 (And.intro hr4 (And.intro hb3 hby)))
  clear hg2 hr3 hr4 hb3 hby hg3 hf3
  go_wp2_with fail
  go_loopw [7] (fun x wr => ∃ i : Nat, i ≤ bs.length ∧ x = .int .i64 i ∧ RD wr B2 R2 (num bs / 2 ^ (8 * i)) (8 * bs.length - 8 * i) ∧ Fr (fun k => k = B2) w3 wr) (fun x _ => bs.length - (intOf x).toNat)
  case atStart => exact ⟨0, by omega, rfl, by simpa using H3.out.2.1, Fr.refl _ _⟩
  case round =>
    obtain ⟨i, hi, rfl, hr, hf⟩ := hrel
    have hbw : Below w.heap.size w wr := H3.out.2.2.1.trans (hf.below (by omega) (fun j hj e => by omega))
    have hsz := hf.size
    have H4 := Lib.hid (And.intro hr (And.intro hf hbw))
    clear hr hf hbw
    by_cases hlt : i < bs.length
    · obtain ⟨R, o, hA, hR, hcell⟩ := H.out.at_ (by omega)
      obtain ⟨x, hx⟩ : ∃ x, bs[i]? = some x := ⟨bs[i], List.getElem?_eq_getElem hlt⟩
      have hx1 := H.out.byte x (List.mem_of_getElem? hx)
      have hc1 := hcell i x hx
      have hd := digit_num bs H.out.byte i x hx
      have HX := Lib.hid (And.intro hx hd)
      have HA := Lib.hid hA
      have hcap := H.out.cap
      clear hx hd hcell hA
      go_wp2_with fail
      refine (rbits_any B2 R2 _ _ 8 _ H4.out.1 (by omega) (by omega)).mono ?_
      rintro e w5 ⟨rfl, hr5, hg5⟩
      rw [pull8_on] at hr5
      rw [pull8, HX.out.2]
      have hf5 := H4.out.2.1.trans (Fr.of_grown hg5) (fun j hj e => by injection e)
      have hb5 : Below w.heap.size w w5 := H3.out.2.2.1.trans (hf5.below (by omega) (fun j hj e => by omega))
      have hc5 : w5.cell? ⟨R, o + i, none⟩ = some (.int .u8 x) := (hb5.cell (p := ⟨R, o + i, none⟩) hR).trans hc1
      have H5 := Lib.hid (And.intro hr5 hf5)
      obtain rfl := HA.out
      clear hr5 hf5 hb5 hg5 hc1
      go_wp2_with fail
      refine (RD.left H5.out.1).mono ?_
      rintro e w6 ⟨rfl, j, rfl⟩
      rw [show ((8 * bs.length - 8 * i - 8 : Nat) : Int) = 8 * ((bs.length : Int) - i - 1) by omega]
      go_wp2
      go_roundw
      case rel => exact ⟨i + 1, by omega, by go_num, by rw [show 8 * bs.length - 8 * (i + 1) = 8 * bs.length - 8 * i - 8 by omega]; exact RS.drewN' H5.out.1 j, H5.out.2.drewN j⟩
      case measure => simp [intOf]; omega
    · obtain rfl : i = bs.length := by omega
      go_wp2_with fail
      refine (rbits_more B2 R2 _ _ 1 _ H4.out.1 (by omega) (by omega)).mono ?_
      rintro e w5 ⟨rfl, j, rfl⟩
      go_wp2_with fail
      refine (awake_any _).mono ?_
      rintro e w6 ⟨rfl, hb6⟩
      have hb6' : Below wr.heap.size wr w6 := (below_drewN (Below.refl _ _) j).trans hb6
      have hb7 : Below w.heap.size w w6 := H4.out.2.2.trans (hb6'.mono (by omega))
      have hf6 : Fr (fun k => k = B2) w3 w6 := H4.out.2.1.trans (Fr.of_below hb6') (fun j hj e => by omega)
      have hr6 : RD w6 B1 R1 _ 0 := H3.out.1.frame hf6 (by omega) (by omega)
      have hcv1 := (H.out.below hb7).str
      have hcv2 := (H3.out.2.2.2.fr hf6 (fun _ R o e _ e2 => by injection e with e; injection e with e1; omega)).str
      have H6 := Lib.hid (And.intro hr6 hb7)
      clear hr6 hb7 hb6 hb6' hf6
      go_wp2_with fail
      refine (RD.left H6.out.1).mono ?_
      rintro e w7 ⟨rfl, j2, rfl⟩
      go_wp2
      go_ret
      exact ⟨rfl, below_drewN H6.out.2 _⟩
end Go.Proofs.Ytaophopgmmjbeaa
