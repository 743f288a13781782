/- The document's examples for bits: awake answers true. -/
import Derived.Test.YtaophopgmmjbeaaBitsWrB
import Derived.Laws.BytesString
import Derived.Laws.IdiomStrings
import Derived.Laws.BytesArg
import Derived.Test.YtaophopgmmjbeaaLaidBytes
namespace Go.Proofs.Ytaophopgmmjbeaa
open Go.RowKit

/-- The text of bytes. -/
def strB (bs : List Nat) : ByteArray := ⟨(bs.map UInt8.ofNat).toArray⟩
theorem Bytes.str {w : World} {A : Option Addr} {n c : Nat} {bs : List Nat} (h : Bytes w A n c bs) : (convert 22 9 (.slice A n c)).run Try.prog w = .ok (.string (strB bs)) w := by
  have hl := h.len
  by_cases hn : n = 0
  · subst hn
    obtain rfl : bs = [] := List.eq_nil_of_length_eq_zero hl
    cases A with
    | none => exact run_convert_bytes_nil w _ _ Try.underlying22 Try.underlying5 0 c _ Try.underlying9
    | some a => exact run_convert_bytes_back w _ _ _ a c [] Try.underlying22 Try.underlying5 Try.underlying9 (fun j hj => by simp at hj)
  · obtain ⟨R, o, rfl, hR, hc⟩ := h.at_ (by omega)
    have := run_convert_bytes_back (P := Try.prog) w 22 9 5 ⟨R, o, none⟩ c (bs.map UInt8.ofNat) Try.underlying22 Try.underlying5 Try.underlying9 (fun j hj => by
      have hj' : j < bs.length := by simpa using hj
      have e2 : (⟨R, o, none⟩ : Addr).add j = ⟨R, o + j, none⟩ := by
        unfold Addr.add; by_cases h0 : j = 0 <;> simp [h0]
      have hb := h.byte bs[j] (List.getElem_mem hj')
      rw [e2, hc j bs[j] (List.getElem?_eq_getElem hj')]
      simp only [List.getElem_map, UInt8.toNat_ofNat']
      rw [Nat.mod_eq_of_lt hb])
    rw [List.length_map, hl] at this
    exact this
theorem strB_ext {a b : List Nat} (ha : ∀ x ∈ a, x < 256) (hb : ∀ x ∈ b, x < 256) (h : strB a = strB b) : a = b := by
  have h1 : a.map UInt8.ofNat = b.map UInt8.ofNat := by
    have := congrArg (fun s : ByteArray => s.data.toList) h
    simpa [strB] using this
  have h2 := congrArg (List.map UInt8.toNat) h1
  rw [List.map_map, List.map_map] at h2
  have key : ∀ l : List Nat, (∀ x ∈ l, x < 256) → l.map (UInt8.toNat ∘ UInt8.ofNat) = l := by
    intro l hl
    induction l with
    | nil => rfl
    | cons x l ih =>
      rw [List.map_cons, ih (fun y hy => hl y (List.mem_cons_of_mem _ hy))]
      have := hl x (List.mem_cons_self ..)
      congr 1
      simp only [Function.comp, UInt8.toNat_ofNat']
      exact Nat.mod_eq_of_lt this
  rwa [key a ha, key b hb] at h2
theorem num_ext : ∀ {a b : List Nat}, (∀ x ∈ a, x < 256) → (∀ x ∈ b, x < 256) → a.length = b.length → num a = num b → a = b
  | [], [], _, _, _, _ => rfl
  | [], _ :: _, _, _, h, _ => by simp at h
  | _ :: _, [], _, _, h, _ => by simp at h
  | x :: a, y :: b, ha, hb, hl, hn => by
    have h1 := ha x (List.mem_cons_self ..)
    have h2 := hb y (List.mem_cons_self ..)
    simp only [num] at hn
    have ht : num a = num b := by omega
    have hx : x = y := by omega
    subst hx
    rw [num_ext (fun z hz => ha z (List.mem_cons_of_mem _ hz)) (fun z hz => hb z (List.mem_cons_of_mem _ hz)) (by simpa using hl) ht]
theorem RS.frame {w : World} {B R : Nat} {A : Option Addr} {n c word held : Nat} {bs : List Nat} (h : RS w B R A n c word held bs) {w' : World} {S : Nat → Prop} (hg : Fr S w w') (hB : ¬ S B) (hR : ¬ S R) : RS w' B R A n c word held bs :=
  ⟨h.whole.frame hg hB, h.len, h.cap, h.top, h.byte, h.low, fun hn => by
    obtain ⟨o, cur, e, hw, hc⟩ := h.rest hn
    exact ⟨o, cur, e, hw.frame hg hR, hc⟩⟩
theorem RD.frame {w : World} {B R N L : Nat} (h : RD w B R N L) {w' : World} {S : Nat → Prop} (hg : Fr S w w') (hB : ¬ S B) (hR : ¬ S R) : RD w' B R N L := by
  obtain ⟨A, n, c, word, held, bs, h, r⟩ := h
  exact ⟨A, n, c, word, held, bs, h.frame hg hB hR, r⟩
theorem RD.whole {w : World} {B R N L : Nat} (h : RD w B R N L) : ∃ cs, Whole w B 55 cs := by
  obtain ⟨A, n, c, word, held, bs, h, r⟩ := h
  exact ⟨_, h.whole⟩
theorem WD.frame {w w' : World} {B base M T : Nat} {v : Value} (h : WD w B base v M T) {S : Nat → Prop} (hg : Fr S w w') (hB : ¬ S B) (hv : ∀ g, v.ownBlock = some g → ¬ S g) : WD w' B base v M T := by
  obtain ⟨word, held, bs, h, h1, h2, h3, h4⟩ := h
  exact ⟨word, held, bs, ⟨h.whole.frame hg hB, own_frame h.own hg hv, h.byte, h.low⟩, h1, h2, h3, Nat.le_trans h4 hg.size⟩
theorem WD.whole {w : World} {B base M T : Nat} {v : Value} (h : WD w B base v M T) : ∃ cs, Whole w B 61 cs := by
  obtain ⟨word, held, bs, h, r⟩ := h
  exact ⟨_, h.whole⟩
theorem WD.row {w : World} {B base M T g : Nat} {v : Value} (h : WD w B base v M T) (hg : v.ownBlock = some g) : base ≤ g ∧ g < w.heap.size ∧ ∃ cs, Whole w g 5 cs := by
  obtain ⟨word, held, bs, h, r⟩ := h
  exact own_lt h.own hg
theorem Wrote.trans {B base M' T' : Nat} {v : Value} {a b c : World} {v' : Value} (hF : Fr (fun k => k = B ∨ some k = v.ownBlock) a b) (hv : ∀ g, v'.ownBlock = some g → v.ownBlock = some g ∨ a.heap.size ≤ g) (h : Wrote B base v' M' T' b c) : Wrote B base v M' T' a c := by
  obtain ⟨v'', hw, hF', hv'⟩ := h
  refine ⟨v'', hw, hF.trans hF' (fun j hj e => ?_), fun g hg => ?_⟩
  · rcases e with e | e
    · exact .inl e
    · rcases hv j e.symm with e1 | e1
      · exact .inr e1.symm
      · omega
  · rcases hv' g hg with e | e
    · exact hv g e
    · exact .inr (Nat.le_trans hF.size e)


theorem bytes_13 (w : World) : Bytes (w.alloc (.cells #[.int .u8 13, .int .u8 0] 5)) (some ⟨w.heap.size, 0, none⟩) 2 2 [13, 0] :=
  ⟨rfl, by omega, by omega, by decide, fun _ => ⟨w.heap.size, 0, rfl, by simp, fun i b hb => by
    rw [World.cell?_alloc_new]
    match i, hb with
    | 0, hb => simp at hb; subst hb; rfl
    | 1, hb => simp at hb; subst hb; rfl
    | i + 2, hb => simp at hb⟩⟩
theorem str_13 {A : Option Addr} {c R : Nat} {bs : List Nat} {w : World} (hr : Row8 w R A bs.length c bs) (hn : num bs = 13) (hl : bs.length = 2) : (convert 22 9 (.slice A bs.length c)).run Try.prog w = .ok (.string ⟨#[13, 0]⟩) w := by
  obtain rfl : bs = [13, 0] := num_ext hr.byte (by decide) hl hn
  exact hr.bytes.str
set_option maxRecDepth 100000 in
set_option maxHeartbeats 4000000 in
theorem awake_any (w : World) : Calls Try.prog 18 #[] w (True_ w) := by
  go_enter Try.func18, Try.ntmps18
  go_wp2_with fail
  refine (newWriter_any _).mono ?_
  rintro e w1 ⟨rfl, hw1, hb1⟩
  have H1 := Lib.hid (And.intro hw1 hb1)
  clear hw1 hb1
  go_wp2_with fail
  refine (newReader_any [13, 0] 2 2 _ _ (bytes_13 w1) (by omega)).mono ?_
  rintro e w2 ⟨B2, R2, rfl, h2a, h2b, h2c, h2d, h2e⟩
  have hR2 := h2c
  have hs1 := H1.out.2.size
  have hs2 := h2e.size
  have hB1 := H1.out.1.whole.lt
  simp at h2a hR2 hs2
  have hB2 := h2d.lt
  have hb2 : Below w1.heap.size w1 w2 := ((Below.refl _ _).alloc (Nat.le_refl _) _).trans (h2e.mono (by simp))
  have hW2 : WD w2 w.heap.size w2.heap.size (.slice none 0 0) 0 0 :=
    ⟨0, 0, [], ⟨(H1.out.1.whole.here hb2), World.ownsRow_nil _ _ _ _, fun b hb => by simp at hb, by simp⟩, by omega, rfl, rfl, Nat.le_refl _⟩
  have H2 := Lib.hid (And.intro h2d (And.intro hb2 hW2))
  clear h2c h2d h2e hb2 hW2
  go_wp2_with fail
  refine (put_any _ _ 0 0 3 5 _ _ H2.out.2.2 (by omega) (by omega) (by omega)).mono ?_
  rintro e w3 ⟨rfl, v3, hw3, hf3, hv3⟩
  have H3 := Lib.hid (And.intro hw3 (And.intro hf3 hv3))
  clear hw3 hf3 hv3
  go_wp2_with fail
  refine (put_any _ _ _ _ 1 1 _ _ H3.out.1 (by omega) (by omega) (by omega)).mono ?_
  rintro e w4 ⟨rfl, hw4⟩
  have H4 := Lib.hid (Wrote.trans H3.out.2.1 H3.out.2.2 hw4)
  clear hw4
  obtain ⟨v4, hw4, hf4, hv4⟩ := H4.out
  have H4' := Lib.hid (And.intro hw4 (And.intro hf4 hv4))
  clear hw4 hf4 hv4
  go_wp2_with fail
  refine (put_any _ _ _ _ 5 0 _ _ H4'.out.1 (by omega) (by omega) (by omega)).mono ?_
  rintro e w5 ⟨rfl, hw5⟩
  obtain ⟨v5, hw5, hf5, hv5⟩ := Wrote.trans H4'.out.2.1 H4'.out.2.2 hw5
  have hr5 : RD w5 B2 R2 13 16 := H2.out.1.frame hf5 (by rintro (e | e); omega; cases e) (by rintro (e | e); omega; cases e)
  have H5 := Lib.hid (And.intro hw5 (And.intro hf5 (And.intro hv5 hr5)))
  clear hw5 hf5 hv5 hr5
  go_wp2_with fail
  refine (rbits_any B2 R2 13 16 3 _ H5.out.2.2.2 (by omega) (by omega)).mono ?_
  rintro e w6 ⟨rfl, hr6, hg6⟩
  have H6 := Lib.hid (And.intro hr6 hg6)
  clear hr6 hg6
  go_wp2_with fail
  refine (rbits_any B2 R2 1 13 1 _ H6.out.1 (by omega) (by omega)).mono ?_
  rintro e w7 ⟨rfl, hr7, hg7⟩
  have H7 := Lib.hid (And.intro hr7 (H6.out.2.trans hg7))
  clear hr7 hg7
  go_wp2_with fail
  refine (ralign_any B2 R2 0 12 _ H7.out.1 (by omega)).mono ?_
  rintro e w8 ⟨rfl, hr8, hg8⟩
  have hg := Fr.of_grown (H7.out.2.trans hg8)
  obtain ⟨cs1, k1⟩ := H5.out.1.whole
  obtain ⟨cs2, k2⟩ := H5.out.2.2.2.whole
  have hne : w.heap.size ≠ B2 := k1.apart k2 (by decide)
  have hw8 := H5.out.1.frame hg (fun e => by injection e; omega) (fun g hg e => by
    obtain ⟨_, _, cs, k3⟩ := H5.out.1.row hg
    injection e with e
    exact k3.apart k2 (by decide) e)
  have H8 := Lib.hid (And.intro hr8 (And.intro hg hw8))
  clear hr8 hg8 hg hw8 k1 k2 hne
  go_wp2_with fail
  refine (wbytes_any _ _ _ _ _ _ H8.out.2.2 (by omega)).mono ?_
  rintro e w9 ⟨A, c, R, bs, rfl, -, -, hrow, hn, hl, hf9⟩
  have hcv := str_13 hrow hn hl
  have hr9 : RD w9 B2 R2 0 8 := H8.out.1.frame hf9 (fun e => by
    obtain ⟨_, _, cs, k3⟩ := H5.out.1.row e.symm
    obtain ⟨cs2, k2⟩ := H5.out.2.2.2.whole
    exact k3.apart k2 (by decide) rfl) (fun e => by
    rcases H5.out.2.2.1 R2 e.symm with e1 | e1
    · cases e1
    · omega)
  have H9 := Lib.hid (And.intro hr9 hf9)
  clear hr9 hf9 hrow hn hl
  go_wp2_with fail
  refine (RD.left H9.out.1).mono ?_
  rintro e w10 ⟨rfl, j, rfl⟩
  go_wp2
  go_ret
  refine ⟨rfl, below_drewN ?_ j⟩
  have b5 : Below w.heap.size w w5 := H1.out.2.trans ((H2.out.2.1.mono hs1).trans (H5.out.2.1.below (by omega) (fun j hj e => by
    rcases e with e | e
    · omega
    · cases e)))
  have b8 : Below w.heap.size w w8 := b5.trans (H8.out.2.1.below (by have := b5.size; omega) (fun j hj e => by injection e; omega))
  exact b8.trans (H9.out.2.below (by have := b8.size; omega) (fun j hj e => by
    rcases H5.out.2.2.1 j e.symm with e1 | e1
    · cases e1
    · omega))
end Go.Proofs.Ytaophopgmmjbeaa
