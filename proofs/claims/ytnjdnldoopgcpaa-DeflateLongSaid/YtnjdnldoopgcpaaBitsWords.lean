/- Words for readers and writers: frames, texts of bytes. -/
import Derived.Test.YtnjdnldoopgcpaaBitsWrB
import Derived.Laws.BytesString
import Derived.Laws.IdiomStrings
import Derived.Laws.BytesArg
import Derived.Test.YtnjdnldoopgcpaaByteRow
namespace Go.Proofs.Ytnjdnldoopgcpaa
open Go.RowKit

/-- The text of bytes. -/
def strB (bs : List Nat) : ByteArray := ⟨(bs.map UInt8.ofNat).toArray⟩
theorem Bytes.str {w : World} {A : Option Addr} {n c : Nat} {bs : List Nat} (h : Bytes w A n c bs) : (convert 22 9 (.slice A n c)).run Try.prog w = .ok (.string (strB bs)) w := by
  have hl := h.len
  by_cases hn : n = 0
  · subst hn
    obtain rfl : bs = [] := List.eq_nil_of_length_eq_zero hl
    cases A with
    | none => exact run_convert_bytes_nil w _ _ Try.underlying22 Try.underlying5 0 c _ Try.underlying9
    | some a => exact run_convert_bytes_back w _ _ _ a c [] Try.underlying22 Try.underlying5 Try.underlying9 (fun j hj => by simp at hj)
  · obtain ⟨R, o, rfl, hR, hc⟩ := h.at_ (by omega)
    have := run_convert_bytes_back (P := Try.prog) w 22 9 5 ⟨R, o, none⟩ c (bs.map UInt8.ofNat) Try.underlying22 Try.underlying5 Try.underlying9 (fun j hj => by
      have hj' : j < bs.length := by simpa using hj
      have e2 : (⟨R, o, none⟩ : Addr).add j = ⟨R, o + j, none⟩ := by
        unfold Addr.add; by_cases h0 : j = 0 <;> simp [h0]
      have hb := h.byte bs[j] (List.getElem_mem hj')
      rw [e2, hc j bs[j] (List.getElem?_eq_getElem hj')]
      simp only [List.getElem_map, UInt8.toNat_ofNat']
      rw [Nat.mod_eq_of_lt hb])
    rw [List.length_map, hl] at this
    exact this
theorem strB_ext {a b : List Nat} (ha : ∀ x ∈ a, x < 256) (hb : ∀ x ∈ b, x < 256) (h : strB a = strB b) : a = b := by
  have h1 : a.map UInt8.ofNat = b.map UInt8.ofNat := by
    have := congrArg (fun s : ByteArray => s.data.toList) h
    simpa [strB] using this
  have h2 := congrArg (List.map UInt8.toNat) h1
  rw [List.map_map, List.map_map] at h2
  have key : ∀ l : List Nat, (∀ x ∈ l, x < 256) → l.map (UInt8.toNat ∘ UInt8.ofNat) = l := by
    intro l hl
    induction l with
    | nil => rfl
    | cons x l ih =>
      rw [List.map_cons, ih (fun y hy => hl y (List.mem_cons_of_mem _ hy))]
      have := hl x (List.mem_cons_self ..)
      congr 1
      simp only [Function.comp, UInt8.toNat_ofNat']
      exact Nat.mod_eq_of_lt this
  rwa [key a ha, key b hb] at h2
theorem num_ext : ∀ {a b : List Nat}, (∀ x ∈ a, x < 256) → (∀ x ∈ b, x < 256) → a.length = b.length → num a = num b → a = b
  | [], [], _, _, _, _ => rfl
  | [], _ :: _, _, _, h, _ => by simp at h
  | _ :: _, [], _, _, h, _ => by simp at h
  | x :: a, y :: b, ha, hb, hl, hn => by
    have h1 := ha x (List.mem_cons_self ..)
    have h2 := hb y (List.mem_cons_self ..)
    simp only [num] at hn
    have ht : num a = num b := by omega
    have hx : x = y := by omega
    subst hx
    rw [num_ext (fun z hz => ha z (List.mem_cons_of_mem _ hz)) (fun z hz => hb z (List.mem_cons_of_mem _ hz)) (by simpa using hl) ht]
theorem WD.frame {w w' : World} {B base M T : Nat} {v : Value} (h : WD w B base v M T) {S : Nat → Prop} (hg : Fr S w w') (hB : ¬ S B) (hv : ∀ g, v.ownBlock = some g → ¬ S g) : WD w' B base v M T := by
  obtain ⟨word, held, bs, h, h1, h2, h3, h4⟩ := h
  exact ⟨word, held, bs, ⟨h.whole.frame hg hB, own_frame h.own hg hv, h.byte, h.low⟩, h1, h2, h3, Nat.le_trans h4 hg.size⟩
theorem WD.whole {w : World} {B base M T : Nat} {v : Value} (h : WD w B base v M T) : ∃ cs, Whole w B 90 cs := by
  obtain ⟨word, held, bs, h, r⟩ := h
  exact ⟨_, h.whole⟩
theorem WD.row {w : World} {B base M T g : Nat} {v : Value} (h : WD w B base v M T) (hg : v.ownBlock = some g) : base ≤ g ∧ g < w.heap.size ∧ ∃ cs, Whole w g 5 cs := by
  obtain ⟨word, held, bs, h, r⟩ := h
  exact own_lt h.own hg
theorem Wrote.trans {B base M' T' : Nat} {v : Value} {a b c : World} {v' : Value} (hF : Fr (fun k => k = B ∨ some k = v.ownBlock) a b) (hv : ∀ g, v'.ownBlock = some g → v.ownBlock = some g ∨ a.heap.size ≤ g) (h : Wrote B base v' M' T' b c) : Wrote B base v M' T' a c := by
  obtain ⟨v'', hw, hF', hv'⟩ := h
  refine ⟨v'', hw, hF.trans hF' (fun j hj e => ?_), fun g hg => ?_⟩
  · rcases e with e | e
    · exact .inl e
    · rcases hv j e.symm with e1 | e1
      · exact .inr e1.symm
      · omega
  · rcases hv' g hg with e | e
    · exact hv g e
    · exact .inr (Nat.le_trans hF.size e)


end Go.Proofs.Ytnjdnldoopgcpaa

