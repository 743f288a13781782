/- inflate: the document's examples, walked; InflateTokens, walked. -/
import Derived.Test.YtdoliloiagfagaaDoorInfX
import Derived.Test.YtdoliloiagfagaaDoorLaidGen
namespace Go.Proofs.YtdoliloiagfagaaDoor
open Go.RowKit

def True_ (w : World) (e : Ending) (w' : World) : Prop := e = .returned (.bool true) ∧ Below w.heap.size w w'
theorem Bytes.whole {w : World} {R n : Nat} {bs : List Nat} (h : Whole w R 5 (bvs bs).toArray) (hl : bs.length = n) (hn : n ≤ 9223372036854775807) (hb : ∀ x ∈ bs, x < 256) : Bytes w (some ⟨R, 0, none⟩) n n bs :=
  ⟨hl, Nat.le_refl _, hn, hb, fun _ => ⟨R, 0, rfl, h.lt, fun i b hb => by
    rw [Nat.zero_add, h.reads i]
    unfold bvs
    simp [hb]⟩⟩
theorem strE {bs : List Nat} {s : ByteArray} (h : strB bs = s) : ((strB bs).toList == s.toList) = true := by rw [h]; simp
set_option maxRecDepth 100000 in
set_option maxHeartbeats 2000000 in
theorem awake06 (w : World) (hE : Env w) : Calls Tryd.prog 11 #[] w (True_ w) := by
  obtain ⟨wA, hwA⟩ : ∃ wA, w.alloc (.cells #[.int .u8 75, .int .u8 76, .int .u8 74, .int .u8 6, .int .u8 0] 5) = wA := ⟨_, rfl⟩
  have hbA : Below w.heap.size w wA := by rw [← hwA]; exact (Below.refl _ _).alloc (Nat.le_refl _) _
  have hwk : Whole wA w.heap.size 5 (bvs [75, 76, 74, 6, 0]).toArray := by rw [← hwA]; exact Whole.made _ _ _
  have HI := Lib.hid (inflate_any (some ⟨w.heap.size, 0, none⟩) 5 5 [75, 76, 74, 6, 0] 10 wA (Bytes.whole hwk rfl (by decide) (by decide)) (by decide) (hE.here hbA))
  have HE := Lib.hid hE
  have HBA := Lib.hid hbA
  clear hE hbA hwk
  go_enter Tryd.func11, Tryd.ntmps11
  go_wp2_with fail
  refine HI.out.mono ?_
  rintro e w1 (⟨x, used, A1, c1, hp, rfl, hby, -, -, hb⟩ | ⟨E, hp, -, -, -⟩)
  rotate_left
  · rw [ex_abc] at hp
    cases hp
  rw [ex_abc] at hp
  injection hp with hp
  injection hp with h1 h2
  subst h1 h2
  have H1 := Lib.hid (And.intro hby (HBA.out.trans (hb.mono HBA.out.size)))
  clear hby hb HI
  obtain ⟨wB, hwB⟩ : ∃ wB, w1.alloc (.cells #[.int .u8 1, .int .u8 2, .int .u8 0, .int .u8 253, .int .u8 255, .int .u8 104, .int .u8 105] 5) = wB := ⟨_, rfl⟩
  have hbB : Below w1.heap.size w1 wB := by rw [← hwB]; exact (Below.refl _ _).alloc (Nat.le_refl _) _
  have hwk : Whole wB w1.heap.size 5 (bvs [1, 2, 0, 253, 255, 104, 105]).toArray := by rw [← hwB]; exact Whole.made _ _ _
  have H2 := Lib.hid (And.intro (H1.out.1.below hbB) (H1.out.2.trans (hbB.mono H1.out.2.size)))
  have HI := Lib.hid (inflate_any (some ⟨w1.heap.size, 0, none⟩) 7 7 [1, 2, 0, 253, 255, 104, 105] 9 wB (Bytes.whole hwk rfl (by decide) (by decide)) (by decide) (HE.out.here H2.out.2))
  clear hbB hwk
  go_wp2_with fail
  refine HI.out.mono ?_
  rintro e w3 (⟨x, used, A2, c2, hp, rfl, hby, -, -, hb⟩ | ⟨E, hp, -, -, -⟩)
  rotate_left
  · rw [ex_hi] at hp
    cases hp
  rw [ex_hi] at hp
  injection hp with hp
  injection hp with h1 h2
  subst h1 h2
  have H3 := Lib.hid (H2.out.2.trans (hb.mono H2.out.2.size))
  have hs1 : (convert 23 9 (.slice A1 3 c1)).run Tryd.prog w3 = .ok (.string (strB [97, 98, 99])) w3 := (H2.out.1.below hb).str
  have hs2 : (convert 23 9 (.slice A2 2 c2)).run Tryd.prog w3 = .ok (.string (strB [104, 105])) w3 := hby.str
  have e1 : ((strB [97, 98, 99]).toList == ([97, 98, 99] : List UInt8)) = true := by rw [show strB [97, 98, 99] = ⟨#[97, 98, 99]⟩ from rfl]; simp [Lib.toList_data]
  have e2 : ((strB [104, 105]).toList == ([104, 105] : List UInt8)) = true := by rw [show strB [104, 105] = ⟨#[104, 105]⟩ from rfl]; simp [Lib.toList_data]
  clear hby hb HI
  go_wp2_with fail
  go_ret
  exact ⟨rfl, H3.out⟩
end Go.Proofs.YtdoliloiagfagaaDoor
