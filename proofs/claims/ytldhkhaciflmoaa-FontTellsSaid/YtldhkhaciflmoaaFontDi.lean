/- cmap: Text, of every text. -/
import Derived.Test.YtldhkhaciflmoaaFontDh
import Derived.Test.YtldhkhaciflmoaaFontH
import Derived.Test.YtldhkhaciflmoaaShelf
namespace Go.Proofs.Ytldhkhaciflmoaa
open Go.RowKit

/-- The text that a row says. -/
theorem textS_some {s : ByteArray} {o : List Nat} (h : textU s.data.toList = some o) : textS s = strB o ∧ textE s = 0 := by
  unfold textS textE
  rw [h]
  exact ⟨rfl, rfl⟩
theorem textS_none {s : ByteArray} (h : textU s.data.toList = none) : textS s = ⟨#[]⟩ ∧ textE s = 4 := by
  unfold textS textE
  rw [h]
  exact ⟨rfl, rfl⟩
theorem own_drewN {w : World} {base n : Nat} {e : TypeId} {size : Nat} {v : Value} {xs : List Value} (h : w.ownsRow base e size v n xs) (j : Nat) : (w.drewN j).ownsRow base e size v n xs :=
  own_frame h ((Fr.refl (fun _ => False) w).drewN j) (fun _ _ h => h)
set_option maxRecDepth 100000 in
set_option maxHeartbeats 4000000 in
theorem text_any (s : ByteArray) (w : World) (hs : s.size ≤ 1000000000) :
    Calls Try.prog 26 #[.string s] w fun e w' => e = .returned (.tuple #[.string (textS s), .int .i64 (textE s)]) ∧ Below w.heap.size w w' := by
  go_enter Try.func26, Try.ntmps26
  go_wp2_with fail
  go_loopw [0, 4] (fun tv v wr => ∃ (t : ByteArray) (acc : List Nat), tv = .string t ∧ t.size ≤ 1000000000 ∧ Hid (textU s.data.toList = restU acc t.data.toList) ∧ acc.length + 2 * t.size ≤ 2000000000 ∧ Hid (∀ b ∈ acc, b < 256) ∧ Hid (wr.ownsRow w.heap.size 5 1 v acc.length (bvs acc)) ∧ Hid (Below w.heap.size w wr)) (fun tv _ _ => strLen tv)
  case atStart => exact ⟨s, [], rfl, hs, Lib.hid (restU_start _).symm, by simp; omega, Lib.hid (fun b hb => by simp at hb), Lib.hid (World.ownsRow_nil _ _ _ _), Lib.hid (Below.refl _ _)⟩
  case round =>
    obtain ⟨t, acc, rfl, ht, HA, hacc, HB, HO, HW⟩ := hrel
    obtain ⟨a0, cc, rfl⟩ := own_slice HO.out
    have hsz := HW.out.size
    by_cases h0 : t.size = 0
    · have d : decide ((t.size : Int) > 0) = false := decide_eq_false (by omega)
      have d2 : decide (0 < t.size) = false := decide_eq_false (by omega)
      have HS := Lib.hid (textS_some (s := s) (o := acc) (by rw [HA.out, restU_end (by rw [list_size]; exact h0)]))
      clear h0
      obtain ⟨A', c', R, e, hR1, hR2, hrow⟩ := Row8.of_own HO.out HB.out
      injection e with e1 e2 e3
      subst e1
      subst e3
      have hcv := hrow.bytes.str
      clear hrow hR1 hR2
      go_wp2_with fail
      go_ret2
      exact ⟨by rw [HS.out.1, HS.out.2]; rfl, HW.out⟩
    · have d : decide ((t.size : Int) > 0) = true := decide_eq_true (by omega)
      have d2 : decide (0 < t.size) = true := decide_eq_true (by omega)
      go_wp2_with fail
      refine (character_any t _ (by omega) (by omega)).mono ?_
      rintro e w1 ⟨x, z, rfl, hc, j, rfl⟩
      have hl := list_size t
      rcases hc with ⟨rfl, hn⟩ | ⟨hz, hzl, n, rfl, hn1, hn2, hn3⟩
      · have HS := Lib.hid (textS_none (s := s) (by rw [HA.out, hn]))
        clear hn hl
        go_wp2_with fail
        go_ret2
        exact ⟨by rw [HS.out.1, HS.out.2]; rfl, below_drewN HW.out _⟩
      · rw [hl] at hzl
        have dz : ((z : Int) == 0) = false := by simp; omega
        have HN := Lib.hid (hn3 acc)
        have hp := putU_length n
        have HL := Lib.hid (putU_lt hn2)
        have HR := Lib.hid (putU_rune hn1 hn2)
        clear hn3 hn1 hl
        go_wp2_with fail
        refine (Try.utf8_AppendRune_plain w.heap.size _ acc.length (bvs acc) (n : Int) (by omega) (by omega) _ (own_drewN HO.out _) (by omega) (by simp; omega)).mono ?_
        rintro e w2 ⟨v', rfl, hown, o, hg⟩
        rw [HR.out, ← bvs_append, bvs_length] at hown
        obtain ⟨a1, c1, rfl⟩ := own_slice hown
        have hb2 : Below w.heap.size w w2 := ((below_drewN HW.out _).alloc (by simp; omega) _).grown hg (by simp; omega) (fun i e => (own_lt HO.out e).1)
        have HB2 := Lib.hid hb2
        have HO2 := Lib.hid hown
        have HE := Lib.hid (extract_rest t z)
        have hs2 : Hid ((t.extract z t.size).size = t.size - z) := Lib.hid (by rw [ByteArray.size_extract]; omega)
        clear hg hown hb2
        go_wp2_with fail
        refine ⟨⟨t.extract z t.size, acc ++ putU n, rfl, by rw [hs2.out]; omega, Lib.hid (by rw [HA.out, HN.out, HE.out]), by rw [hs2.out, List.length_append]; omega, Lib.hid (fun b hb => ?_), Lib.hid (by rw [List.length_append]; exact HO2.out), HB2⟩, ?_⟩
        · rcases List.mem_append.1 hb with hb | hb
          · exact HB.out b hb
          · exact HL.out b hb
        · show (t.extract z t.size).size < t.size
          rw [hs2.out]
          omega
end Go.Proofs.Ytldhkhaciflmoaa
