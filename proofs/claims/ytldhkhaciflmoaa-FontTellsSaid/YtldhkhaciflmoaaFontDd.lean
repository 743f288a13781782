/- font's reference: Codes of a font whose codes are bytes. -/
import Derived.Test.YtldhkhaciflmoaaFontDc
namespace Go.Proofs.Ytldhkhaciflmoaa
open Go.RowKit

theorem codes1_step {l : List UInt8} {k m : Nat} {b : UInt8} (h : l[k]? = some b) : codesOf 1 (m + 1) (l.drop k) = (b.toNat : Int) :: codesOf 1 m (l.drop (k + 1)) := by
  obtain ⟨hi, e⟩ := List.getElem?_eq_some_iff.1 h
  rw [codesOf, List.drop_eq_getElem_cons hi, e]
  simp [valB]
set_option maxRecDepth 100000 in
set_option maxHeartbeats 8000000 in
theorem rcodes_narrow (A : Option Addr) (n c : Nat) (ot : Int) (gs : List Gl) (s : ByteArray) (w : World) (h : Glyphs w A n c gs) (hn : n ≤ 1000000) (hk : chkB false ot gs = true) (hs : s.size ≤ 1000000000) :
    Calls Try.prog 8 #[.agg #[.bool false, .slice A n c, .int .i64 ot], .string s] w (CodesSaid (codesOf 1 s.size s.data.toList) w) := by
  obtain ⟨i0, hi, hz0, hz1, hz2⟩ := info_parts infoInt
  have hb0 := ((Below.refl w.heap.size w).alloc (Nat.le_refl _) (.cells #[.bool false, .slice A n c, .int .i64 ot] 24))
  have H := Lib.hid (And.intro (h.below hb0) (And.intro hb0 (And.intro hk (FB.made w false A n c ot))))
  clear h hb0 hk
  go_enter Try.func8, Try.ntmps8
  go_wp2_with fail
  refine (rright_any false A n c ot gs _ H.out.1 hn).mono ?_
  rw [H.out.2.2.1]
  rintro e w1 ⟨rfl, hb⟩
  have hf1 := FB.here H.out.2.2.2 hb
  obtain ⟨f0, f1, f2⟩ := hf1.cells
  have lF := Whole.lt hf1
  have H1 := Lib.hid (And.intro hf1 (H.out.2.1.trans (hb.mono H.out.2.1.size)))
  clear hb hf1
  go_wp2_with fail
  clear f0 f1 f2 lF
  go_loopw [6, 7] (fun s6 s7 wx => ∃ (k : Nat) (acc : List Int), k ≤ s.size ∧ s7 = .int .i64 k ∧ acc.length = k ∧ Hid (codesOf 1 s.size s.data.toList = acc ++ codesOf 1 (s.size - k) (s.data.toList.drop k)) ∧ Hid (wx.ownsRow (w.heap.size + 1) 3 1 s6 acc.length (ivs acc) ∧ FB wx w.heap.size false A n c ot ∧ Below w.heap.size w wx)) (fun _ s7 _ => s.size - (intOf s7).toNat)
  case atStart => exact ⟨0, [], by omega, rfl, rfl, Lib.hid rfl, Lib.hid ⟨World.ownsRow_nil _ _ _ _, H1.out.1, H1.out.2⟩⟩
  case round =>
    obtain ⟨k, acc, hk, rfl, hacc, HA, HO⟩ := hrel
    obtain ⟨a0, cc, rfl⟩ := own_slice HO.out.1
    obtain ⟨f0, f1, f2⟩ := HO.out.2.1.cells
    have lF := Whole.lt HO.out.2.1
    by_cases hlt : k < s.size
    · have d1 : decide ((k : Int) < (s.size : Int)) = true := by simp; omega
      have d2 : decide (k < s.size) = true := by simp; omega
      have hb := u8_lt s[k]
      have HV := Lib.hid (codes1_step (l := s.data.toList) (k := k) (m := s.size - (k + 1)) (b := s[k]) (by
        rw [List.getElem?_eq_getElem (by simpa using hlt)]
        rfl))
      go_wp2_with (at_builtin; refine wpList_append_own _ rfl _ _ 25 rfl (w.heap.size + 1) 3 i0 (.int .i64 0) 1 8 Try.underlying25 hi hz0 hz1 hz2 rfl (by decide) _ _ _ rfl (HO.out.1.alloc _) ⟨wr.heap.size, 0, none⟩ 1 1 [.int .i64 (s[k].toNat : Int)] rfl rfl (World.news_of_block (t := 3) (fr := (0, 0)) (heap_alloc_new _ _)) ?c2 ?c3 ?c4 ?c5 ?_)
      case c2 => simp [Value.oneCell']
      case c3 => unfold maxLen; omega
      case c4 => omega
      case c5 => first | omega | (simp; omega)
      intro v' w3 hown' hgrow _
      obtain ⟨a1, c1, rfl⟩ := own_slice hown'
      have hb3 : Below (w.heap.size + 1) (wr.alloc (.cells #[.int .i64 (s[k].toNat : Int)] 3)) w3 := (Below.refl _ _).grown hgrow (by simp; omega) (fun j e => (own_lt HO.out.1 (by rw [hacc]; exact e)).1)
      have HO3 := Lib.hid (And.intro (own_snoc hown' (by rw [hacc])) (And.intro (show FB w3 w.heap.size false A n c ot from Whole.low (Whole.old HO.out.2.1 _) hb3 (by omega)) ((HO.out.2.2.alloc HO.out.2.2.size _).trans (hb3.mono (by omega)))))
      clear hown' hgrow hb3
      go_wp2_with fail
      go_roundw
      case rel => exact ⟨k + 1, acc ++ [(s[k].toNat : Int)], by omega, by go_num, by rw [List.length_append, hacc]; rfl, Lib.hid (by rw [HA.out, show s.size - k = (s.size - (k + 1)) + 1 by omega, HV.out, List.append_assoc]; rfl), HO3⟩
      case measure => simp [intOf]; omega
    · obtain rfl : k = s.size := by omega
      have d1 : decide ((s.size : Int) < (s.size : Int)) = false := by simp
      have d2 : decide (s.size < s.size) = false := by simp
      go_wp2_with fail
      refine bodyPost_ret (v := .tuple #[.slice a0 acc.length cc, .int .i64 0]) (by simp [results, Try.results8, go_sem]) rfl ?_
      refine ⟨_, _, _, rfl, ?_, HO.out.2.2⟩
      obtain ⟨A', c', e, hi'⟩ := IntsAt.of_own HO.out.1
      injection e with e1 e2 e3
      subst e1
      subst e3
      rw [HA.out]
      simpa [codesOf] using hi'
end Go.Proofs.Ytldhkhaciflmoaa
