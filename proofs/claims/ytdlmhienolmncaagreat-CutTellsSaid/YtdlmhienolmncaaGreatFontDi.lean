/- cmap: the signs of a text of pairs of bytes. -/
import Derived.Test.YtdlmhienolmncaaGreatFontDg
import Derived.Test.YtdlmhienolmncaaGreatFontG
import Derived.Test.YtdlmhienolmncaaGreatFontH
import Derived.Test.YtdlmhienolmncaaGreatShelf
namespace Go.Proofs.YtdlmhienolmncaaGreat
open Go.RowKit

theorem hiU_str {u : ByteArray} (h0 : 0 < u.size) (h1 : 1 < u.size) : hiU u.data.toList = 256 * u[0].toNat + u[1].toNat := by
  have := hiU_at (l := u.data.toList) (k := 0) (a := u[0]) (b := u[1]) (by
    rw [List.getElem?_eq_getElem (by simpa using h0)]
    rfl) (by
    rw [List.getElem?_eq_getElem (by simpa using h1)]
    rfl)
  simpa using this
theorem list_size (u : ByteArray) : u.data.toList.length = u.size := Array.length_toList
theorem unit_short (u : ByteArray) (w : World) (h : u.size < 2) : Calls Tryz.prog 129 #[.string u] w fun e w' => e = .returned (.tuple #[.int .i32 0, .bool false]) ∧ w = w' := by
  have d : decide ((u.size : Int) < 2) = true := by simp; omega
  go_enter Tryz.func129, Tryz.ntmps129
  go_wp2_with fail
  go_ret2
  exact ⟨rfl, rfl⟩
theorem unit_ok (u : ByteArray) (w : World) (h : 2 ≤ u.size) : Calls Tryz.prog 129 #[.string u] w fun e w' => e = .returned (.tuple #[.int .i32 (hiU u.data.toList : Nat), .bool true]) ∧ ∃ n, w' = w.drewN n := by
  have d : decide ((u.size : Int) < 2) = false := by simp; omega
  have h0 : 0 < u.size := by omega
  have h1 : 1 < u.size := by omega
  have h1' : (1 : Int) < (u.size : Int) := by omega
  have HU := Lib.hid (hiU_str h0 h1)
  have b0 := u[0].toNat_lt
  have b1 := u[1].toNat_lt
  go_enter Tryz.func129, Tryz.ntmps129
  go_wp2_with fail
  go_quiet (fail)
  go_wp2_with fail
  go_ret2
  exact ⟨by rw [HU.out, Int.natCast_add, Int.natCast_mul, Int.mul_comm]; rfl, _, rfl⟩
/-- What the first sign of a text is, and of how many bytes: 0 where there is none. -/
def ChrIs (l : List UInt8) (c : Int) (z : Nat) : Prop :=
  (z = 0 ∧ ∀ acc, restU acc l = none) ∨ ((z = 2 ∨ z = 4) ∧ z ≤ l.length ∧ ∃ n : Nat, c = n ∧ (n < 55296 ∨ 57343 < n) ∧ n < 1114112 ∧ ∀ acc, restU acc l = restU (acc ++ putU n) (l.drop z))
def ChrSaid (l : List UInt8) (w : World) (e : Ending) (w' : World) : Prop := ∃ (c : Int) (z : Nat), e = .returned (.tuple #[.int .i32 c, .int .i64 z]) ∧ ChrIs l c z ∧ ∃ j, w' = w.drewN j
theorem rest_str (u : ByteArray) : (u.extract 2 u.size).data.toList = u.data.toList.drop 2 := extract_rest u 2
theorem chr_ret {a b : Int} (h : a = b) : Ending.returned (.tuple #[.int .i32 a, .int .i64 4]) = .returned (.tuple #[.int .i32 b, .int .i64 4]) := by rw [h]
set_option maxRecDepth 100000 in
set_option maxHeartbeats 4000000 in
theorem character_any (u : ByteArray) (w : World) (h : 0 < u.size) (hs : u.size ≤ 140737488355327) : Calls Tryz.prog 102 #[.string u] w (ChrSaid u.data.toList w) := by
  have hl := list_size u
  have q := hiU_lt u.data.toList
  by_cases h2 : u.size < 2
  · have HN := Lib.hid (fun acc => restU_none (l := u.data.toList) (acc := acc) (by omega) (.inl (by omega)))
    clear hl
    go_enter Tryz.func102, Tryz.ntmps102
    go_wp2_with fail
    refine (unit_short u _ h2).mono ?_
    rintro e w1 ⟨rfl, rfl⟩
    go_wp2_with fail
    go_ret2
    exact ⟨0, 0, rfl, .inl ⟨rfl, HN.out⟩, 0, rfl⟩
  have HP := Lib.hid (fun acc => restU_plain (l := u.data.toList) (acc := acc) (by omega))
  have HN := Lib.hid (fun acc => restU_none (l := u.data.toList) (acc := acc) (by omega))
  have HQ := Lib.hid (fun acc (h4 : 4 ≤ u.size) => restU_pair (l := u.data.toList) (acc := acc) (by omega))
  have HL := Lib.hid hl
  have HR := Lib.hid (rest_str u)
  have HS : Hid ((u.extract 2 u.size).size = u.size - 2) := Lib.hid (by rw [ByteArray.size_extract]; omega)
  have HU := unit_ok u w (by omega)
  clear hl
  obtain ⟨n, hn⟩ : ∃ n, hiU u.data.toList = n := ⟨_, rfl⟩
  rw [hn] at q HU
  have HM := Lib.hid hn
  clear hn
  by_cases c1 : n < 55296
  · have dn0 : decide ((56320 : Int) ≤ (n : Int)) = false := by simp; omega
    have dn1 : decide ((n : Int) < 57344) = true := by simp; omega
    have dn2 : decide ((n : Int) < 55296) = true := by simp; omega
    have dn3 : decide ((57344 : Int) ≤ (n : Int)) = false := by simp; omega
    have dn4 : decide ((n : Int) ≥ 57344) = false := by simp; omega
    go_enter Tryz.func102, Tryz.ntmps102
    go_wp2_with fail
    refine HU.mono ?_
    rintro e w1 ⟨rfl, j, rfl⟩
    clear HU
    go_wp2_with fail
    go_ret2
    exact ⟨n, 2, rfl, .inr ⟨.inl rfl, by rw [HL.out]; omega, n, rfl, .inl c1, by omega, fun acc => by have := HP.out acc (by rw [HM.out]; exact .inl c1); rwa [HM.out] at this⟩, j, rfl⟩
  by_cases c2 : 57343 < n
  · have dn0 : decide ((56320 : Int) ≤ (n : Int)) = true := by simp; omega
    have dn1 : decide ((n : Int) < 57344) = false := by simp; omega
    have dn2 : decide ((n : Int) < 55296) = false := by simp; omega
    have dn3 : decide ((57344 : Int) ≤ (n : Int)) = true := by simp; omega
    have dn4 : decide ((n : Int) ≥ 57344) = true := by simp; omega
    go_enter Tryz.func102, Tryz.ntmps102
    go_wp2_with fail
    refine HU.mono ?_
    rintro e w1 ⟨rfl, j, rfl⟩
    clear HU
    go_wp2_with fail
    go_ret2
    exact ⟨n, 2, rfl, .inr ⟨.inl rfl, by rw [HL.out]; omega, n, rfl, .inr c2, by omega, fun acc => by have := HP.out acc (by rw [HM.out]; exact .inr c2); rwa [HM.out] at this⟩, j, rfl⟩
  by_cases c3 : 56319 < n
  · have dn0 : decide ((56320 : Int) ≤ (n : Int)) = true := by simp; omega
    have dn1 : decide ((n : Int) < 57344) = true := by simp; omega
    have dn2 : decide ((n : Int) < 55296) = false := by simp; omega
    have dn3 : decide ((57344 : Int) ≤ (n : Int)) = false := by simp; omega
    have dn4 : decide ((n : Int) ≥ 57344) = false := by simp; omega
    go_enter Tryz.func102, Tryz.ntmps102
    go_wp2_with fail
    refine HU.mono ?_
    rintro e w1 ⟨rfl, j, rfl⟩
    clear HU
    go_wp2_with fail
    go_ret2
    exact ⟨0, 0, rfl, .inl ⟨rfl, fun acc => HN.out acc (.inr ⟨by rw [HM.out]; omega, by rw [HM.out]; omega, .inl (by rw [HM.out]; omega)⟩)⟩, j, rfl⟩
  by_cases c4 : u.size < 4
  · have dn0 : decide ((56320 : Int) ≤ (n : Int)) = false := by simp; omega
    have dn1 : decide ((n : Int) < 57344) = true := by simp; omega
    have dn2 : decide ((n : Int) < 55296) = false := by simp; omega
    have dn3 : decide ((57344 : Int) ≤ (n : Int)) = false := by simp; omega
    have dn4 : decide ((n : Int) ≥ 57344) = false := by simp; omega
    go_enter Tryz.func102, Tryz.ntmps102
    go_wp2_with fail
    refine HU.mono ?_
    rintro e w1 ⟨rfl, j, rfl⟩
    clear HU
    go_wp2_with fail
    refine (unit_short (u.extract 2 u.size) _ (by rw [HS.out]; omega)).mono ?_
    rintro e w1 ⟨rfl, rfl⟩
    go_wp2_with fail
    go_ret2
    exact ⟨0, 0, rfl, .inl ⟨rfl, fun acc => HN.out acc (.inr ⟨by rw [HM.out]; omega, by rw [HM.out]; omega, .inr (.inl (by rw [HL.out]; omega))⟩)⟩, j, rfl⟩
  have dn0 : decide ((56320 : Int) ≤ (n : Int)) = false := by simp; omega
  have dn1 : decide ((n : Int) < 57344) = true := by simp; omega
  have dn2 : decide ((n : Int) < 55296) = false := by simp; omega
  have dn3 : decide ((57344 : Int) ≤ (n : Int)) = false := by simp; omega
  have dn4 : decide ((n : Int) ≥ 57344) = false := by simp; omega
  have HV := unit_ok (u.extract 2 u.size)
  rw [HS.out, HR.out] at HV
  have q2 := hiU_lt (u.data.toList.drop 2)
  obtain ⟨m, hm⟩ : ∃ m, hiU (u.data.toList.drop 2) = m := ⟨_, rfl⟩
  rw [hm] at q2 HV
  have HM2 := Lib.hid hm
  clear hm
  have HV := Lib.hid HV
  by_cases c5 : m < 56320 ∨ 57343 < m
  · rcases c5 with c5 | c5
    · have dm0 : decide ((m : Int) < 56320) = true := by simp; omega
      have dm1 : decide ((57344 : Int) ≤ (m : Int)) = false := by simp; omega
      have dm2 : decide ((m : Int) ≥ 57344) = false := by simp; omega
      go_enter Tryz.func102, Tryz.ntmps102
      go_wp2_with fail
      refine HU.mono ?_
      rintro e w1 ⟨rfl, j, rfl⟩
      clear HU
      go_wp2_with fail
      refine (HV.out _ (by omega)).mono ?_
      rintro e w1 ⟨rfl, j2, rfl⟩
      go_wp2_with fail
      go_ret2
      exact ⟨0, 0, rfl, .inl ⟨rfl, fun acc => HN.out acc (.inr ⟨by rw [HM.out]; omega, by rw [HM.out]; omega, .inr (.inr (by rw [HM2.out]; omega))⟩)⟩, j + j2, rfl⟩
    · have dm0 : decide ((m : Int) < 56320) = false := by simp; omega
      have dm1 : decide ((57344 : Int) ≤ (m : Int)) = true := by simp; omega
      have dm2 : decide ((m : Int) ≥ 57344) = true := by simp; omega
      go_enter Tryz.func102, Tryz.ntmps102
      go_wp2_with fail
      refine HU.mono ?_
      rintro e w1 ⟨rfl, j, rfl⟩
      clear HU
      go_wp2_with fail
      refine (HV.out _ (by omega)).mono ?_
      rintro e w1 ⟨rfl, j2, rfl⟩
      go_wp2_with fail
      go_ret2
      exact ⟨0, 0, rfl, .inl ⟨rfl, fun acc => HN.out acc (.inr ⟨by rw [HM.out]; omega, by rw [HM.out]; omega, .inr (.inr (by rw [HM2.out]; omega))⟩)⟩, j + j2, rfl⟩
  · have c6 : 56320 ≤ m := by omega
    have c7 : m ≤ 57343 := by omega
    have dm0 : decide ((m : Int) < 56320) = false := by simp; omega
    have dm1 : decide ((57344 : Int) ≤ (m : Int)) = false := by simp; omega
    have dm2 : decide ((m : Int) ≥ 57344) = false := by simp; omega
    go_enter Tryz.func102, Tryz.ntmps102
    go_wp2_with fail
    refine HU.mono ?_
    rintro e w1 ⟨rfl, j, rfl⟩
    clear HU
    go_wp2_with fail
    refine (HV.out _ (by omega)).mono ?_
    rintro e w1 ⟨rfl, j2, rfl⟩
    go_wp2_with fail
    go_ret2
    refine ⟨((65536 + 1024 * (n - 55296) + m - 56320 : Nat) : Int), 4, ?_, .inr ⟨.inr rfl, by rw [HL.out]; omega, _, rfl, by omega, by omega, fun acc => ?_⟩, j + j2, rfl⟩
    · exact chr_ret (by omega)
    · have := HQ.out acc (by omega) (by rw [HM.out]; omega) (by rw [HM.out]; omega) (by rw [HM2.out]; omega) (by rw [HM2.out]; omega)
      rwa [HM.out, HM2.out] at this
end Go.Proofs.YtdlmhienolmncaaGreat
/- cmap: Text, of every text. -/
namespace Go.Proofs.YtdlmhienolmncaaGreat
open Go.RowKit

/-- The text that a row says. -/
theorem textS_some {s : ByteArray} {o : List Nat} (h : textU s.data.toList = some o) : textS s = strB o ∧ textE s = 0 := by
  unfold textS textE
  rw [h]
  exact ⟨rfl, rfl⟩
theorem textS_none {s : ByteArray} (h : textU s.data.toList = none) : textS s = ⟨#[]⟩ ∧ textE s = 4 := by
  unfold textS textE
  rw [h]
  exact ⟨rfl, rfl⟩
theorem own_drewN {w : World} {base n : Nat} {e : TypeId} {size : Nat} {v : Value} {xs : List Value} (h : w.ownsRow base e size v n xs) (j : Nat) : (w.drewN j).ownsRow base e size v n xs :=
  own_frame h ((Fr.refl (fun _ => False) w).drewN j) (fun _ _ h => h)
set_option maxRecDepth 100000 in
set_option maxHeartbeats 4000000 in
theorem text_any (s : ByteArray) (w : World) (hs : s.size ≤ 1000000000) :
    Calls Tryz.prog 71 #[.string s] w fun e w' => e = .returned (.tuple #[.string (textS s), .int .i64 (textE s)]) ∧ Below w.heap.size w w' := by
  go_enter Tryz.func71, Tryz.ntmps71
  go_wp2_with fail
  go_loopw [0, 4] (fun tv v wr => ∃ (t : ByteArray) (acc : List Nat), tv = .string t ∧ t.size ≤ 1000000000 ∧ Hid (textU s.data.toList = restU acc t.data.toList) ∧ acc.length + 2 * t.size ≤ 2000000000 ∧ Hid (∀ b ∈ acc, b < 256) ∧ Hid (wr.ownsRow w.heap.size 5 1 v acc.length (bvs acc)) ∧ Hid (Below w.heap.size w wr)) (fun tv _ _ => strLen tv)
  case atStart => exact ⟨s, [], rfl, hs, Lib.hid (restU_start _).symm, by simp; omega, Lib.hid (fun b hb => by simp at hb), Lib.hid (World.ownsRow_nil _ _ _ _), Lib.hid (Below.refl _ _)⟩
  case round =>
    obtain ⟨t, acc, rfl, ht, HA, hacc, HB, HO, HW⟩ := hrel
    obtain ⟨a0, cc, rfl⟩ := own_slice HO.out
    have hsz := HW.out.size
    by_cases h0 : t.size = 0
    · have d : decide ((t.size : Int) > 0) = false := decide_eq_false (by omega)
      have d2 : decide (0 < t.size) = false := decide_eq_false (by omega)
      have HS := Lib.hid (textS_some (s := s) (o := acc) (by rw [HA.out, restU_end (by rw [list_size]; exact h0)]))
      clear h0
      obtain ⟨A', c', R, e, hR1, hR2, hrow⟩ := Row8.of_own HO.out HB.out
      injection e with e1 e2 e3
      subst e1
      subst e3
      have hcv := hrow.bytes.str
      clear hrow hR1 hR2
      go_wp2_with fail
      go_ret2
      exact ⟨by rw [HS.out.1, HS.out.2]; rfl, HW.out⟩
    · have d : decide ((t.size : Int) > 0) = true := decide_eq_true (by omega)
      have d2 : decide (0 < t.size) = true := decide_eq_true (by omega)
      go_wp2_with fail
      refine (character_any t _ (by omega) (by omega)).mono ?_
      rintro e w1 ⟨x, z, rfl, hc, j, rfl⟩
      have hl := list_size t
      rcases hc with ⟨rfl, hn⟩ | ⟨hz, hzl, n, rfl, hn1, hn2, hn3⟩
      · have HS := Lib.hid (textS_none (s := s) (by rw [HA.out, hn]))
        clear hn hl
        go_wp2_with fail
        go_ret2
        exact ⟨by rw [HS.out.1, HS.out.2]; rfl, below_drewN HW.out _⟩
      · rw [hl] at hzl
        have dz : ((z : Int) == 0) = false := by simp; omega
        have HN := Lib.hid (hn3 acc)
        have hp := putU_length n
        have HL := Lib.hid (putU_lt hn2)
        have HR := Lib.hid (putU_rune hn1 hn2)
        clear hn3 hn1 hl
        go_wp2_with fail
        refine (Tryz.utf8_AppendRune_plain w.heap.size _ acc.length (bvs acc) (n : Int) (by omega) (by omega) _ (own_drewN HO.out _) (by omega) (by simp; omega)).mono ?_
        rintro e w2 ⟨v', rfl, hown, o, hg⟩
        rw [HR.out, ← bvs_append, bvs_length] at hown
        obtain ⟨a1, c1, rfl⟩ := own_slice hown
        have hb2 : Below w.heap.size w w2 := ((below_drewN HW.out _).alloc (by simp; omega) _).grown hg (by simp; omega) (fun i e => (own_lt HO.out e).1)
        have HB2 := Lib.hid hb2
        have HO2 := Lib.hid hown
        have HE := Lib.hid (extract_rest t z)
        have hs2 : Hid ((t.extract z t.size).size = t.size - z) := Lib.hid (by rw [ByteArray.size_extract]; omega)
        clear hg hown hb2
        go_wp2_with fail
        refine ⟨⟨t.extract z t.size, acc ++ putU n, rfl, by rw [hs2.out]; omega, Lib.hid (by rw [HA.out, HN.out, HE.out]), by rw [hs2.out, List.length_append]; omega, Lib.hid (fun b hb => ?_), Lib.hid (by rw [List.length_append]; exact HO2.out), HB2⟩, ?_⟩
        · rcases List.mem_append.1 hb with hb | hb
          · exact HB.out b hb
          · exact HL.out b hb
        · show (t.extract z t.size).size < t.size
          rw [hs2.out]
          omega
end Go.Proofs.YtdlmhienolmncaaGreat
