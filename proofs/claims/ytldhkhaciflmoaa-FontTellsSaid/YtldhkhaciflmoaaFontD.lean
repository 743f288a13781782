/- font: Codes, for every font and text. -/
import Derived.Test.YtldhkhaciflmoaaFontC
import Derived.OwnWalk
import Derived.Maps.AppendAt
namespace Go.Proofs.Ytldhkhaciflmoaa
open Go.RowKit

/-- The number of some bytes, the highest one first. -/
def valB (l : List UInt8) : Nat := l.foldl (fun n b => n * 256 + b.toNat) 0
theorem valB_snoc (l : List UInt8) (b : UInt8) : valB (l ++ [b]) = valB l * 256 + b.toNat := by simp [valB]
theorem valB_take {l : List UInt8} {i : Nat} {b : UInt8} (h : l[i]? = some b) : valB (l.take (i + 1)) = valB (l.take i) * 256 + b.toNat := by
  obtain ⟨hi, e⟩ := List.getElem?_eq_some_iff.1 h
  rw [List.take_succ_eq_append_getElem hi, valB_snoc, e]
theorem valB_lt : ∀ (l : List UInt8) (i : Nat), valB (l.take i) < 256 ^ i
  | _, 0 => by simp [valB]
  | l, i + 1 => by
    have ih := valB_lt l i
    cases h : l[i]? with
    | none =>
      have hl : l.length ≤ i := by simpa using h
      rw [List.take_of_length_le (by omega)]
      rw [List.take_of_length_le hl] at ih
      rw [Nat.pow_succ]
      omega
    | some b =>
      rw [valB_take h, Nat.pow_succ]
      have := b.toNat_lt
      omega
theorem u8_lt (b : UInt8) : b.toNat < 256 := b.toNat_lt
/-- The first k codes of so many bytes each. -/
def codesOf (sz : Nat) : Nat → List UInt8 → List Int
  | 0, _ => []
  | k + 1, l => (valB (l.take sz) : Int) :: codesOf sz k (l.drop sz)
theorem codesOf_length (sz : Nat) : ∀ (k : Nat) (l : List UInt8), (codesOf sz k l).length = k
  | 0, _ => rfl
  | k + 1, l => by simp [codesOf, codesOf_length sz k]
theorem sz_two (wd : Bool) : sizeOfCodes wd = 1 ∨ sizeOfCodes wd = 2 := by cases wd <;> simp [sizeOfCodes]
/-- What Codes answers where there are codes. -/
def CodesSaid (L : List Int) (w : World) (e : Ending) (w' : World) : Prop :=
  ∃ A n c, e = .returned (.tuple #[.slice A n c, .int .i64 0]) ∧ IntsAt w' A n c L ∧ Below w.heap.size w w'
theorem mod_spell (s : ByteArray) (m sz : Nat) (h : s.size = sz * m) : ((s.size : Int) % (sz : Int) == 0) = true := by
  rw [beq_iff_eq, h]
  push_cast
  exact Int.mul_emod_right _ _
set_option maxRecDepth 100000 in
set_option maxHeartbeats 4000000 in
theorem codes_bad (wd : Bool) (A : Option Addr) (n c : Nat) (ot : Int) (gs : List Gl) (s : ByteArray) (w : World) (h : Glyphs w A n c gs) (hk : chkB wd ot gs = false) :
    Calls Try.prog 7 #[.agg #[.bool wd, .slice A n c, .int .i64 ot], .string s] w fun e w' => e = .returned (.tuple #[.slice none 0 0, .int .i64 1]) ∧ Below w.heap.size w w' := by
  have H := Lib.hid h
  have HZ := Lib.hid (fun o : Obj => ((Below.refl w.heap.size w).alloc (Nat.le_refl _) o))
  have HK := Lib.hid (And.intro hk (chk_f hk))
  clear h hk
  go_enter Try.func7, Try.ntmps7
  go_wp2_with fail
  refine (check_any _ _ _ _ _ gs _ (H.out.below (HZ.out _))).mono ?_
  rintro e w1 ⟨rfl, hb⟩
  rw [HK.out.2]
  have HB := Lib.hid hb
  clear hb
  go_wp2
  go_ret2
  exact ⟨rfl, below_step (Below.refl _ _) (Nat.le_refl _) HB.out⟩
set_option maxRecDepth 100000 in
set_option maxHeartbeats 4000000 in
theorem codes_odd (A : Option Addr) (n c : Nat) (ot : Int) (gs : List Gl) (s : ByteArray) (w : World) (h : Glyphs w A n c gs) (hk : chkB true ot gs = true) (hs : s.size ≤ 140737488355327) (ho : s.size % 2 = 1) :
    Calls Try.prog 7 #[.agg #[.bool true, .slice A n c, .int .i64 ot], .string s] w fun e w' => e = .returned (.tuple #[.slice none 0 0, .int .i64 4]) ∧ Below w.heap.size w w' := by
  have H := Lib.hid h
  have HZ := Lib.hid (fun o : Obj => ((Below.refl w.heap.size w).alloc (Nat.le_refl _) o))
  have HK := Lib.hid (And.intro hk (chk_t hk))
  clear h hk
  have hm : ((s.size : Int) % 2 == 0) = false := by simp; omega
  have hm2 : ((s.size : Int) % 2 != 0) = true := by simp; omega
  go_enter Try.func7, Try.ntmps7
  go_wp2_with fail
  refine (check_any _ _ _ _ _ gs _ (H.out.below (HZ.out _))).mono ?_
  rintro e w1 ⟨rfl, hb⟩
  rw [HK.out.2]
  have hf1 : FB w1 w.heap.size true A n c ot := (Whole.made w _ _).here hb
  obtain ⟨f0, f1, f2⟩ := hf1.cells
  have HB := Lib.hid (below_step (Below.refl _ _) (Nat.le_refl _) hb)
  clear hb hf1
  go_wp2_with fail
  refine (codeSize_any _ _ _ _ _ _).mono ?_
  rintro e w2 ⟨rfl, hb2⟩
  have HB2 := Lib.hid (HB.out.trans (hb2.mono HB.out.size))
  clear hb2
  simp only [sizeOfCodes, if_true]
  go_wp2_with fail
  go_ret2
  exact ⟨rfl, HB2.out⟩
theorem own_slice {w : World} {base : Nat} {e : TypeId} {size : Nat} {v : Value} {n : Nat} {xs : List Value} (h : w.ownsRow base e size v n xs) : ∃ a c, v = .slice a n c := by
  obtain ⟨hl, h⟩ := h
  rcases h with ⟨rfl, rfl⟩ | ⟨g, cap, cur, rfl, _⟩
  · refine ⟨none, 0, ?_⟩
    simp at hl
    try rw [← hl]
    try simp
    try omega
  · exact ⟨_, _, rfl⟩
/-- How many bytes a string has. -/
def strLen : Value → Nat
  | .string t => t.size
  | _ => 0
theorem own_snoc {w : World} {base n : Nat} {v : Value} {l : List Int} {x : Int} (h : w.ownsRow base 3 1 v n (ivs l ++ [.int .i64 x])) (hn : n = l.length + 1) : w.ownsRow base 3 1 v (l ++ [x]).length (ivs (l ++ [x])) := by
  subst hn
  rw [ivs_append, List.length_append]
  exact h
theorem extract_rest (t : ByteArray) (z : Nat) : (t.extract z t.size).data.toList = t.data.toList.drop z := by
  rw [ByteArray.data_extract, Array.toList_extract]
  simp [List.extract]
  rw [List.take_of_length_le]
  simp
set_option maxRecDepth 100000 in
set_option maxHeartbeats 4000000 in
theorem codes_good (wd : Bool) (A : Option Addr) (n c : Nat) (ot : Int) (gs : List Gl) (s : ByteArray) (M : Nat) (w : World) (h : Glyphs w A n c gs) (hk : chkB wd ot gs = true) (hs : s.size ≤ 140737488355327) (hM : s.size = sizeOfCodes wd * M) (hM2 : M ≤ 1000000000) :
    Calls Try.prog 7 #[.agg #[.bool wd, .slice A n c, .int .i64 ot], .string s] w (CodesSaid (codesOf (sizeOfCodes wd) M s.data.toList) w) := by
  obtain ⟨i0, hi, hz0, hz1, hz2⟩ := info_parts infoInt
  have H := Lib.hid h
  have HZ := Lib.hid (fun o : Obj => ((Below.refl w.heap.size w).alloc (Nat.le_refl _) o))
  have HK := Lib.hid (And.intro hk (chk_t hk))
  have hm := mod_spell s M (sizeOfCodes wd) hM
  have hm2 : ((s.size : Int) % ((sizeOfCodes wd : Nat) : Int) != 0) = false := by rw [bne, hm]; rfl
  obtain ⟨z, hz⟩ : ∃ z, z = sizeOfCodes wd := ⟨_, rfl⟩
  rw [← hz] at hm hm2 hM ⊢
  have hz12 : 1 ≤ z ∧ z ≤ 2 := by have := sz_two wd; omega
  obtain ⟨hza, hzb⟩ := hz12
  have hzc : ((z : Int) == 0) = false := by simp; omega
  have HM := Lib.hid hM
  have HSZ := Lib.hid hz
  clear h hk hM hz
  go_enter Try.func7, Try.ntmps7
  go_wp2_with fail
  refine (check_any _ _ _ _ _ gs _ (H.out.below (HZ.out _))).mono ?_
  rintro e w1 ⟨rfl, hb⟩
  rw [HK.out.2]
  have hf1 : FB w1 w.heap.size wd A n c ot := (Whole.made w _ _).here hb
  obtain ⟨f0, f1, f2⟩ := hf1.cells
  have HB := Lib.hid (below_step (Below.refl _ _) (Nat.le_refl _) hb)
  clear hb hf1
  go_wp2_with fail
  refine (codeSize_any _ _ _ _ _ _).mono ?_
  rintro e w2 ⟨rfl, hb2⟩
  have HB2 := Lib.hid (HB.out.trans (hb2.mono HB.out.size))
  clear hb2
  rw [← HSZ.out]
  clear f0 f1 f2
  go_wp2_with fail
  go_loopw [1, 8] (fun tv v wr => ∃ (t : ByteArray) (m : Nat) (acc : List Int), tv = .string t ∧ Hid (t.size = z * m) ∧ t.size ≤ 140737488355327 ∧ Hid (codesOf z M s.data.toList = acc ++ codesOf z m t.data.toList) ∧ acc.length + m ≤ 1000000000 ∧ wr.ownsRow w.heap.size 3 1 v acc.length (ivs acc) ∧ Below w.heap.size w wr) (fun tv _ _ => strLen tv)
  case atStart => exact ⟨s, M, [], rfl, HM, hs, Lib.hid rfl, by simpa using hM2, World.ownsRow_nil _ _ _ _, HB2.out⟩
  case round =>
    obtain ⟨t, m, acc, rfl, HT, ht, HA, hacc, hown, hb⟩ := hrel
    obtain ⟨a0, cc, rfl⟩ := own_slice hown
    have HO := Lib.hid hown
    have HB3 := Lib.hid hb
    have hsz := hb.size
    clear hown hb
    by_cases h0 : t.size = 0
    · have he := empty_text h0
      obtain rfl : m = 0 := by
        rcases Nat.eq_zero_or_pos m with e | e
        · exact e
        · have := HT.out
          rw [h0] at this
          have := Nat.mul_pos (show 0 < z by omega) e
          omega
      go_wp2_with fail
      go_ret2
      refine ⟨_, _, _, rfl, ?_, HB3.out⟩
      obtain ⟨A', c', e, hi'⟩ := IntsAt.of_own HO.out
      injection e with e1 e2 e3
      subst e1
      subst e3
      rw [HA.out]
      simpa [codesOf] using hi'
    · have he := full_text (s := t) (by omega)
      obtain ⟨m, rfl⟩ : ∃ m', m = m' + 1 := ⟨m - 1, by
        rcases Nat.eq_zero_or_pos m with e | e
        · have := HT.out
          rw [e] at this
          omega
        · omega⟩
      have hzt : z ≤ t.size := by
        have := HT.out
        rw [this, Nat.mul_succ]
        omega
      have HZT := Lib.hid hzt
      go_wp2_with fail
      go_loop [9, 29] (fun x i => ∃ k : Nat, k ≤ z ∧ i = .int .i64 k ∧ x = .int .i64 (valB (t.data.toList.take k) : Nat)) (fun _ i => z - (intOf i).toNat)
      case atStart => exact ⟨0, by omega, rfl, rfl⟩
      case round =>
        obtain ⟨k, hk, rfl, rfl⟩ := hrel
        have hv : valB (t.data.toList.take k) < 256 ^ k := valB_lt _ _
        by_cases hlt : k < z
        · have hkt : k < t.size := by have := HZT.out; omega
          have hv2 : valB (t.data.toList.take k) ≤ 255 := by
            have : k = 0 ∨ k = 1 := by omega
            rcases this with e | e
            · rw [e] at hv ⊢; omega
            · rw [e] at hv ⊢; omega
          have HV := Lib.hid (valB_take (l := t.data.toList) (i := k) (b := t[k]) (by
            rw [List.getElem?_eq_getElem (by simpa using hkt)]
            rfl))
          have hb := u8_lt t[k]
          clear hv
          generalize valB (t.data.toList.take k) = v at *
          go_wp2_with fail
          refine ⟨⟨k + 1, by omega, by go_num, by rw [HV.out]; go_num⟩, by simp [intOf]; omega⟩
        · obtain rfl : k = z := by omega
          have hv2 : valB (t.data.toList.take k) ≤ 65535 := by
            have : k = 1 ∨ k = 2 := by omega
            rcases this with e | e
            · rw [e] at hv ⊢; omega
            · rw [e] at hv ⊢; omega
          clear hv
          obtain ⟨x, hx⟩ : ∃ x, x = valB (t.data.toList.take k) := ⟨_, rfl⟩
          rw [← hx] at hv2 ⊢
          have HX := Lib.hid hx
          clear hx
          go_wp2_with (at_builtin; refine wpList_append_own _ rfl _ _ 25 rfl w.heap.size 3 i0 (.int .i64 0) 1 8 Try.underlying25 hi hz0 hz1 hz2 rfl (by decide) _ _ _ rfl (HO.out.alloc _) ⟨wr.heap.size, 0, none⟩ 1 1 [.int .i64 (x : Int)] rfl rfl ?c1 ?c2 ?c3 ?c4 ?c5 ?_)
          case c2 => simp [Value.oneCell']
          case c3 => unfold maxLen; omega
          case c4 => omega
          case c5 => first | omega | (simp; omega)
          intro v' w3 hown' hgrow _
          obtain ⟨a1, c1, rfl⟩ := own_slice hown'
          have hb3 : Below w.heap.size w w3 := (HB3.out.alloc hsz _).grown hgrow (by simp; omega) (fun j e => (own_lt HO.out e).1)
          have HO3 := Lib.hid (own_snoc hown' rfl)
          have HB4 := Lib.hid hb3
          have HE := Lib.hid (extract_rest t k)
          clear hown' hgrow hb3
          go_wp2_with fail
          have hT := HT.out
          have hs2 : (t.extract k t.size).size = t.size - k := by
            rw [ByteArray.size_extract]; omega
          refine ⟨⟨t.extract k t.size, m, acc ++ [(x : Int)], rfl, Lib.hid (by rw [hs2, hT, Nat.mul_succ]; omega), by omega, Lib.hid (by rw [HA.out, HE.out, codesOf, ← HX.out, List.append_assoc]; rfl), by rw [List.length_append]; simp; omega, HO3.out, HB4.out⟩, ?_⟩
          show (t.extract k t.size).size < t.size
          omega
end Go.Proofs.Ytldhkhaciflmoaa
