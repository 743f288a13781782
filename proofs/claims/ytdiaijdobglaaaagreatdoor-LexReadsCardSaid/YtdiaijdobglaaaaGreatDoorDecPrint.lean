/- The walk of dec's Print. -/
import Derived.Test.YtdiaijdobglaaaaGreatDoorDecParse
import Derived.Test.YtdiaijdobglaaaaGreatDoorDecFmt
namespace Go.Proofs.YtdiaijdobglaaaaGreatDoor
open Go.RowKit Dec

/-- Print's answer as a row of bytes. -/
def signL (m : Int) : List UInt8 := if m < 0 then [45] else []
def rowL (m : Int) (s : Nat) : List UInt8 := Lib.repeatL [48] (s + 1 - (Lib.decDigits m.natAbs).length) ++ Lib.decDigits m.natAbs
def printL (m : Int) (s : Nat) : List UInt8 :=
  signL m ++ if s = 0 then Lib.decDigits m.natAbs else (rowL m s).take ((rowL m s).length - s) ++ 46 :: (rowL m s).drop ((rowL m s).length - s)

theorem print_bad (m s : Int) (w : World) (hv : ¬ Valid m s) :
    Calls Tryz.prog 21 #[.agg #[.int .i64 m, .int .i64 s]] w fun e w' => e = .returned (.tuple #[.string ⟨#[]⟩, .int .i64 1]) ∧ Below w.heap.size w w' := by
  have H := Lib.hid hv
  clear hv
  go_enter Tryz.func21, Tryz.ntmps21
  go_wp2_with (go_at_call 42; refine (check_bad _ _ _ H.out).mono ?_; rintro e w1 ⟨rfl, hb⟩; obtain ⟨hc, hf⟩ := bcell hb; have hz := hb.size; simp at hz)
  go_ret2
  exact ⟨rfl, (((Below.refl _ _).alloc (Nat.le_refl _) _).trans (hb.mono (by simp)))⟩

/-- Print's answer of a valid decimal. -/
def IsText (l : List UInt8) (w : World) (e : Ending) (w' : World) : Prop := ∃ r : ByteArray, e = .returned (.tuple #[.string r, .int .i64 0]) ∧ r.data.toList = l ∧ Below w.heap.size w w'

/-- FormatUint's contract, as Print's walk meets it. -/
def Fmts (m : Int) (D : List UInt8) (w : World) : Prop :=
  ∀ w1, Below w.heap.size w w1 → Calls Tryz.prog 45 #[.int .u64 (m.natAbs : Int), .int .i64 10] w1 fun e w' => e = .returned (.string ⟨D.toArray⟩) ∧ Below w1.heap.size w1 w'

theorem print_zero (m : Int) (w : World) (D : List UInt8) (hv : Valid m 0) (HF : Hid (Fmts m D w)) (hD : D.length ≤ 30) :
    Calls Tryz.prog 21 #[.agg #[.int .i64 m, .int .i64 0]] w (IsText (signL m ++ D) w) := by
  have hm1 := hv.1
  have hm2 := hv.2.1
  have H := Lib.hid hv
  clear hv
  by_cases hneg : m < 0
  all_goals
    go_enter Tryz.func21, Tryz.ntmps21
    go_wp2_with (first | (go_at_call 42; refine (check_ok _ _ _ H.out).mono ?_; rintro e w1 ⟨rfl, hb⟩; obtain ⟨hc, hf⟩ := bcell hb; have hz := hb.size; simp at hz) | (go_at_call 46; refine (magnitude_any _ _ (by omega) (by omega)).mono ?_; rintro e w' ⟨rfl, rfl⟩))
    refine (HF.out _ (((Below.refl _ _).alloc (Nat.le_refl _) _).trans (hb.mono (by simp)))).mono ?_
    rintro e w2 ⟨rfl, hk⟩
    have hbb := hb.trans (hk.mono hb.size)
    clear hc hf hz hb hk
    obtain ⟨hc, hf⟩ := bcell hbb
    have hz := hbb.size
    simp at hz
    go_wp2
    go_ret2
    refine ⟨_, rfl, ?_, ((Below.refl _ _).alloc (Nat.le_refl _) _).trans (hbb.mono (by simp))⟩
  · rw [Joins.data_append]; unfold signL; rw [if_pos hneg]
  · first | (rw [Joins.data_append]; unfold signL; rw [if_neg (by omega)]) | (unfold signL; rw [if_neg (by omega)]; rfl)

theorem print_plain (m : Int) (s : Nat) (w : World) (D : List UInt8) (hv : Valid m s) (h0 : 0 < (s : Int)) (HF : Hid (Fmts m D w)) (hD : D.length ≤ 30) (hlen : s + 1 ≤ D.length) :
    Calls Tryz.prog 21 #[.agg #[.int .i64 m, .int .i64 s]] w (IsText (signL m ++ (D.take (D.length - s) ++ 46 :: D.drop (D.length - s))) w) := by
  have hm1 := hv.1
  have hm2 := hv.2.1
  have hs9 := hv.2.2.2.1
  have H := Lib.hid hv
  clear hv
  by_cases hneg : m < 0
  all_goals
    go_enter Tryz.func21, Tryz.ntmps21
    go_wp2_with (first | (go_at_call 42; refine (check_ok _ _ _ H.out).mono ?_; rintro e w1 ⟨rfl, hb⟩; obtain ⟨hc, hf⟩ := bcell hb; have hz := hb.size; simp at hz) | (go_at_call 46; refine (magnitude_any _ _ (by omega) (by omega)).mono ?_; rintro e w' ⟨rfl, rfl⟩))
    refine (HF.out _ (((Below.refl _ _).alloc (Nat.le_refl _) _).trans (hb.mono (by simp)))).mono ?_
    rintro e w2 ⟨rfl, hk⟩
    have hbb := hb.trans (hk.mono hb.size)
    clear hc hf hz hb hk
    obtain ⟨hc, hf⟩ := bcell hbb
    have hz := hbb.size
    simp at hz
    go_wp2
    go_quiet (fail)
    go_wp2
    go_ret2
    refine ⟨_, rfl, ?_, bdrewN (((Below.refl _ _).alloc (Nat.le_refl _) _).trans (hbb.mono (by simp))) _⟩
  · unfold signL
    rw [if_pos hneg]
    simp only [Joins.data_append, Lib.extract_data]
    simp
    exact List.take_of_length_le (by simp)
  · unfold signL
    rw [if_neg (by omega)]
    simp only [Joins.data_append, Lib.extract_data]
    simp
    exact List.take_of_length_le (by simp)

theorem print_pad (m : Int) (s k : Nat) (w : World) (D Z : List UInt8) (hv : Valid m s) (h0 : 0 < (s : Int)) (HF : Hid (Fmts m D w)) (hD : D.length ≤ 30) (hk : D.length + k = s + 1) (hk0 : 0 < k) (hZ : Z.length = k)
    (HR : Hid (∀ w, Calls Tryz.prog 47 #[.string { data := #[48] }, .int .i64 k] w fun e w' => e = .returned (.string ⟨Z.toArray⟩) ∧ Below w.heap.size w w')) :
    Calls Tryz.prog 21 #[.agg #[.int .i64 m, .int .i64 s]] w (IsText (signL m ++ ((Z ++ D).take ((Z ++ D).length - s) ++ 46 :: (Z ++ D).drop ((Z ++ D).length - s))) w) := by
  have hm1 := hv.1
  have hm2 := hv.2.1
  have hs9 := hv.2.2.2.1
  have H := Lib.hid hv
  have hZ1 : Z.length ≤ k := by omega
  have hZ2 : k ≤ Z.length := by omega
  have hmiss : (s : Int) + 1 - (D.length : Int) = k := by omega
  have hlt : (D.length : Int) < (s : Int) + 1 := by omega
  clear hv hZ
  by_cases hneg : m < 0
  all_goals
    go_enter Tryz.func21, Tryz.ntmps21
    go_wp2_with (first | (go_at_call 42; refine (check_ok _ _ _ H.out).mono ?_; rintro e w1 ⟨rfl, hb⟩; obtain ⟨hc, hf⟩ := bcell hb; have hz := hb.size; simp at hz) | (go_at_call 46; refine (magnitude_any _ _ (by omega) (by omega)).mono ?_; rintro e w' ⟨rfl, rfl⟩))
    refine (HF.out _ (((Below.refl _ _).alloc (Nat.le_refl _) _).trans (hb.mono (by simp)))).mono ?_
    rintro e w2 ⟨rfl, hk2⟩
    have hbb := hb.trans (hk2.mono hb.size)
    clear hc hf hz hb hk2
    obtain ⟨hc, hf⟩ := bcell hbb
    have hz := hbb.size
    simp at hz
    go_wp2_with fail
    refine (HR.out _).mono ?_
    rintro e w3 ⟨rfl, hk2⟩
    have hb := hbb.trans (hk2.mono hbb.size)
    clear hc hf hz hbb hk2
    obtain ⟨hc, hf⟩ := bcell hb
    have hz := hb.size
    simp at hz
    go_wp2
    go_quiet (fail)
    go_wp2
    go_ret2
    refine ⟨_, rfl, ?_, bdrewN (((Below.refl _ _).alloc (Nat.le_refl _) _).trans (hb.mono (by simp))) _⟩
  · unfold signL
    rw [if_pos hneg]
    rw [cat Z D]
    simp only [Joins.data_append, Lib.extract_data, ← List.length_append]
    generalize Z ++ D = R
    simp
    exact List.take_of_length_le (by simp)
  · unfold signL
    rw [if_neg (by omega)]
    rw [cat Z D]
    simp only [Joins.data_append, Lib.extract_data, ← List.length_append]
    generalize Z ++ D = R
    simp
    exact List.take_of_length_le (by simp)

theorem digits_le (u : Nat) (h : u < 18446744073709551616) : (Lib.decDigits u).length ≤ 20 := by
  rw [Lib.decDigits_length]
  by_cases h0 : u = 0
  · subst h0; rw [Lib.nDigits_small (by omega)]; omega
  · have := Lib.numDigits_eq u (by omega) h
    split at this <;> omega

theorem fmts_any (m : Int) (w : World) (h : m.natAbs < 18446744073709551616) (ht : Lib.TabIs Tryz.prog w "internal/strconv.uint64pow10" .u64 Lib.pow10Tab) : Fmts m (Lib.decDigits m.natAbs) w := fun w1 hb =>
  formatUint_any m.natAbs h w1 (Lib.tabBelow_of_tabIs ht w1 hb)

theorem print_ok (m : Int) (s : Nat) (w : World) (hv : Valid m s) (ht : Lib.TabIs Tryz.prog w "internal/strconv.uint64pow10" .u64 Lib.pow10Tab) :
    Calls Tryz.prog 21 #[.agg #[.int .i64 m, .int .i64 s]] w (IsText (printL m s) w) := by
  have h1 := hv.1
  have h2 := hv.2.1
  have hs9 := hv.2.2.2.1
  have hf := fmts_any m w (by omega) ht
  have hD := digits_le m.natAbs (by omega)
  unfold printL rowL
  generalize Lib.decDigits m.natAbs = D at *
  by_cases h0 : s = 0
  · subst h0
    rw [if_pos rfl]
    exact print_zero m w D hv hf (by omega)
  · rw [if_neg h0]
    by_cases hl : s + 1 ≤ D.length
    · rw [show s + 1 - D.length = 0 by omega]
      exact print_plain m s w D hv (by omega) hf (by omega) hl
    · refine print_pad m s (s + 1 - D.length) w D (Lib.repeatL [48] (s + 1 - D.length)) hv (by omega) hf (by omega) (by omega) (by omega) (by rw [Lib.repeatL_length]; simp) ?_
      intro w
      exact Tryz.strings_Repeat { data := #[48] } (s + 1 - D.length) w (by omega) (by show 1 * _ ≤ _; omega)
end Go.Proofs.YtdiaijdobglaaaaGreatDoor
