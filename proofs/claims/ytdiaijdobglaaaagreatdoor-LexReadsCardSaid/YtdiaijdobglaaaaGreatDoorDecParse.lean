/- The walk of dec's Parse. -/
import Derived.Test.YtdiaijdobglaaaaGreatDoorDecRead
import Derived.Deep.QuietTactic
import Derived.BigQuiet
import Derived.Laws.Bits64b
import Derived.Lib.SmallJoins
import Derived.Lib.Strings
namespace Go.Proofs.YtdiaijdobglaaaaGreatDoor
open Go.RowKit Dec

theorem bdrewN {B : Nat} {a w : World} (h : Below B a w) (n : Nat) : Below B a (w.drewN n) := h.trans ⟨rfl, rfl, rfl, Nat.le_refl _, fun _ _ => rfl⟩
theorem magnitude_eq (m : Int) (w : World) (h0 : -4611686018427387904 ≤ m) (h1 : m ≤ 4611686018427387904) :
    Calls Tryz.prog 46 #[.int .i64 m] w fun e w' => e = .returned (.int .u64 (m.natAbs : Int)) ∧ w' = w :=
  (magnitude_any m w h0 h1).mono fun _ _ h => ⟨h.1, h.2.symm⟩

/-- The library's variable MaxLen reads as some number. -/
def MaxLen (w : World) : Prop := ∃ m, w.cell? ⟨0, 0, none⟩ = some (.int .i64 m)

theorem cut_at (B W P : List UInt8) (f : Bool) (w : World) (h : Lib.cut B [46] = (W, P, f)) (hB : B.length < 4294967281) (hm : MaxLen w) :
    Calls Tryz.prog 72 #[.string ⟨B.toArray⟩, .string { data := #[46] }] w fun e w' => e = .returned (.tuple #[.string ⟨W.toArray⟩, .string ⟨P.toArray⟩, .bool f]) ∧ ∃ n, w' = w.drewN n := by
  obtain ⟨m, hm⟩ := hm
  refine (Tryz.strings_Cut ⟨B.toArray⟩ { data := #[46] } m w hB hm).mono ?_
  rintro e w' ⟨he, hw⟩
  refine ⟨?_, hw⟩
  rw [he, show ({ data := #[46] } : ByteArray).data.toList = [46] from rfl, show (⟨B.toArray⟩ : ByteArray).data.toList = B from rfl, h]

theorem trim_at (P : List UInt8) (w : World) (hP : P.length ≤ 1000) :
    Calls Tryz.prog 73 #[.string ⟨P.toArray⟩, .string { data := #[48] }] w fun e w' => e = .returned (.string ⟨(Lib.trimRightB P 48).toArray⟩) ∧ w = w' :=
  (Tryz.strings_TrimRight_one ⟨P.toArray⟩ 48 (by decide) w (by show P.toArray.size ≤ _; simp; omega)).mono fun e w' ⟨a, b⟩ => ⟨a, b.symm⟩

theorem cat (a b : List UInt8) : (⟨a.toArray⟩ ++ ⟨b.toArray⟩ : ByteArray) = ⟨(a ++ b).toArray⟩ := by
  apply ByteArray.ext
  apply Array.toList_inj.1
  rw [Joins.data_append]
theorem cat_empty (a b : List UInt8) : (⟨a.toArray⟩ ++ ⟨b.toArray⟩ : ByteArray).toList.isEmpty = (a ++ b).isEmpty := by
  rw [cat, Lib.toList_data]

theorem trimRightB_le (l : List UInt8) (c : UInt8) : (Lib.trimRightB l c).length ≤ l.length := by
  unfold Lib.trimRightB
  rw [List.length_reverse]
  exact Nat.le_trans (List.dropWhile_suffix (· == c)).length_le (by rw [List.length_reverse]; exact Nat.le_refl _)

theorem maxLen_below {w w' : World} (hb : Below w.heap.size w w') (h : MaxLen w) : MaxLen w' := by
  obtain ⟨m, h⟩ := h
  refine ⟨m, ?_⟩
  rw [hb.cell (p := ⟨0, 0, none⟩) ?_]
  · exact h
  · apply Nat.lt_of_not_le
    intro hle
    have hle' : w.heap.size ≤ 0 := hle
    unfold World.cell? at h
    rw [Array.getElem?_eq_none hle'] at h
    simp at h

/-- What the walk of Parse is told of its text. -/
structure Parts (t : ByteArray) (sg : Int) (B W P P' : List UInt8) (w : World) : Prop where
  sign : ∀ w, Calls Tryz.prog 71 #[.string t] w fun e w' => e = .returned (.tuple #[.int .i64 sg, .string ⟨B.toArray⟩]) ∧ w = w'
  cut : ∃ f, Calls Tryz.prog 72 #[.string ⟨B.toArray⟩, .string { data := #[46] }] (w.alloc (.cells #[.int .i64 0, .int .i64 0] 25)) fun e w' => e = .returned (.tuple #[.string ⟨W.toArray⟩, .string ⟨P.toArray⟩, .bool f]) ∧ ∃ n, w' = (w.alloc (.cells #[.int .i64 0, .int .i64 0] 25)).drewN n
  trim : ∀ w, Calls Tryz.prog 73 #[.string ⟨P.toArray⟩, .string { data := #[48] }] w fun e w' => e = .returned (.string ⟨P'.toArray⟩) ∧ w = w'
  read : ∀ w, Calls Tryz.prog 74 #[.string (⟨W.toArray⟩ ++ ⟨P'.toArray⟩)] w fun e w' => e = .returned (.tuple #[.int .i64 (rd 0 0 (W ++ P')).1, .int .i64 (rd 0 0 (W ++ P')).2]) ∧ w = w'

theorem below_cell2 {w : World} (T : Nat) (n : Nat) (x y : Value) : Below w.heap.size w ((((w.alloc (.cells #[.int .i64 0, .int .i64 0] T)).drewN n).setCell ⟨w.heap.size, 0, none⟩ x).setCell ⟨w.heap.size, 1, none⟩ y) :=
  ((bdrewN ((Below.refl _ _).alloc (Nat.le_refl _) _) n).setCell (Nat.le_refl _) _).setCell (Nat.le_refl _) _

/-- The answer of a call of Parse. -/
def IsDec (M S E : Int) (w : World) (e : Ending) (w' : World) : Prop := e = .returned (.tuple #[.agg #[.int .i64 M, .int .i64 S], .int .i64 E]) ∧ Below w.heap.size w w'

theorem parse_long (t : ByteArray) (w : World) (ht : 40 < (t.size : Int)) : Calls Tryz.prog 56 #[.string t] w (IsDec 0 0 4 w) := by
  go_enter Tryz.func56, Tryz.ntmps56
  go_wp2
  exact bodyPost_ret (v := .tuple #[.agg #[.int .i64 0, .int .i64 0], .int .i64 4]) (by simp [results, Tryz.results56, go_sem]) rfl ⟨rfl, (Below.refl _ _).alloc (Nat.le_refl _) _⟩

theorem parse_empty (t : ByteArray) (sg : Int) (B W P P' : List UInt8) (w : World) (HP : Parts t sg B W P P' w) (ht : (t.size : Int) ≤ 40) (_hW : W.length ≤ 40) (_hP : P.length ≤ 40)
    (hne : (⟨W.toArray⟩ ++ ⟨P.toArray⟩ : ByteArray).toList.isEmpty = true) : Calls Tryz.prog 56 #[.string t] w (IsDec 0 0 4 w) := by
  obtain ⟨f, hcut⟩ := HP.cut
  have HC := Lib.hid hcut
  clear hcut
  go_enter Tryz.func56, Tryz.ntmps56
  go_wp2_with (first | (go_at_call 71; refine (HP.sign _).mono ?_; rintro e w' ⟨rfl, rfl⟩) | (go_at_call 72; refine HC.out.mono ?_; rintro e w' ⟨rfl, n, rfl⟩))
  exact bodyPost_ret (v := .tuple #[.agg #[.int .i64 0, .int .i64 0], .int .i64 4]) (by simp [results, Tryz.results56, go_sem]) rfl ⟨rfl, below_cell2 _ _ _ _⟩

theorem parse_bad (t : ByteArray) (sg : Int) (B W P P' : List UInt8) (w : World) (HP : Parts t sg B W P P' w) (ht : (t.size : Int) ≤ 40) (_hW : W.length ≤ 40) (_hP : P.length ≤ 40) (_hP' : P'.length ≤ 40)
    (hne : (⟨W.toArray⟩ ++ ⟨P.toArray⟩ : ByteArray).toList.isEmpty = false) (M E : Int) (hr : rd 0 0 (W ++ P') = (M, E)) (hE : (E != 0) = true) : Calls Tryz.prog 56 #[.string t] w (IsDec 0 0 E w) := by
  obtain ⟨f, hcut⟩ := HP.cut
  have HC := Lib.hid hcut
  have HR := Lib.hid HP.read
  rw [hr] at HR
  clear hcut hr
  go_enter Tryz.func56, Tryz.ntmps56
  go_wp2_with (first | (go_at_call 71; refine (HP.sign _).mono ?_; rintro e w' ⟨rfl, rfl⟩) | (go_at_call 72; refine HC.out.mono ?_; rintro e w' ⟨rfl, n, rfl⟩) | (go_at_call 73; refine (HP.trim _).mono ?_; rintro e w' ⟨rfl, rfl⟩) | (go_at_call 74; refine (HR.out _).mono ?_; rintro e w' ⟨rfl, rfl⟩))
  exact bodyPost_ret (v := .tuple #[.agg #[.int .i64 0, .int .i64 0], .int .i64 E]) (by simp [results, Tryz.results56, go_sem]) rfl ⟨rfl, below_cell2 _ _ _ _⟩

theorem parse_over (t : ByteArray) (sg : Int) (B W P P' : List UInt8) (w : World) (HP : Parts t sg B W P P' w) (ht : (t.size : Int) ≤ 40) (_hW : W.length ≤ 40) (_hP : P.length ≤ 40) (_hP' : P'.length ≤ 40)
    (hne : (⟨W.toArray⟩ ++ ⟨P.toArray⟩ : ByteArray).toList.isEmpty = false) (M : Int) (hr : rd 0 0 (W ++ P') = (M, 0)) (h9 : 9 < (P'.length : Int)) : Calls Tryz.prog 56 #[.string t] w (IsDec 0 0 5 w) := by
  obtain ⟨f, hcut⟩ := HP.cut
  have HC := Lib.hid hcut
  have HR := Lib.hid HP.read
  rw [hr] at HR
  clear hcut hr
  go_enter Tryz.func56, Tryz.ntmps56
  go_wp2_with (first | (go_at_call 71; refine (HP.sign _).mono ?_; rintro e w' ⟨rfl, rfl⟩) | (go_at_call 72; refine HC.out.mono ?_; rintro e w' ⟨rfl, n, rfl⟩) | (go_at_call 73; refine (HP.trim _).mono ?_; rintro e w' ⟨rfl, rfl⟩) | (go_at_call 74; refine (HR.out _).mono ?_; rintro e w' ⟨rfl, rfl⟩))
  exact bodyPost_ret (v := .tuple #[.agg #[.int .i64 0, .int .i64 0], .int .i64 5]) (by simp [results, Tryz.results56, go_sem]) rfl ⟨rfl, below_cell2 _ _ _ _⟩

theorem parse_good (t : ByteArray) (sg : Int) (B W P P' : List UInt8) (w : World) (HP : Parts t sg B W P P' w) (ht : (t.size : Int) ≤ 40) (_hW : W.length ≤ 40) (_hP : P.length ≤ 40) (_hP' : P'.length ≤ 40)
    (hne : (⟨W.toArray⟩ ++ ⟨P.toArray⟩ : ByteArray).toList.isEmpty = false) (M : Int) (hr : rd 0 0 (W ++ P') = (M, 0)) (h9 : (P'.length : Int) ≤ 9) (_hm1 : -999999999999999999 ≤ sg * M) (_hm2 : sg * M ≤ 999999999999999999) :
    Calls Tryz.prog 56 #[.string t] w (IsDec (sg * M) P'.length 0 w) := by
  obtain ⟨f, hcut⟩ := HP.cut
  have HC := Lib.hid hcut
  have HR := Lib.hid HP.read
  rw [hr] at HR
  clear hcut hr
  go_enter Tryz.func56, Tryz.ntmps56
  go_wp2_with (first | (go_at_call 71; refine (HP.sign _).mono ?_; rintro e w' ⟨rfl, rfl⟩) | (go_at_call 72; refine HC.out.mono ?_; rintro e w' ⟨rfl, n, rfl⟩) | (go_at_call 73; refine (HP.trim _).mono ?_; rintro e w' ⟨rfl, rfl⟩) | (go_at_call 74; refine (HR.out _).mono ?_; rintro e w' ⟨rfl, rfl⟩))
  exact bodyPost_ret (v := .tuple #[.agg #[.int .i64 (sg * M), .int .i64 P'.length], .int .i64 0]) (by simp [results, Tryz.results56, go_sem]) rfl ⟨rfl, below_cell2 _ _ _ _⟩
/-- Parse's answer. -/
def wholeL (t : List UInt8) : List UInt8 := (Lib.cut (signOf t).2 [46]).1
def partL (t : List UInt8) : List UInt8 := (Lib.cut (signOf t).2 [46]).2.1
def keptL (t : List UInt8) : List UInt8 := wholeL t ++ Lib.trimRightB (partL t) 48
def parseL (t : List UInt8) : Int × Int × Int :=
  if 40 < t.length then (0, 0, 4)
  else if (wholeL t ++ partL t).isEmpty then (0, 0, 4)
  else if (rd 0 0 (keptL t)).2 ≠ 0 then (0, 0, (rd 0 0 (keptL t)).2)
  else if 9 < (Lib.trimRightB (partL t) 48).length then (0, 0, 5)
  else ((signOf t).1 * (rd 0 0 (keptL t)).1, (Lib.trimRightB (partL t) 48).length, 0)

theorem signOf_le (t : List UInt8) : (signOf t).2.length ≤ t.length := by
  unfold signOf
  split
  · simp
  · show (Lib.trimPrefix t [43]).length ≤ _
    unfold Lib.trimPrefix
    split <;> simp
theorem signOf_one (t : List UInt8) : (signOf t).1 = 1 ∨ (signOf t).1 = -1 := by
  unfold signOf; split <;> simp
theorem cut_le (B sep : List UInt8) : (Lib.cut B sep).1.length ≤ B.length ∧ (Lib.cut B sep).2.1.length ≤ B.length := by
  unfold Lib.cut
  split <;> simp <;> omega
theorem rd_bounds (l : List UInt8) : ∀ m e : Int, 0 ≤ m → m ≤ 999999999999999999 → 0 ≤ (rd m e l).1 ∧ (rd m e l).1 ≤ 999999999999999999 := by
  induction l with
  | nil => intro m e h1 h2; exact ⟨h1, h2⟩
  | cons c l ih =>
    intro m e h1 h2
    rw [rd]
    split
    · exact ⟨by decide, by decide⟩
    · split
      · exact ih m 5 h1 h2
      · split
        · exact ih 0 5 (by decide) (by decide)
        · rename_i hd _ hb
          exact ih _ e (by omega) (by omega)

theorem parse_any (t : ByteArray) (w : World) (hm : MaxLen w) (hs : t.size ≤ 9223372036854775807) :
    Calls Tryz.prog 56 #[.string t] w (IsDec (parseL t.data.toList).1 (parseL t.data.toList).2.1 (parseL t.data.toList).2.2 w) := by
  have hsz : t.data.toList.length = t.size := by rw [Array.length_toList]; rfl
  unfold parseL
  by_cases h40 : 40 < t.size
  · rw [if_pos (by omega)]
    exact parse_long t w (by omega)
  rw [if_neg (by omega)]
  have l1 := signOf_le t.data.toList
  have l2 := cut_le (signOf t.data.toList).2 [46]
  have l3 := trimRightB_le (partL t.data.toList) 48
  have hW : (wholeL t.data.toList).length ≤ 40 := by unfold wholeL; omega
  have hP : (partL t.data.toList).length ≤ 40 := by unfold partL; omega
  have HP : Parts t (signOf t.data.toList).1 (signOf t.data.toList).2 (wholeL t.data.toList) (partL t.data.toList) (Lib.trimRightB (partL t.data.toList) 48) w := {
    sign := fun w => cutSign_any t w
    cut := ⟨(Lib.cut (signOf t.data.toList).2 [46]).2.2, cut_at _ _ _ _ _ rfl (by omega) (maxLen_below ((Below.refl _ _).alloc (Nat.le_refl _) _) hm)⟩
    trim := fun w => trim_at _ w (by omega)
    read := fun w => by
      have := read_any (⟨(wholeL t.data.toList).toArray⟩ ++ ⟨(Lib.trimRightB (partL t.data.toList) 48).toArray⟩) w (by rw [cat]; show (((wholeL t.data.toList ++ Lib.trimRightB (partL t.data.toList) 48).toArray.size : Nat) : Int) ≤ 1000; simp; omega)
      rwa [Joins.data_append] at this }
  have he := cat_empty (wholeL t.data.toList) (partL t.data.toList)
  by_cases hne : (wholeL t.data.toList ++ partL t.data.toList).isEmpty = true
  · rw [if_pos hne]
    rw [hne] at he
    exact parse_empty t _ _ _ _ _ w HP (by omega) hW hP he
  rw [if_neg hne]
  rw [Bool.eq_false_iff.2 hne] at he
  have hr : rd 0 0 (keptL t.data.toList) = ((rd 0 0 (keptL t.data.toList)).1, (rd 0 0 (keptL t.data.toList)).2) := rfl
  have hb := rd_bounds (keptL t.data.toList) 0 0 (by decide) (by decide)
  by_cases hE : (rd 0 0 (keptL t.data.toList)).2 ≠ 0
  · rw [if_pos hE]
    exact parse_bad t _ _ _ _ _ w HP (by omega) hW hP (by omega) he _ _ hr (by rw [bne_iff_ne]; exact hE)
  rw [if_neg hE]
  have hE0 : (rd 0 0 (keptL t.data.toList)).2 = 0 := Decidable.not_not.1 hE
  rw [hE0] at hr
  by_cases h9 : 9 < (Lib.trimRightB (partL t.data.toList) 48).length
  · rw [if_pos h9]
    exact parse_over t _ _ _ _ _ w HP (by omega) hW hP (by omega) he _ hr (by omega)
  rw [if_neg h9]
  have hsg := signOf_one t.data.toList
  have hb2 : -999999999999999999 ≤ (signOf t.data.toList).1 * (rd 0 0 (keptL t.data.toList)).1 ∧ (signOf t.data.toList).1 * (rd 0 0 (keptL t.data.toList)).1 ≤ 999999999999999999 := by
    rcases hsg with h | h <;> rw [h] <;> omega
  exact parse_good t _ _ _ _ _ w HP (by omega) hW hP (by omega) he _ hr (by omega) hb2.1 hb2.2

end Go.Proofs.YtdiaijdobglaaaaGreatDoor
