/- The walk of DecBack. -/
import Derived.Test.YtdadnljhmfllbaaDoorDecTexts
import Derived.Test.YtdadnljhmfllbaaDoorDecAwake
import Derived.Test.YtdadnljhmfllbaaDoorDecScaleW
namespace Go.Proofs.YtdadnljhmfllbaaDoor
open Go.RowKit Dec

theorem size_text {r : ByteArray} {l : List UInt8} (h : r.data.toList = l) : r.size = l.length := by rw [← h]; exact Lib.size_eq r
theorem print_size {m : Int} {s : Nat} (hv : Valid m s) : (printL m s).length ≤ 40 := by
  have hD := digits_le m.natAbs (by have := hv.1; have := hv.2.1; omega)
  have h4 := hv.2.2.2.1
  rw [printL_len]
  split <;> split <;> omega

theorem back_long (m s : Int) (t : ByteArray) (w : World) (ht : 300 < (t.size : Int)) :
    Calls Tryd.prog 5 #[.agg #[.int .i64 m, .int .i64 s], .string t] w fun e w' => e = .returned (.bool true) ∧ Below w.heap.size w w' := by
  go_enter Tryd.func5, Tryd.ntmps5
  go_wp2
  go_ret
  exact ⟨rfl, (Below.refl _ _).alloc (Nat.le_refl _) _⟩

set_option maxRecDepth 100000 in
set_option maxHeartbeats 2000000 in
theorem back_ok_err (Ma : Int) (sa : Nat) (Ha : Hid (Valid Ma sa)) (t : ByteArray) (ht : (t.size : Int) ≤ 300) (E : Int) (hE : (E != 0) = true) (Hp : Hid (parseL t.data.toList = (0, 0, E))) (w : World) (h : Ready w) :
    Calls Tryd.prog 5 #[.agg #[.int .i64 Ma, .int .i64 sa], .string t] w fun e w' => e = .returned (.bool true) ∧ Below w.heap.size w w' := by
  have HR := Lib.hid h
  clear h
  go_enter Tryd.func5, Tryd.ntmps5
  go_wp2_with fail
  refine (print_is Ma sa _ (HR.out.alloc _) Ha.out _ rfl).mono ?_
  rintro e w1 ⟨r, rfl, hr, hb⟩
  have Hr := Lib.hid hr
  clear hr
  obtain ⟨hc, hf⟩ := bcell hb
  have hz := hb.size
  simp at hz
  go_wp2_with fail
  refine (parse_is r _ (HR.out.later (((Below.refl _ _).alloc (Nat.le_refl _) _).trans (hb.mono (by simp)))) (by have h1 := size_text Hr.out; have h2 := print_size Ha.out; omega) Ma sa 0 (by rw [Hr.out]; exact parse_print Ha.out)).mono ?_
  rintro e w2 ⟨rfl, hk⟩
  have hb := hb.trans (hk.mono hb.size)
  clear hc hf hz hk
  obtain ⟨hc, hf⟩ := bcell hb
  have hz := hb.size
  simp at hz
  have la : w.heap.size < w2.heap.size := by omega
  go_wp2_with fail
  refine (check_ok Ma sa _ Ha.out).mono ?_
  rintro e w3 ⟨rfl, hk⟩
  clear la
  have hb := (hb.alloc hb.size _).trans (hk.mono (hb.alloc hb.size _).size)
  clear hc hf hz hk
  obtain ⟨hc, hf⟩ := bcell hb
  have hz := hb.size
  simp at hz
  go_wp2_with fail
  refine (parse_is t _ (HR.out.later (((Below.refl _ _).alloc (Nat.le_refl _) _).trans (hb.mono (by simp)))) (by omega) 0 0 E Hp.out).mono ?_
  rintro e w4 ⟨rfl, hk⟩
  have hb := hb.trans (hk.mono hb.size)
  clear hc hf hz hk
  obtain ⟨hc, hf⟩ := bcell hb
  have hz := hb.size
  simp at hz
  have HR2 := Lib.hid ((HR.out.later (((Below.refl _ _).alloc (Nat.le_refl _) _).trans (hb.mono (by simp)))).alloc (.cells #[.int .i64 0, .int .i64 0] 23))
  go_wp2_with fail
  refine (awake_any _ HR2.out).mono ?_
  rintro e w5 ⟨rfl, hk⟩
  have c_c := (Cells2.new w4 0 0 23).later hk
  have hb := (hb.alloc hb.size _).trans (hk.mono (hb.alloc hb.size _).size)
  clear hc hf hz hk
  obtain ⟨hc, hf⟩ := bcell hb
  have hz := hb.size
  simp at hz
  obtain ⟨e_c, f_c⟩ := id c_c
  go_wp2
  go_ret
  exact ⟨rfl, (((Below.refl _ _).alloc (Nat.le_refl _) _).trans (hb.mono (by simp)))⟩

set_option maxRecDepth 100000 in
set_option maxHeartbeats 2000000 in
theorem back_ok_ok (Ma : Int) (sa : Nat) (Ha : Hid (Valid Ma sa)) (t : ByteArray) (ht : (t.size : Int) ≤ 300) (M : Int) (S : Nat) (Hp : Hid (parseL t.data.toList = (M, (S : Int), 0))) (w : World) (h : Ready w) :
    Calls Tryd.prog 5 #[.agg #[.int .i64 Ma, .int .i64 sa], .string t] w fun e w' => e = .returned (.bool true) ∧ Below w.heap.size w w' := by
  have HR := Lib.hid h
  clear h
  have hvc := Lib.hid (parse_valid Hp.out)
  have hsh : ((printL M S).length : Int) ≤ (t.size : Int) + 1 := by have h1 := print_short Hp.out; have h2 := Lib.size_eq t; omega
  go_enter Tryd.func5, Tryd.ntmps5
  go_wp2_with fail
  refine (print_is Ma sa _ (HR.out.alloc _) Ha.out _ rfl).mono ?_
  rintro e w1 ⟨r, rfl, hr, hb⟩
  have Hr := Lib.hid hr
  clear hr
  obtain ⟨hc, hf⟩ := bcell hb
  have hz := hb.size
  simp at hz
  go_wp2_with fail
  refine (parse_is r _ (HR.out.later (((Below.refl _ _).alloc (Nat.le_refl _) _).trans (hb.mono (by simp)))) (by have h1 := size_text Hr.out; have h2 := print_size Ha.out; omega) Ma sa 0 (by rw [Hr.out]; exact parse_print Ha.out)).mono ?_
  rintro e w2 ⟨rfl, hk⟩
  have hb := hb.trans (hk.mono hb.size)
  clear hc hf hz hk
  obtain ⟨hc, hf⟩ := bcell hb
  have hz := hb.size
  simp at hz
  have la : w.heap.size < w2.heap.size := by omega
  go_wp2_with fail
  refine (check_ok Ma sa _ Ha.out).mono ?_
  rintro e w3 ⟨rfl, hk⟩
  clear la
  have hb := (hb.alloc hb.size _).trans (hk.mono (hb.alloc hb.size _).size)
  clear hc hf hz hk
  obtain ⟨hc, hf⟩ := bcell hb
  have hz := hb.size
  simp at hz
  go_wp2_with fail
  refine (parse_is t _ (HR.out.later (((Below.refl _ _).alloc (Nat.le_refl _) _).trans (hb.mono (by simp)))) (by omega) M S 0 Hp.out).mono ?_
  rintro e w4 ⟨rfl, hk⟩
  have hb := hb.trans (hk.mono hb.size)
  clear hc hf hz hk
  obtain ⟨hc, hf⟩ := bcell hb
  have hz := hb.size
  simp at hz
  have HR2 := Lib.hid ((HR.out.later (((Below.refl _ _).alloc (Nat.le_refl _) _).trans (hb.mono (by simp)))).alloc (.cells #[.int .i64 M, .int .i64 S] 23))
  go_wp2_with fail
  refine (print_is M S _ HR2.out hvc.out _ rfl).mono ?_
  rintro e w5 ⟨r2, rfl, hr, hk⟩
  have Hr2 := Lib.hid hr
  clear hr
  have c_c := (Cells2.new w4 M S 23).later hk
  have hb := (hb.alloc hb.size _).trans (hk.mono (hb.alloc hb.size _).size)
  clear hc hf hz hk
  obtain ⟨hc, hf⟩ := bcell hb
  have hz := hb.size
  simp at hz
  go_wp2_with fail
  refine (parse_is r2 _ (HR.out.later (((Below.refl _ _).alloc (Nat.le_refl _) _).trans (hb.mono (by simp)))) (by have h1 := size_text Hr2.out; have h2 := print_size hvc.out; omega) M S 0 (by rw [Hr2.out]; exact parse_print hvc.out)).mono ?_
  rintro e w6 ⟨rfl, hk⟩
  have c_c := c_c.later hk
  have hb := hb.trans (hk.mono hb.size)
  clear hc hf hz hk
  obtain ⟨hc, hf⟩ := bcell hb
  have hz := hb.size
  simp at hz
  have HR3 := Lib.hid ((HR.out.later (((Below.refl _ _).alloc (Nat.le_refl _) _).trans (hb.mono (by simp)))).alloc (.cells #[.int .i64 M, .int .i64 S] 23))
  go_wp2_with fail
  refine (awake_any _ HR3.out).mono ?_
  rintro e w7 ⟨rfl, hk⟩
  have c_c := (c_c.old _).later hk
  have c_d := (Cells2.new w6 M S 23).later hk
  have hb := (hb.alloc hb.size _).trans (hk.mono (hb.alloc hb.size _).size)
  clear hc hf hz hk
  obtain ⟨hc, hf⟩ := bcell hb
  have hz := hb.size
  simp at hz
  obtain ⟨e_c, f_c⟩ := id c_c
  go_wp2_with fail
  refine (check_ok M S _ hvc.out).mono ?_
  rintro e w8 ⟨rfl, hk⟩
  have c_c := c_c.later hk
  have c_d := c_d.later hk
  clear e_c f_c
  have hb := hb.trans (hk.mono hb.size)
  clear hc hf hz hk
  obtain ⟨hc, hf⟩ := bcell hb
  have hz := hb.size
  simp at hz
  obtain ⟨e_c, f_c⟩ := id c_c
  obtain ⟨e_d, f_d⟩ := id c_d
  have hlen : (r2.size : Int) ≤ (t.size : Int) + 1 := by have h1 := size_text Hr2.out; omega
  go_wp2
  go_ret
  exact ⟨rfl, (((Below.refl _ _).alloc (Nat.le_refl _) _).trans (hb.mono (by simp)))⟩

set_option maxRecDepth 100000 in
set_option maxHeartbeats 2000000 in
theorem back_bad_err (Ma : Int) (Sa : Int) (Ha : Hid (¬ Valid Ma Sa)) (t : ByteArray) (ht : (t.size : Int) ≤ 300) (E : Int) (hE : (E != 0) = true) (Hp : Hid (parseL t.data.toList = (0, 0, E))) (w : World) (h : Ready w) :
    Calls Tryd.prog 5 #[.agg #[.int .i64 Ma, .int .i64 Sa], .string t] w fun e w' => e = .returned (.bool true) ∧ Below w.heap.size w w' := by
  have HR := Lib.hid h
  clear h
  go_enter Tryd.func5, Tryd.ntmps5
  go_wp2_with fail
  refine (print_bad Ma Sa _ Ha.out).mono ?_
  rintro e w1 ⟨rfl, hb⟩
  obtain ⟨hc, hf⟩ := bcell hb
  have hz := hb.size
  simp at hz
  go_wp2_with fail
  refine (parse_is _ _ (HR.out.later (((Below.refl _ _).alloc (Nat.le_refl _) _).trans (hb.mono (by simp)))) (by decide) 0 0 4 (by decide)).mono ?_
  rintro e w2 ⟨rfl, hk⟩
  have hb := hb.trans (hk.mono hb.size)
  clear hc hf hz hk
  obtain ⟨hc, hf⟩ := bcell hb
  have hz := hb.size
  simp at hz
  have la : w.heap.size < w2.heap.size := by omega
  go_wp2_with fail
  refine (check_bad Ma Sa _ Ha.out).mono ?_
  rintro e w3 ⟨rfl, hk⟩
  clear la
  have hb := (hb.alloc hb.size _).trans (hk.mono (hb.alloc hb.size _).size)
  clear hc hf hz hk
  obtain ⟨hc, hf⟩ := bcell hb
  have hz := hb.size
  simp at hz
  go_wp2_with fail
  refine (parse_is t _ (HR.out.later (((Below.refl _ _).alloc (Nat.le_refl _) _).trans (hb.mono (by simp)))) (by omega) 0 0 E Hp.out).mono ?_
  rintro e w4 ⟨rfl, hk⟩
  have hb := hb.trans (hk.mono hb.size)
  clear hc hf hz hk
  obtain ⟨hc, hf⟩ := bcell hb
  have hz := hb.size
  simp at hz
  have HR2 := Lib.hid ((HR.out.later (((Below.refl _ _).alloc (Nat.le_refl _) _).trans (hb.mono (by simp)))).alloc (.cells #[.int .i64 0, .int .i64 0] 23))
  go_wp2_with fail
  refine (awake_any _ HR2.out).mono ?_
  rintro e w5 ⟨rfl, hk⟩
  have c_c := (Cells2.new w4 0 0 23).later hk
  have hb := (hb.alloc hb.size _).trans (hk.mono (hb.alloc hb.size _).size)
  clear hc hf hz hk
  obtain ⟨hc, hf⟩ := bcell hb
  have hz := hb.size
  simp at hz
  obtain ⟨e_c, f_c⟩ := id c_c
  go_wp2
  go_ret
  exact ⟨rfl, (((Below.refl _ _).alloc (Nat.le_refl _) _).trans (hb.mono (by simp)))⟩

set_option maxRecDepth 100000 in
set_option maxHeartbeats 2000000 in
theorem back_bad_ok (Ma : Int) (Sa : Int) (Ha : Hid (¬ Valid Ma Sa)) (t : ByteArray) (ht : (t.size : Int) ≤ 300) (M : Int) (S : Nat) (Hp : Hid (parseL t.data.toList = (M, (S : Int), 0))) (w : World) (h : Ready w) :
    Calls Tryd.prog 5 #[.agg #[.int .i64 Ma, .int .i64 Sa], .string t] w fun e w' => e = .returned (.bool true) ∧ Below w.heap.size w w' := by
  have HR := Lib.hid h
  clear h
  have hvc := Lib.hid (parse_valid Hp.out)
  have hsh : ((printL M S).length : Int) ≤ (t.size : Int) + 1 := by have h1 := print_short Hp.out; have h2 := Lib.size_eq t; omega
  go_enter Tryd.func5, Tryd.ntmps5
  go_wp2_with fail
  refine (print_bad Ma Sa _ Ha.out).mono ?_
  rintro e w1 ⟨rfl, hb⟩
  obtain ⟨hc, hf⟩ := bcell hb
  have hz := hb.size
  simp at hz
  go_wp2_with fail
  refine (parse_is _ _ (HR.out.later (((Below.refl _ _).alloc (Nat.le_refl _) _).trans (hb.mono (by simp)))) (by decide) 0 0 4 (by decide)).mono ?_
  rintro e w2 ⟨rfl, hk⟩
  have hb := hb.trans (hk.mono hb.size)
  clear hc hf hz hk
  obtain ⟨hc, hf⟩ := bcell hb
  have hz := hb.size
  simp at hz
  have la : w.heap.size < w2.heap.size := by omega
  go_wp2_with fail
  refine (check_bad Ma Sa _ Ha.out).mono ?_
  rintro e w3 ⟨rfl, hk⟩
  clear la
  have hb := (hb.alloc hb.size _).trans (hk.mono (hb.alloc hb.size _).size)
  clear hc hf hz hk
  obtain ⟨hc, hf⟩ := bcell hb
  have hz := hb.size
  simp at hz
  go_wp2_with fail
  refine (parse_is t _ (HR.out.later (((Below.refl _ _).alloc (Nat.le_refl _) _).trans (hb.mono (by simp)))) (by omega) M S 0 Hp.out).mono ?_
  rintro e w4 ⟨rfl, hk⟩
  have hb := hb.trans (hk.mono hb.size)
  clear hc hf hz hk
  obtain ⟨hc, hf⟩ := bcell hb
  have hz := hb.size
  simp at hz
  have HR2 := Lib.hid ((HR.out.later (((Below.refl _ _).alloc (Nat.le_refl _) _).trans (hb.mono (by simp)))).alloc (.cells #[.int .i64 M, .int .i64 S] 23))
  go_wp2_with fail
  refine (print_is M S _ HR2.out hvc.out _ rfl).mono ?_
  rintro e w5 ⟨r2, rfl, hr, hk⟩
  have Hr2 := Lib.hid hr
  clear hr
  have c_c := (Cells2.new w4 M S 23).later hk
  have hb := (hb.alloc hb.size _).trans (hk.mono (hb.alloc hb.size _).size)
  clear hc hf hz hk
  obtain ⟨hc, hf⟩ := bcell hb
  have hz := hb.size
  simp at hz
  go_wp2_with fail
  refine (parse_is r2 _ (HR.out.later (((Below.refl _ _).alloc (Nat.le_refl _) _).trans (hb.mono (by simp)))) (by have h1 := size_text Hr2.out; have h2 := print_size hvc.out; omega) M S 0 (by rw [Hr2.out]; exact parse_print hvc.out)).mono ?_
  rintro e w6 ⟨rfl, hk⟩
  have c_c := c_c.later hk
  have hb := hb.trans (hk.mono hb.size)
  clear hc hf hz hk
  obtain ⟨hc, hf⟩ := bcell hb
  have hz := hb.size
  simp at hz
  have HR3 := Lib.hid ((HR.out.later (((Below.refl _ _).alloc (Nat.le_refl _) _).trans (hb.mono (by simp)))).alloc (.cells #[.int .i64 M, .int .i64 S] 23))
  go_wp2_with fail
  refine (awake_any _ HR3.out).mono ?_
  rintro e w7 ⟨rfl, hk⟩
  have c_c := (c_c.old _).later hk
  have c_d := (Cells2.new w6 M S 23).later hk
  have hb := (hb.alloc hb.size _).trans (hk.mono (hb.alloc hb.size _).size)
  clear hc hf hz hk
  obtain ⟨hc, hf⟩ := bcell hb
  have hz := hb.size
  simp at hz
  obtain ⟨e_c, f_c⟩ := id c_c
  go_wp2_with fail
  refine (check_ok M S _ hvc.out).mono ?_
  rintro e w8 ⟨rfl, hk⟩
  have c_c := c_c.later hk
  have c_d := c_d.later hk
  clear e_c f_c
  have hb := hb.trans (hk.mono hb.size)
  clear hc hf hz hk
  obtain ⟨hc, hf⟩ := bcell hb
  have hz := hb.size
  simp at hz
  obtain ⟨e_c, f_c⟩ := id c_c
  obtain ⟨e_d, f_d⟩ := id c_d
  have hlen : (r2.size : Int) ≤ (t.size : Int) + 1 := by have h1 := size_text Hr2.out; omega
  go_wp2
  go_ret
  exact ⟨rfl, (((Below.refl _ _).alloc (Nat.le_refl _) _).trans (hb.mono (by simp)))⟩

theorem back_any (m s : Int) (t : ByteArray) (w : World) (h : Ready w) (_ht : t.size ≤ maxLen) :
    Calls Tryd.prog 5 #[.agg #[.int .i64 m, .int .i64 s], .string t] w fun e w' => e = .returned (.bool true) ∧ Below w.heap.size w w' := by
  by_cases h300 : 300 < t.size
  · exact back_long m s t w (by omega)
  have ht : (t.size : Int) ≤ 300 := by omega
  obtain ⟨M, S, E, hp⟩ : ∃ M S E, parseL t.data.toList = (M, S, E) := ⟨_, _, _, rfl⟩
  by_cases hE : E = 0
  · subst hE
    have hvc := parse_valid hp
    obtain ⟨S, rfl⟩ : ∃ n : Nat, S = n := ⟨S.toNat, by have := hvc.2.2.1; omega⟩
    by_cases hv : Valid m s
    · obtain ⟨s, rfl⟩ : ∃ n : Nat, s = n := ⟨s.toNat, by have := hv.2.2.1; omega⟩
      exact back_ok_ok m s hv t ht M S hp w h
    · exact back_bad_ok m s hv t ht M S hp w h
  · obtain ⟨rfl, rfl⟩ := parse_err hp hE
    by_cases hv : Valid m s
    · obtain ⟨s, rfl⟩ : ∃ n : Nat, s = n := ⟨s.toNat, by have := hv.2.2.1; omega⟩
      exact back_ok_err m s hv t ht E (by rw [bne_iff_ne]; exact hE) hp w h
    · exact back_bad_err m s hv t ht E (by rw [bne_iff_ne]; exact hE) hp w h
end Go.Proofs.YtdadnljhmfllbaaDoor
