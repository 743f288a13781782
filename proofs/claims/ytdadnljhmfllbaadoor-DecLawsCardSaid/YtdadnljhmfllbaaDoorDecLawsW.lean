/- The walk of DecLaws. -/
import Derived.Test.YtdadnljhmfllbaaDoorDecOrderW
namespace Go.Proofs.YtdadnljhmfllbaaDoor
open Go.RowKit Dec

theorem val_of_den18 {v m s : Int} (h : Denotes v 18 m s 0) : val9 m s * 10 ^ 9 = v := by
  rcases h with ⟨_, hv, h⟩ | ⟨h, _⟩
  · obtain ⟨s, rfl⟩ : ∃ n : Nat, s = n := ⟨s.toNat, by have := hv.2.2.1; omega⟩
    have h9 := hv.2.2.2.1
    unfold val9
    rw [Int.toNat_natCast] at h ⊢
    refine Int.eq_of_mul_eq_mul_right (Int.ne_of_gt (pow_pos10 s)) ?_
    rw [← h]
    show m * p10 (9 - s) * p10 9 * p10 s = m * p10 18
    rw [Int.mul_assoc, Int.mul_assoc, ← p10_add, ← p10_add, show 9 - s + (9 + s) = 18 by omega]
  · cases h

theorem den_self {m s : Int} (hv : Valid m s) : Denotes (val9 m s) 9 m s 0 := by
  obtain ⟨s, rfl⟩ : ∃ n : Nat, s = n := ⟨s.toNat, by have := hv.2.2.1; omega⟩
  have h9 := hv.2.2.2.1
  refine den_ok hv ?_
  unfold val9
  rw [Int.toNat_natCast]
  show m * p10 9 = m * p10 (9 - s) * p10 s
  rw [Int.mul_assoc, ← p10_add, show 9 - s + s = 9 by omega]
theorem den_zero_added {m s : Int} (hv : Valid m s) : Denotes (val9 m s + val9 0 0) 9 m s 0 := by
  rw [show val9 0 0 = 0 by decide, Int.add_zero]; exact den_self hv
theorem den_one {m s : Int} (hv : Valid m s) : Denotes (val9 m s * val9 1 0) 18 m s 0 := (den_self hv).scale (by
  rw [show val9 1 0 = 10 ^ 9 by decide, Int.mul_assoc]; rfl)

/-- What the calls of DecLaws answer at three valid decimals. -/
structure Lawful (Ma Sa Mb Sb Mc Sc M1 S1 E1 M3 S3 E3 M4 S4 E4 M5 S5 E5 M6 S6 E6 M7 S7 E7 M8 S8 E8 M9 S9 E9 : Int) : Prop where
  va : Valid Ma Sa
  vb : Valid Mb Sb
  vc : Valid Mc Sc
  d1 : Denotes (val9 Ma Sa + val9 Mb Sb) 9 M1 S1 E1
  d2 : Denotes (val9 Mb Sb + val9 Ma Sa) 9 M1 S1 E1
  d3 : Denotes (val9 Mb Sb + val9 Mc Sc) 9 M3 S3 E3
  d4 : Denotes (val9 M1 S1 + val9 Mc Sc) 9 M4 S4 E4
  d5 : Denotes (val9 Ma Sa + val9 M3 S3) 9 M5 S5 E5
  d6 : Denotes (val9 Ma Sa * val9 Mb Sb) 18 M6 S6 E6
  d6' : Denotes (val9 Mb Sb * val9 Ma Sa) 18 M6 S6 E6
  d7 : Denotes (val9 Ma Sa * val9 Mc Sc) 18 M7 S7 E7
  d8 : Denotes (val9 Ma Sa * val9 M3 S3) 18 M8 S8 E8
  d9 : Denotes (val9 M6 S6 + val9 M7 S7) 9 M9 S9 E9

/-- The last test's ways. -/
def Last (M8 S8 M9 S9 E6 E7 E8 E9 : Int) : Prop :=
  E6 = 5 ∨ (E6 = 0 ∧ E7 = 5) ∨ (E6 = 0 ∧ E7 = 0 ∧ E8 = 5) ∨ (E6 = 0 ∧ E7 = 0 ∧ E8 = 0 ∧ E9 = 5) ∨ (E6 = 0 ∧ E7 = 0 ∧ E8 = 0 ∧ E9 = 0 ∧ M9 = M8 ∧ S9 = S8)

theorem Lawful.cases {Ma Sa Mb Sb Mc Sc M1 S1 E1 M3 S3 E3 M4 S4 E4 M5 S5 E5 M6 S6 E6 M7 S7 E7 M8 S8 E8 M9 S9 E9 : Int} (L : Lawful Ma Sa Mb Sb Mc Sc M1 S1 E1 M3 S3 E3 M4 S4 E4 M5 S5 E5 M6 S6 E6 M7 S7 E7 M8 S8 E8 M9 S9 E9) :
    (E1 = 0 ∧ E3 = 0 ∧ (M5 = M4 ∧ S5 = S4 ∧ E5 = E4) ∧ Last M8 S8 M9 S9 E6 E7 E8 E9) ∨ (E1 = 0 ∧ E3 = 5) ∨ (E1 = 5 ∧ (E3 = 5 ∨ (E3 = 0 ∧ Last M8 S8 M9 S9 E6 E7 E8 E9))) := by
  have e1 := (Denotes_valid L.d1).2
  have e3 := (Denotes_valid L.d3).2
  have e6 := (Denotes_valid L.d6).2
  have e7 := (Denotes_valid L.d7).2
  have e8 := (Denotes_valid L.d8).2
  have e9 := (Denotes_valid L.d9).2
  have hl : E3 = 0 → Last M8 S8 M9 S9 E6 E7 E8 E9 := by
    intro h3
    by_cases h6 : E6 = 0
    case neg => exact .inl (e6.resolve_left h6)
    by_cases h7 : E7 = 0
    case neg => exact .inr (.inl ⟨h6, e7.resolve_left h7⟩)
    by_cases h8 : E8 = 0
    case neg => exact .inr (.inr (.inl ⟨h6, h7, e8.resolve_left h8⟩))
    by_cases h9 : E9 = 0
    case neg => exact .inr (.inr (.inr (.inl ⟨h6, h7, h8, e9.resolve_left h9⟩)))
    · subst h6; subst h7; subst h8; subst h9; subst h3
      have b := val_of_den L.d3
      have p := val_of_den18 L.d6
      have q := val_of_den18 L.d7
      have r := L.d8
      rw [b] at r
      have s : Denotes (val9 Ma Sa * (val9 Mb Sb + val9 Mc Sc)) 18 M9 S9 0 := L.d9.scale (by
        rw [Int.mul_add, ← p, ← q, ← Int.add_mul, Int.mul_assoc, show (10 : Int) ^ 9 * 10 ^ 9 = 10 ^ 18 by decide])
      obtain ⟨x, y, _⟩ := r.unique s
      exact .inr (.inr (.inr (.inr ⟨rfl, rfl, rfl, rfl, x.symm, y.symm⟩)))
  by_cases h1 : E1 = 0
  · by_cases h3 : E3 = 0
    · left
      refine ⟨h1, h3, ?_, hl h3⟩
      subst h1; subst h3
      have x := L.d4
      have y := L.d5
      rw [val_of_den L.d1] at x
      rw [val_of_den L.d3, ← Int.add_assoc] at y
      exact y.unique x
    · right; left; exact ⟨h1, e3.resolve_left h3⟩
  · right; right
    refine ⟨e1.resolve_left h1, ?_⟩
    by_cases h3 : E3 = 0
    · exact .inr ⟨h3, hl h3⟩
    · exact .inl (e3.resolve_left h3)

set_option maxRecDepth 100000 in
set_option maxHeartbeats 4000000 in
theorem laws_ok (Ma Sa Mb Sb Mc Sc M1 S1 E1 M3 S3 E3 M4 S4 E4 M5 S5 E5 M6 S6 E6 M7 S7 E7 M8 S8 E8 M9 S9 E9 : Int) (w : World) (h : Ready w) (L : Lawful Ma Sa Mb Sb Mc Sc M1 S1 E1 M3 S3 E3 M4 S4 E4 M5 S5 E5 M6 S6 E6 M7 S7 E7 M8 S8 E8 M9 S9 E9) :
    Calls Tryd.prog 6 #[.agg #[.int .i64 Ma, .int .i64 Sa], .agg #[.int .i64 Mb, .int .i64 Sb], .agg #[.int .i64 Mc, .int .i64 Sc]] w fun e w' => e = .returned (.bool true) ∧ Below w.heap.size w w' := by
  have HR := Lib.hid h
  have HO := Lib.hid L
  clear h L
  go_enter Tryd.func6, Tryd.ntmps6
  go_wp2_with fail
  refine (check_ok Ma Sa _ HO.out.va).mono ?_
  rintro e w1 ⟨rfl, hb⟩
  obtain ⟨hc, hf⟩ := bcell hb
  have hz := hb.size
  simp at hz
  go_wp2_with fail
  refine (check_ok Mb Sb _ HO.out.vb).mono ?_
  rintro e w2 ⟨rfl, hk⟩
  have hb := hb.trans (hk.mono hb.size)
  clear hc hf hz hk
  obtain ⟨hc, hf⟩ := bcell hb
  have hz := hb.size
  simp at hz
  go_wp2_with fail
  refine (check_ok Mc Sc _ HO.out.vc).mono ?_
  rintro e w3 ⟨rfl, hk⟩
  have hb := hb.trans (hk.mono hb.size)
  clear hc hf hz hk
  obtain ⟨hc, hf⟩ := bcell hb
  have hz := hb.size
  simp at hz
  go_wp2_with fail
  refine (add_is Ma Sa Mb Sb _ HO.out.va HO.out.vb M1 S1 E1 HO.out.d1).mono ?_
  rintro e w4 ⟨rfl, hk⟩
  have hb := hb.trans (hk.mono hb.size)
  clear hc hf hz hk
  obtain ⟨hc, hf⟩ := bcell hb
  have hz := hb.size
  simp at hz
  have la : w.heap.size < w4.heap.size := by omega
  have lb : w.heap.size + 1 < w4.heap.size := by omega
  have lc : w.heap.size + 1 + 1 < w4.heap.size := by omega
  go_wp2_with fail
  refine (add_is Mb Sb Ma Sa _ HO.out.vb HO.out.va M1 S1 E1 HO.out.d2).mono ?_
  rintro e w5 ⟨rfl, hk⟩
  have hb := (hb.alloc hb.size _).trans (hk.mono (hb.alloc hb.size _).size)
  have c_ab := (Cells2.new w4 M1 S1 23).later hk
  clear la lb lc
  clear hc hf hz hk
  obtain ⟨hc, hf⟩ := bcell hb
  have hz := hb.size
  simp at hz
  have la : w.heap.size < w5.heap.size := by omega
  have lb : w.heap.size + 1 < w5.heap.size := by omega
  have lc : w.heap.size + 1 + 1 < w5.heap.size := by omega
  go_wp2_with fail
  refine (add_is Mb Sb Mc Sc _ HO.out.vb HO.out.vc M3 S3 E3 HO.out.d3).mono ?_
  rintro e w6 ⟨rfl, hk⟩
  have hb := (hb.alloc hb.size _).trans (hk.mono (hb.alloc hb.size _).size)
  have c_ab := (c_ab.old _).later hk
  have c_ba := (Cells2.new w5 M1 S1 23).later hk
  clear la lb lc
  clear hc hf hz hk
  obtain ⟨hc, hf⟩ := bcell hb
  have hz := hb.size
  simp at hz
  have la : w.heap.size < w6.heap.size := by omega
  have lb : w.heap.size + 1 < w6.heap.size := by omega
  have lc : w.heap.size + 1 + 1 < w6.heap.size := by omega
  have l_ab := c_ab.lt
  obtain ⟨e_ab, f_ab⟩ := id c_ab
  go_wp2_with fail
  refine (add_is M1 S1 Mc Sc _ (Denotes_valid HO.out.d1).1 HO.out.vc M4 S4 E4 HO.out.d4).mono ?_
  rintro e w7 ⟨rfl, hk⟩
  have hb := (hb.alloc hb.size _).trans (hk.mono (hb.alloc hb.size _).size)
  have c_ab := (c_ab.old _).later hk
  have c_ba := (c_ba.old _).later hk
  have c_bc := (Cells2.new w6 M3 S3 23).later hk
  clear l_ab e_ab f_ab
  clear la lb lc
  clear hc hf hz hk
  obtain ⟨hc, hf⟩ := bcell hb
  have hz := hb.size
  simp at hz
  have la : w.heap.size < w7.heap.size := by omega
  have lb : w.heap.size + 1 < w7.heap.size := by omega
  have lc : w.heap.size + 1 + 1 < w7.heap.size := by omega
  have l_bc := c_bc.lt
  obtain ⟨e_bc, f_bc⟩ := id c_bc
  go_wp2_with fail
  refine (add_is Ma Sa M3 S3 _ HO.out.va (Denotes_valid HO.out.d3).1 M5 S5 E5 HO.out.d5).mono ?_
  rintro e w8 ⟨rfl, hk⟩
  have hb := (hb.alloc hb.size _).trans (hk.mono (hb.alloc hb.size _).size)
  have c_ab := (c_ab.old _).later hk
  have c_ba := (c_ba.old _).later hk
  have c_bc := (c_bc.old _).later hk
  have c_x := (Cells2.new w7 M4 S4 23).later hk
  clear l_bc e_bc f_bc
  clear la lb lc
  clear hc hf hz hk
  obtain ⟨hc, hf⟩ := bcell hb
  have hz := hb.size
  simp at hz
  have la : w.heap.size < w8.heap.size := by omega
  have lb : w.heap.size + 1 < w8.heap.size := by omega
  have lc : w.heap.size + 1 + 1 < w8.heap.size := by omega
  go_wp2_with fail
  refine (mul_is Ma Sa Mb Sb _ HO.out.va HO.out.vb M6 S6 E6 HO.out.d6).mono ?_
  rintro e w9 ⟨rfl, hk⟩
  have hb := (hb.alloc hb.size _).trans (hk.mono (hb.alloc hb.size _).size)
  have c_ab := (c_ab.old _).later hk
  have c_ba := (c_ba.old _).later hk
  have c_bc := (c_bc.old _).later hk
  have c_x := (c_x.old _).later hk
  have c_y := (Cells2.new w8 M5 S5 23).later hk
  clear la lb lc
  clear hc hf hz hk
  obtain ⟨hc, hf⟩ := bcell hb
  have hz := hb.size
  simp at hz
  have la : w.heap.size < w9.heap.size := by omega
  have lb : w.heap.size + 1 < w9.heap.size := by omega
  have lc : w.heap.size + 1 + 1 < w9.heap.size := by omega
  go_wp2_with fail
  refine (mul_is Mb Sb Ma Sa _ HO.out.vb HO.out.va M6 S6 E6 HO.out.d6').mono ?_
  rintro e w10 ⟨rfl, hk⟩
  have hb := (hb.alloc hb.size _).trans (hk.mono (hb.alloc hb.size _).size)
  have c_ab := (c_ab.old _).later hk
  have c_ba := (c_ba.old _).later hk
  have c_bc := (c_bc.old _).later hk
  have c_x := (c_x.old _).later hk
  have c_y := (c_y.old _).later hk
  have c_p := (Cells2.new w9 M6 S6 23).later hk
  clear la lb lc
  clear hc hf hz hk
  obtain ⟨hc, hf⟩ := bcell hb
  have hz := hb.size
  simp at hz
  have la : w.heap.size < w10.heap.size := by omega
  have lb : w.heap.size + 1 < w10.heap.size := by omega
  have lc : w.heap.size + 1 + 1 < w10.heap.size := by omega
  go_wp2_with fail
  refine (mul_is Ma Sa Mc Sc _ HO.out.va HO.out.vc M7 S7 E7 HO.out.d7).mono ?_
  rintro e w11 ⟨rfl, hk⟩
  have hb := (hb.alloc hb.size _).trans (hk.mono (hb.alloc hb.size _).size)
  have c_ab := (c_ab.old _).later hk
  have c_ba := (c_ba.old _).later hk
  have c_bc := (c_bc.old _).later hk
  have c_x := (c_x.old _).later hk
  have c_y := (c_y.old _).later hk
  have c_p := (c_p.old _).later hk
  have c_q := (Cells2.new w10 M6 S6 23).later hk
  clear la lb lc
  clear hc hf hz hk
  obtain ⟨hc, hf⟩ := bcell hb
  have hz := hb.size
  simp at hz
  have la : w.heap.size < w11.heap.size := by omega
  have lb : w.heap.size + 1 < w11.heap.size := by omega
  have lc : w.heap.size + 1 + 1 < w11.heap.size := by omega
  have l_bc := c_bc.lt
  obtain ⟨e_bc, f_bc⟩ := id c_bc
  go_wp2_with fail
  refine (mul_is Ma Sa M3 S3 _ HO.out.va (Denotes_valid HO.out.d3).1 M8 S8 E8 HO.out.d8).mono ?_
  rintro e w12 ⟨rfl, hk⟩
  have hb := (hb.alloc hb.size _).trans (hk.mono (hb.alloc hb.size _).size)
  have c_ab := (c_ab.old _).later hk
  have c_ba := (c_ba.old _).later hk
  have c_bc := (c_bc.old _).later hk
  have c_x := (c_x.old _).later hk
  have c_y := (c_y.old _).later hk
  have c_p := (c_p.old _).later hk
  have c_q := (c_q.old _).later hk
  have c_ac := (Cells2.new w11 M7 S7 23).later hk
  clear l_bc e_bc f_bc
  clear la lb lc
  clear hc hf hz hk
  obtain ⟨hc, hf⟩ := bcell hb
  have hz := hb.size
  simp at hz
  have la : w.heap.size < w12.heap.size := by omega
  have lb : w.heap.size + 1 < w12.heap.size := by omega
  have lc : w.heap.size + 1 + 1 < w12.heap.size := by omega
  clear c_bc
  have l_p := c_p.lt
  obtain ⟨e_p, f_p⟩ := id c_p
  have l_ac := c_ac.lt
  obtain ⟨e_ac, f_ac⟩ := id c_ac
  go_wp2_with fail
  refine (add_is M6 S6 M7 S7 _ (Denotes_valid HO.out.d6).1 (Denotes_valid HO.out.d7).1 M9 S9 E9 HO.out.d9).mono ?_
  rintro e w13 ⟨rfl, hk⟩
  have hb := (hb.alloc hb.size _).trans (hk.mono (hb.alloc hb.size _).size)
  have c_ab := (c_ab.old _).later hk
  have c_ba := (c_ba.old _).later hk
  have c_x := (c_x.old _).later hk
  have c_y := (c_y.old _).later hk
  have c_p := (c_p.old _).later hk
  have c_q := (c_q.old _).later hk
  have c_ac := (c_ac.old _).later hk
  have c_r := (Cells2.new w12 M8 S8 23).later hk
  clear l_p e_p f_p l_ac e_ac f_ac
  clear la lb lc
  clear hc hf hz hk
  obtain ⟨hc, hf⟩ := bcell hb
  have hz := hb.size
  simp at hz
  have la : w.heap.size < w13.heap.size := by omega
  have lb : w.heap.size + 1 < w13.heap.size := by omega
  have lc : w.heap.size + 1 + 1 < w13.heap.size := by omega
  clear c_ac
  go_wp2_with fail
  refine (add_is Ma Sa 0 0 _ HO.out.va (by decide) Ma Sa 0 (den_zero_added HO.out.va)).mono ?_
  rintro e w14 ⟨rfl, hk⟩
  have hb := (hb.alloc hb.size _).trans (hk.mono (hb.alloc hb.size _).size)
  have c_ab := (c_ab.old _).later hk
  have c_ba := (c_ba.old _).later hk
  have c_x := (c_x.old _).later hk
  have c_y := (c_y.old _).later hk
  have c_p := (c_p.old _).later hk
  have c_q := (c_q.old _).later hk
  have c_r := (c_r.old _).later hk
  have c_s := (Cells2.new w13 M9 S9 23).later hk
  clear la lb lc
  clear hc hf hz hk
  obtain ⟨hc, hf⟩ := bcell hb
  have hz := hb.size
  simp at hz
  have la : w.heap.size < w14.heap.size := by omega
  have lb : w.heap.size + 1 < w14.heap.size := by omega
  have lc : w.heap.size + 1 + 1 < w14.heap.size := by omega
  go_wp2_with fail
  refine (mul_is Ma Sa 1 0 _ HO.out.va (by decide) Ma Sa 0 (den_one HO.out.va)).mono ?_
  rintro e w15 ⟨rfl, hk⟩
  have hb := (hb.alloc hb.size _).trans (hk.mono (hb.alloc hb.size _).size)
  have c_ab := (c_ab.old _).later hk
  have c_ba := (c_ba.old _).later hk
  have c_x := (c_x.old _).later hk
  have c_y := (c_y.old _).later hk
  have c_p := (c_p.old _).later hk
  have c_q := (c_q.old _).later hk
  have c_r := (c_r.old _).later hk
  have c_s := (c_s.old _).later hk
  have c_zero := (Cells2.new w14 Ma Sa 23).later hk
  clear la lb lc
  clear hc hf hz hk
  obtain ⟨hc, hf⟩ := bcell hb
  have hz := hb.size
  simp at hz
  have la : w.heap.size < w15.heap.size := by omega
  have lb : w.heap.size + 1 < w15.heap.size := by omega
  have lc : w.heap.size + 1 + 1 < w15.heap.size := by omega
  have l_ab := c_ab.lt
  obtain ⟨e_ab, f_ab⟩ := id c_ab
  have l_ba := c_ba.lt
  obtain ⟨e_ba, f_ba⟩ := id c_ba
  have l_x := c_x.lt
  obtain ⟨e_x, f_x⟩ := id c_x
  have l_y := c_y.lt
  obtain ⟨e_y, f_y⟩ := id c_y
  have l_p := c_p.lt
  obtain ⟨e_p, f_p⟩ := id c_p
  have l_q := c_q.lt
  obtain ⟨e_q, f_q⟩ := id c_q
  have l_zero := c_zero.lt
  obtain ⟨e_zero, f_zero⟩ := id c_zero
  have HB := Lib.hid hb
  have HR2 := Lib.hid ((HR.out.later ((((((Below.refl _ _).alloc (Nat.le_refl _) _).alloc (by simp) _).alloc (by simp; omega) _)).trans (HB.out.mono (by simp; omega)))).alloc (.cells #[.int .i64 Ma, .int .i64 Sa] 23))
  have HC := Lib.hid HO.out.cases
  rcases HC.out with ⟨rfl, rfl, ⟨rfl, rfl, rfl⟩, hl⟩ | ⟨rfl, rfl⟩ | ⟨rfl, (rfl | ⟨rfl, hl⟩)⟩
  · clear HC HO
    rcases hl with rfl | ⟨rfl, rfl⟩ | ⟨rfl, rfl, rfl⟩ | ⟨rfl, rfl, rfl, rfl⟩ | ⟨rfl, rfl, rfl, rfl, rfl, rfl⟩
    all_goals
      go_wp2_with (go_at_call 13; refine (awake_any _ HR2.out).mono ?_; rintro e wl ⟨rfl, hk⟩; have hb := (hb.alloc hb.size _).trans (hk.mono (hb.alloc hb.size _).size); have c_r := (c_r.old _).later hk; have c_s := (c_s.old _).later hk; obtain ⟨e_r, f_r⟩ := id c_r; obtain ⟨e_s, f_s⟩ := id c_s; clear hc hf)
      go_ret
      exact ⟨rfl, ((((((Below.refl _ _).alloc (Nat.le_refl _) _).alloc (by simp) _).alloc (by simp; omega) _)).trans (hb.mono (by simp; omega)))⟩
  · clear HC HO
    go_wp2_with (go_at_call 13; refine (awake_any _ HR2.out).mono ?_; rintro e wl ⟨rfl, hk⟩; have hb := (hb.alloc hb.size _).trans (hk.mono (hb.alloc hb.size _).size); have c_r := (c_r.old _).later hk; have c_s := (c_s.old _).later hk; obtain ⟨e_r, f_r⟩ := id c_r; obtain ⟨e_s, f_s⟩ := id c_s; clear hc hf)
    go_ret
    exact ⟨rfl, ((((((Below.refl _ _).alloc (Nat.le_refl _) _).alloc (by simp) _).alloc (by simp; omega) _)).trans (hb.mono (by simp; omega)))⟩
  · clear HC HO
    go_wp2_with (go_at_call 13; refine (awake_any _ HR2.out).mono ?_; rintro e wl ⟨rfl, hk⟩; have hb := (hb.alloc hb.size _).trans (hk.mono (hb.alloc hb.size _).size); have c_r := (c_r.old _).later hk; have c_s := (c_s.old _).later hk; obtain ⟨e_r, f_r⟩ := id c_r; obtain ⟨e_s, f_s⟩ := id c_s; clear hc hf)
    go_ret
    exact ⟨rfl, ((((((Below.refl _ _).alloc (Nat.le_refl _) _).alloc (by simp) _).alloc (by simp; omega) _)).trans (hb.mono (by simp; omega)))⟩
  · clear HC HO
    rcases hl with rfl | ⟨rfl, rfl⟩ | ⟨rfl, rfl, rfl⟩ | ⟨rfl, rfl, rfl, rfl⟩ | ⟨rfl, rfl, rfl, rfl, rfl, rfl⟩
    all_goals
      go_wp2_with (go_at_call 13; refine (awake_any _ HR2.out).mono ?_; rintro e wl ⟨rfl, hk⟩; have hb := (hb.alloc hb.size _).trans (hk.mono (hb.alloc hb.size _).size); have c_r := (c_r.old _).later hk; have c_s := (c_s.old _).later hk; obtain ⟨e_r, f_r⟩ := id c_r; obtain ⟨e_s, f_s⟩ := id c_s; clear hc hf)
      go_ret
      exact ⟨rfl, ((((((Below.refl _ _).alloc (Nat.le_refl _) _).alloc (by simp) _).alloc (by simp; omega) _)).trans (hb.mono (by simp; omega)))⟩

set_option maxRecDepth 100000 in
set_option maxHeartbeats 2000000 in
theorem laws_bad_a (Ma Sa Mb Sb Mc Sc : Int) (w : World) (h : Ready w) (Ha : Hid (¬ Valid Ma Sa)) :
    Calls Tryd.prog 6 #[.agg #[.int .i64 Ma, .int .i64 Sa], .agg #[.int .i64 Mb, .int .i64 Sb], .agg #[.int .i64 Mc, .int .i64 Sc]] w fun e w' => e = .returned (.bool true) ∧ Below w.heap.size w w' := by
  have HR := Lib.hid h
  clear h
  go_enter Tryd.func6, Tryd.ntmps6
  go_wp2_with fail
  refine (check_bad Ma Sa _ Ha.out).mono ?_
  rintro e w1 ⟨rfl, hb⟩
  obtain ⟨hc, hf⟩ := bcell hb
  have hz := hb.size
  simp at hz
  have HR2 := Lib.hid (HR.out.later ((((((Below.refl _ _).alloc (Nat.le_refl _) _).alloc (by simp) _).alloc (by simp; omega) _)).trans (hb.mono (by simp; omega))))
  go_wp2_with (go_at_call 13; refine (awake_any _ HR2.out).mono ?_; rintro e wl ⟨rfl, hk⟩)
  have hb := hb.trans (hk.mono hb.size)
  go_ret
  exact ⟨rfl, ((((((Below.refl _ _).alloc (Nat.le_refl _) _).alloc (by simp) _).alloc (by simp; omega) _)).trans (hb.mono (by simp; omega)))⟩

set_option maxRecDepth 100000 in
set_option maxHeartbeats 2000000 in
theorem laws_bad_b (Ma Sa Mb Sb Mc Sc : Int) (w : World) (h : Ready w) (Ha : Hid (Valid Ma Sa)) (Hb : Hid (¬ Valid Mb Sb)) :
    Calls Tryd.prog 6 #[.agg #[.int .i64 Ma, .int .i64 Sa], .agg #[.int .i64 Mb, .int .i64 Sb], .agg #[.int .i64 Mc, .int .i64 Sc]] w fun e w' => e = .returned (.bool true) ∧ Below w.heap.size w w' := by
  have HR := Lib.hid h
  clear h
  go_enter Tryd.func6, Tryd.ntmps6
  go_wp2_with fail
  refine (check_ok Ma Sa _ Ha.out).mono ?_
  rintro e w1 ⟨rfl, hb⟩
  obtain ⟨hc, hf⟩ := bcell hb
  have hz := hb.size
  simp at hz
  go_wp2_with fail
  refine (check_bad Mb Sb _ Hb.out).mono ?_
  rintro e w2 ⟨rfl, hk⟩
  have hb := hb.trans (hk.mono hb.size)
  clear hc hf hz hk
  obtain ⟨hc, hf⟩ := bcell hb
  have hz := hb.size
  simp at hz
  have HR2 := Lib.hid (HR.out.later ((((((Below.refl _ _).alloc (Nat.le_refl _) _).alloc (by simp) _).alloc (by simp; omega) _)).trans (hb.mono (by simp; omega))))
  go_wp2_with (go_at_call 13; refine (awake_any _ HR2.out).mono ?_; rintro e wl ⟨rfl, hk⟩)
  have hb := hb.trans (hk.mono hb.size)
  go_ret
  exact ⟨rfl, ((((((Below.refl _ _).alloc (Nat.le_refl _) _).alloc (by simp) _).alloc (by simp; omega) _)).trans (hb.mono (by simp; omega)))⟩

set_option maxRecDepth 100000 in
set_option maxHeartbeats 2000000 in
theorem laws_bad_c (Ma Sa Mb Sb Mc Sc : Int) (w : World) (h : Ready w) (Ha : Hid (Valid Ma Sa)) (Hb : Hid (Valid Mb Sb)) (Hc : Hid (¬ Valid Mc Sc)) :
    Calls Tryd.prog 6 #[.agg #[.int .i64 Ma, .int .i64 Sa], .agg #[.int .i64 Mb, .int .i64 Sb], .agg #[.int .i64 Mc, .int .i64 Sc]] w fun e w' => e = .returned (.bool true) ∧ Below w.heap.size w w' := by
  have HR := Lib.hid h
  clear h
  go_enter Tryd.func6, Tryd.ntmps6
  go_wp2_with fail
  refine (check_ok Ma Sa _ Ha.out).mono ?_
  rintro e w1 ⟨rfl, hb⟩
  obtain ⟨hc, hf⟩ := bcell hb
  have hz := hb.size
  simp at hz
  go_wp2_with fail
  refine (check_ok Mb Sb _ Hb.out).mono ?_
  rintro e w2 ⟨rfl, hk⟩
  have hb := hb.trans (hk.mono hb.size)
  clear hc hf hz hk
  obtain ⟨hc, hf⟩ := bcell hb
  have hz := hb.size
  simp at hz
  go_wp2_with fail
  refine (check_bad Mc Sc _ Hc.out).mono ?_
  rintro e w3 ⟨rfl, hk⟩
  have hb := hb.trans (hk.mono hb.size)
  clear hc hf hz hk
  obtain ⟨hc, hf⟩ := bcell hb
  have hz := hb.size
  simp at hz
  have HR2 := Lib.hid (HR.out.later ((((((Below.refl _ _).alloc (Nat.le_refl _) _).alloc (by simp) _).alloc (by simp; omega) _)).trans (hb.mono (by simp; omega))))
  go_wp2_with (go_at_call 13; refine (awake_any _ HR2.out).mono ?_; rintro e wl ⟨rfl, hk⟩)
  have hb := hb.trans (hk.mono hb.size)
  go_ret
  exact ⟨rfl, ((((((Below.refl _ _).alloc (Nat.le_refl _) _).alloc (by simp) _).alloc (by simp; omega) _)).trans (hb.mono (by simp; omega)))⟩

theorem laws_any (Ma Sa Mb Sb Mc Sc : Int) (w : World) (h : Ready w) :
    Calls Tryd.prog 6 #[.agg #[.int .i64 Ma, .int .i64 Sa], .agg #[.int .i64 Mb, .int .i64 Sb], .agg #[.int .i64 Mc, .int .i64 Sc]] w fun e w' => e = .returned (.bool true) ∧ Below w.heap.size w w' := by
  by_cases va : Valid Ma Sa
  · by_cases vb : Valid Mb Sb
    · by_cases vc : Valid Mc Sc
      · obtain ⟨M1, S1, E1, h1⟩ := make_told (val9 Ma Sa + val9 Mb Sb) 9
        obtain ⟨M3, S3, E3, h3⟩ := make_told (val9 Mb Sb + val9 Mc Sc) 9
        obtain ⟨M4, S4, E4, h4⟩ := make_told (val9 M1 S1 + val9 Mc Sc) 9
        obtain ⟨M5, S5, E5, h5⟩ := make_told (val9 Ma Sa + val9 M3 S3) 9
        obtain ⟨M6, S6, E6, h6⟩ := make_told (val9 Ma Sa * val9 Mb Sb) 18
        obtain ⟨M7, S7, E7, h7⟩ := make_told (val9 Ma Sa * val9 Mc Sc) 18
        obtain ⟨M8, S8, E8, h8⟩ := make_told (val9 Ma Sa * val9 M3 S3) 18
        obtain ⟨M9, S9, E9, h9⟩ := make_told (val9 M6 S6 + val9 M7 S7) 9
        exact laws_ok Ma Sa Mb Sb Mc Sc M1 S1 E1 M3 S3 E3 M4 S4 E4 M5 S5 E5 M6 S6 E6 M7 S7 E7 M8 S8 E8 M9 S9 E9 w h ⟨va, vb, vc, h1, den_comm h1 (Int.add_comm _ _), h3, h4, h5, h6, den_comm h6 (Int.mul_comm _ _), h7, h8, h9⟩
      · exact laws_bad_c Ma Sa Mb Sb Mc Sc w h va vb vc
    · exact laws_bad_b Ma Sa Mb Sb Mc Sc w h va vb
  · exact laws_bad_a Ma Sa Mb Sb Mc Sc w h va
end Go.Proofs.YtdadnljhmfllbaaDoor
