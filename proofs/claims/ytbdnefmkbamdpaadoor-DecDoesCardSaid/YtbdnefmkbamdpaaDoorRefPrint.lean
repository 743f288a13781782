/- The reference's Print: the walk. -/
import Derived.Test.YtbdnefmkbamdpaaDoorRefNV
import Derived.Test.YtbdnefmkbamdpaaDoorDecPrint
namespace Go.Proofs.YtbdnefmkbamdpaaDoor
open Go.RowKit Dec

/-- The places n - 1 to 0 of a number, as bytes. -/
def rowU (u n : Nat) : List UInt8 := (List.range n).map fun t => Lib.dg u (n - 1 - t)
/-- What is printed when the places down to a are done. -/
def outU (sg : List UInt8) (u n s a : Nat) : List UInt8 := sg ++ if a < s then (rowU u n).take (n - s) ++ 46 :: ((rowU u n).take (n - a)).drop (n - s) else (rowU u n).take (n - a)
theorem digs_at (u j : Nat) : digitAt (digs u) j = ((u / 10 ^ j % 10 : Nat) : Int) := by
  rw [digitAt_nat]
  induction j generalizing u with
  | zero =>
    by_cases h : u = 0
    · subst h; rw [digs_zero]; rfl
    · rw [digs_pos h]; simp
  | succ j ih =>
    by_cases h : u = 0
    · subst h; rw [digs_zero]; simp
    · rw [digs_pos h]
      show (digs (u / 10)).getD j 0 = _
      rw [ih, Nat.div_div_eq_div_mul, Nat.pow_succ, Nat.mul_comm]
theorem rowU_len (u n : Nat) : (rowU u n).length = n := by simp [rowU]
theorem rowU_snoc (u n p : Nat) (h : p < n) : (rowU u n).take (n - p) = (rowU u n).take (n - (p + 1)) ++ [Lib.dg u p] := by
  have e : n - p = n - (p + 1) + 1 := by omega
  rw [e, List.take_succ_eq_append_getElem (by rw [rowU_len]; omega)]
  congr 2
  simp only [rowU, List.getElem_map, List.getElem_range]
  congr 1
  omega
theorem outU_step (sg : List UInt8) (u n s p : Nat) (hp : p < n) (hs : s < n) : outU sg u n s p = (if p + 1 = s then outU sg u n s (p + 1) ++ [46] else outU sg u n s (p + 1)) ++ [Lib.dg u p] := by
  unfold outU
  rw [rowU_snoc u n p hp]
  by_cases h1 : p + 1 = s
  · rw [if_pos h1, if_pos (by omega), if_neg (by omega), List.drop_append_of_le_length (by rw [List.length_take, rowU_len]; omega), h1, List.drop_eq_nil_of_le (by rw [List.length_take, rowU_len]; omega)]
    simp
  · rw [if_neg h1]
    by_cases h2 : p + 1 < s
    · rw [if_pos (by omega), if_pos h2, List.drop_append_of_le_length (by rw [List.length_take, rowU_len]; omega)]
      simp
    · rw [if_neg (by omega), if_neg h2, List.append_assoc]
theorem outU_start {sg l : List UInt8} {u n s : Nat} (h : sg = l) (hs : s < n) : l = outU sg u n s n := by
  subst h
  unfold outU
  rw [if_neg (by omega), Nat.sub_self]
  simp
theorem outU_len (sg : List UInt8) (u n s a : Nat) : (outU sg u n s a).length ≤ sg.length + n + 1 := by
  unfold outU
  split
  all_goals simp [rowU_len]
  all_goals omega
theorem sign_len (m : Int) : (signL m).length ≤ 1 := by unfold signL; split <;> simp
theorem one_str (k : Nat) (hk : k ≤ 9) (w : World) :
    (convert 57 9 (.slice (some ⟨w.heap.size, 0, none⟩) 1 1)).run Tryd.prog (w.alloc (.cells #[.int .u8 (48 + (k : Int))] 5)) = .ok (.string ⟨#[UInt8.ofNat (48 + k)]⟩) (w.alloc (.cells #[.int .u8 (48 + (k : Int))] 5)) := by
  refine run_convert_bytes_back (P := Tryd.prog) _ 57 9 5 ⟨w.heap.size, 0, none⟩ 1 [UInt8.ofNat (48 + k)] Tryd.underlying57 Tryd.underlying5 Tryd.underlying9 (fun j hj => ?_)
  obtain rfl : j = 0 := by simpa using hj
  have h := (Whole.made w 5 #[.int .u8 (48 + (k : Int))]).reads 0
  have e : ([UInt8.ofNat (48 + k)][0].toNat : Int) = 48 + (k : Int) := by
    simp only [List.getElem_cons_zero, UInt8.toNat_ofNat']
    omega
  rw [e]
  exact h
theorem refprint_bad (m s : Int) (w : World) (hv : ¬ Valid m s) :
    Calls Tryd.prog 11 #[.agg #[.int .i64 m, .int .i64 s]] w fun e w' => e = .returned (.tuple #[.string ⟨#[]⟩, .int .i64 1]) ∧ Below w.heap.size w w' := by
  have hd : decide (Valid m s) = false := decide_eq_false hv
  have HD := Lib.hid hd
  clear hv hd
  go_enter Tryd.func11, Tryd.ntmps11
  go_wp2_with fail
  refine (right_any m s _).mono ?_
  rintro e w1 ⟨rfl, hb⟩
  rw [HD.out]
  have HB := Lib.hid (((Below.refl w.heap.size w).alloc (Nat.le_refl _) (.cells #[.int .i64 m, .int .i64 s] 23)).trans (hb.mono (by simp)))
  clear hb
  go_wp2_with fail
  go_ret2
  exact ⟨rfl, HB.out⟩
set_option maxRecDepth 100000 in
set_option maxHeartbeats 4000000 in
theorem refprint_ok (m : Int) (s : Nat) (w : World) (hv : Valid m s) :
    Calls Tryd.prog 11 #[.agg #[.int .i64 m, .int .i64 s]] w (IsText (outU (signL m) m.natAbs (max (digs m.natAbs).length (s + 1)) s 0) w) := by
  have hd : decide (Valid m s) = true := decide_eq_true hv
  have HD := Lib.hid hd
  have h1 := hv.1
  have h2 := hv.2.1
  have h5 := hv.2.2.2.1
  have hlen6 : (digs m.natAbs).length ≤ 18 := digs_len 18 _ (by omega)
  have hwA := Whole.made w 23 #[.int .i64 m, .int .i64 s]
  have HWA := Lib.hid hwA
  clear hv hd hwA
  go_enter Tryd.func11, Tryd.ntmps11
  go_wp2_with fail
  refine (right_any m s _).mono ?_
  rintro e w1 ⟨rfl, hb⟩
  rw [HD.out]
  have hA1 := HWA.out.here hb
  have a0 : w1.cell? ⟨w.heap.size, 0, none⟩ = some (.int .i64 m) := hA1.reads 0
  have a1 : w1.cell? ⟨w.heap.size, 1, none⟩ = some (.int .i64 s) := hA1.reads 1
  have la := hA1.lt
  have HB := Lib.hid (((Below.refl w.heap.size w).alloc (Nat.le_refl _) (.cells #[.int .i64 m, .int .i64 s] 23)).trans (hb.mono (by simp)))
  clear hb hA1 HWA
  go_wp2_with fail
  refine (of_num m s _ (by omega)).mono ?_
  rintro e w3 ⟨v3, rfl, hown, hb⟩
  obtain ⟨av3, cv3, rfl⟩ := own_slice' hown
  clear a0 a1 la
  go_upto_region 4 with fail
  have hNV : NV (w3.alloc (.cells #[.bool (decide (m < 0)), .slice av3 (digs m.natAbs).length cv3, .int .i64 s] 47)) w3.heap.size (decide (m < 0)) (digs m.natAbs) s (.slice av3 (digs m.natAbs).length cv3) _ := NV.made hown
  have hbb := HB.out.trans (hb.mono HB.out.size)
  have HN := Lib.hid (And.intro hNV (hbb.alloc hbb.size (.cells #[.bool (decide (m < 0)), .slice av3 (digs m.natAbs).length cv3, .int .i64 s] 47)))
  generalize hW4 : w3.alloc (.cells #[.bool (decide (m < 0)), .slice av3 (digs m.natAbs).length cv3, .int .i64 s] 47) = W4 at *
  clear hW4 hNV hbb hb hown HB
  generalize w3.heap.size = P4 at *
  have hda := digs_at m.natAbs
  have HDA := Lib.hid hda
  clear hda
  obtain ⟨c0, c1, c2, -, lc⟩ := HN.out.1.cells
  generalize hX : digs m.natAbs = X at *
  have hmx : (max (X.length : Int) ((s : Int) + 1)) = ((max X.length (s + 1) : Nat) : Int) := by omega
  have hmx2 : max X.length (s + 1) ≤ 20 := by omega
  have hnum := (num_digs m.natAbs).2
  rw [hX] at hnum
  have HX := Lib.hid (And.intro hX hnum)
  clear hX hnum
  generalize hn : max X.length (s + 1) = n at *
  have hsn : s < n := by omega
  generalize hbn : decide (m < 0) = bn at *
  have HBN := Lib.hid hbn
  clear hbn
  cases bn
  all_goals
    have hsg : signL m = if m < 0 then [45] else [] := rfl
    have HSG := Lib.hid hsg
    clear hsg
    go_wp2_with fail
    go_loopw [5, 6] (fun sv av wr => ∃ (a : Nat) (r : ByteArray), a ≤ n ∧ av = .int .i64 ((a : Int) - 1) ∧ sv = .string r ∧ Hid (r.data.toList = outU (signL m) m.natAbs n s a) ∧ Below W4.heap.size W4 wr) (fun _ av _ => (intOf av + 1).toNat)
    case atStart => first | exact ⟨n, _, Nat.le_refl _, rfl, rfl, Lib.hid (outU_start (HSG.out.trans (if_pos (of_decide_eq_true HBN.out))) hsn), Below.refl _ _⟩ | exact ⟨n, _, Nat.le_refl _, rfl, rfl, Lib.hid (outU_start (HSG.out.trans (if_neg (of_decide_eq_false HBN.out))) hsn), Below.refl _ _⟩
    case round =>
      obtain ⟨a, r, ha, rfl, rfl, HT, hb⟩ := hrel
      have hnv := HN.out.1.later hb
      obtain ⟨d0, d1, d2, -, ld⟩ := hnv.cells
      have HB := Lib.hid hb
      have hsz : r.size ≤ 23 := by rw [Lib.size_eq, HT.out]; have := outU_len (signL m) m.natAbs n s a; have := sign_len m; omega
      by_cases ha0 : 0 < a
      · obtain ⟨p, rfl⟩ : ∃ p, a = p + 1 := ⟨a - 1, by omega⟩
        have hst := outU_step (signL m) m.natAbs n s p (by omega) hsn
        have hdd : digitAt X p = ((m.natAbs / 10 ^ p % 10 : Nat) : Int) := HDA.out p
        have hcall := digit_ok _ X p wr hnv.reads (by omega)
        have hdg : Lib.dg m.natAbs p = UInt8.ofNat (48 + m.natAbs / 10 ^ p % 10) := rfl
        rw [hdd] at hcall
        have hk9 : m.natAbs / 10 ^ p % 10 ≤ 9 := by omega
        clear hdd hnv
        generalize m.natAbs / 10 ^ p % 10 = k at *
        have hcv := one_str k hk9 wr
        generalize UInt8.ofNat (48 + k) = x at *
        rw [hdg] at hst
        have HC := Lib.hid (And.intro hcall hst)
        clear hcall hst hb hdg
        have hal := HB.out.alloc HB.out.size (.cells #[.int .u8 (48 + (k : Int))] 5)
        have HL := Lib.hid hal
        clear hal
        rw [show ((p + 1 : Nat) : Int) - 1 = p by omega]
        by_cases hps : p + 1 = s
        · have hb0 : ((p : Int) == (s : Int) - 1) = true := by rw [beq_iff_eq]; omega
          have hsz2 : (r ++ ⟨#[46]⟩ : ByteArray).size ≤ 24 := by rw [ByteArray.size_append]; show r.size + 1 ≤ 24; omega
          go_wp2_with fail
          refine HC.out.1.mono ?_
          rintro e w5 ⟨rfl, rfl⟩
          go_wp2_with fail
          have hs' : Hid ((r ++ ⟨#[46]⟩ ++ ⟨#[x]⟩ : ByteArray).data.toList = outU (signL m) m.natAbs n s p) := Lib.hid (by
            rw [HC.out.2, if_pos hps, Joins.data_append, Joins.data_append, HT.out])
          go_roundw
          case rel => exact ⟨p, _, by omega, rfl, rfl, hs', HL.out⟩
          case measure => simp [intOf]
        · have hb0 : ((p : Int) == (s : Int) - 1) = false := by rw [beq_eq_false_iff_ne]; omega
          go_wp2_with fail
          refine HC.out.1.mono ?_
          rintro e w5 ⟨rfl, rfl⟩
          go_wp2_with fail
          have hs' : Hid ((r ++ ⟨#[x]⟩ : ByteArray).data.toList = outU (signL m) m.natAbs n s p) := Lib.hid (by
            rw [HC.out.2, if_neg hps, Joins.data_append, HT.out])
          go_roundw
          case rel => exact ⟨p, _, by omega, rfl, rfl, hs', HL.out⟩
          case measure => simp [intOf]
      · obtain rfl : a = 0 := by omega
        go_wp2_with fail
        go_ret2
        exact ⟨r, rfl, HT.out, HN.out.2.trans (HB.out.mono HN.out.2.size)⟩
end Go.Proofs.YtbdnefmkbamdpaaDoor
