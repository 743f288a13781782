/- The reference's Mul: the walk. -/
import Derived.Test.YtpdjooeogpidhaaRefMulM
import Derived.Test.YtpdjooeogpidhaaRefAdd
import Derived.Deep.OwnRows
namespace Go.Proofs.Ytpdjooeogpidhaa
open Go.RowKit Dec

theorem mul_val {m m' : Int} {s s' : Nat} (hv : Valid m s) (hv' : Valid m' s') {M S E : Int}
    (h : Denotes (sgn (decide (m < 0) != decide (m' < 0)) (m.natAbs * m'.natAbs)) (s + s') M S E) : Denotes (val9 m s * val9 m' s') 18 M S E := by
  have h9 : s ≤ 9 := by have := hv.2.2.2.1; omega
  have h9' : s' ≤ 9 := by have := hv'.2.2.2.1; omega
  have e : sgn (decide (m < 0) != decide (m' < 0)) (m.natAbs * m'.natAbs) = m * m' := by
    unfold sgn
    have cast1 : ((m.natAbs * m'.natAbs : Nat) : Int) = (m.natAbs : Int) * (m'.natAbs : Int) := by push_cast; rfl
    rw [cast1]
    by_cases h1 : m < 0 <;> by_cases h2 : m' < 0 <;> simp only [h1, h2, decide_true, decide_false]
    · rw [show (m.natAbs : Int) = -m by omega, show (m'.natAbs : Int) = -m' by omega]
      simp [Int.neg_mul, Int.mul_neg]
    · rw [show (m.natAbs : Int) = -m by omega, show (m'.natAbs : Int) = m' by omega]
      simp [Int.neg_mul]
    · rw [show (m.natAbs : Int) = m by omega, show (m'.natAbs : Int) = -m' by omega]
      simp [Int.mul_neg]
    · rw [show (m.natAbs : Int) = m by omega, show (m'.natAbs : Int) = m' by omega]
      simp
  rw [e] at h
  refine h.scale ?_
  unfold val9
  rw [Int.toNat_natCast, Int.toNat_natCast]
  have k : (10 : Int) ^ 18 = p10 (9 - s) * p10 (9 - s') * 10 ^ (s + s') := by
    show (10 : Int) ^ 18 = 10 ^ (9 - s) * 10 ^ (9 - s') * 10 ^ (s + s')
    rw [← Int.pow_add, ← Int.pow_add]
    congr 1
    omega
  rw [k]
  generalize p10 (9 - s) = a
  generalize p10 (9 - s') = b
  generalize (10 : Int) ^ (s + s') = c
  simp only [Int.mul_left_comm, Int.mul_comm]
theorem iv_set (L : List Int) (j : Nat) (v : Int) : ((ivd L).toArray.setIfInBounds j (.int .i64 v)) = (ivd (L.set j v)).toArray := by
  simp [ivd, List.map_set]
theorem made_zero (n : Nat) : madeCells #[.int .i64 0] n = (ivd (List.replicate n 0)).toArray := by
  apply Array.toList_inj.1
  rw [toList_madeCells_one]
  simp [ivd]
theorem refmul_bad (m s m' s' : Int) (w : World) (hv : ¬ (Valid m s ∧ Valid m' s')) :
    Calls Try.prog 48 #[.agg #[.int .i64 m, .int .i64 s], .agg #[.int .i64 m', .int .i64 s']] w (IsArg w) := by
  have HWA := Lib.hid (three_dec w m s m' s')
  by_cases h1 : Valid m s
  · have hd : decide (Valid m s) = true := decide_eq_true h1
    have hd' : decide (Valid m' s') = false := decide_eq_false (fun h => hv ⟨h1, h⟩)
    have HD := Lib.hid (And.intro hd hd')
    clear hv h1 hd hd'
    go_enter Try.func48, Try.ntmps48
    go_wp2_with fail
    refine (right_any m s _).mono ?_
    rintro e w1 ⟨rfl, hb⟩
    rw [HD.out.1]
    have HW1 := Lib.hid (HWA.out.here hb)
    clear hb HWA
    have b0 : w1.cell? ⟨w.heap.size + 1, 0, none⟩ = some (.int .i64 m') := HW1.out.b.reads 0
    have b1 : w1.cell? ⟨w.heap.size + 1, 1, none⟩ = some (.int .i64 s') := HW1.out.b.reads 1
    have lb := HW1.out.b.lt
    go_wp2_with fail
    refine (right_any m' s' _).mono ?_
    rintro e w2 ⟨rfl, hb⟩
    rw [HD.out.2]
    have HW2 := Lib.hid (HW1.out.here hb)
    clear hb HW1 b0 b1 lb
    have r0 : w2.cell? ⟨w.heap.size + 1 + 1, 0, none⟩ = some (.int .i64 0) := HW2.out.r.reads 0
    have r1 : w2.cell? ⟨w.heap.size + 1 + 1, 1, none⟩ = some (.int .i64 0) := HW2.out.r.reads 1
    have z0 := HW2.out.r.thawed 0
    have z1 := HW2.out.r.thawed 1
    have lr := HW2.out.r.lt
    have hfin := (HW2.out.below.setCell (p := ⟨w.heap.size + 1 + 1, 0, none⟩) (by simp; omega) (.int .i64 0)).setCell (p := ⟨w.heap.size + 1 + 1, 1, none⟩) (by simp; omega) (.int .i64 0)
    have HF := Lib.hid hfin
    clear hfin
    go_wp2_with fail
    exact bodyPost_ret (v := .tuple #[.agg #[.int .i64 0, .int .i64 0], .int .i64 1]) (by simp [results, Try.results48, go_sem, r0, r1]) rfl ⟨rfl, HF.out⟩
  · have hd : decide (Valid m s) = false := decide_eq_false h1
    have HD := Lib.hid hd
    clear hv h1 hd
    go_enter Try.func48, Try.ntmps48
    go_wp2_with fail
    refine (right_any m s _).mono ?_
    rintro e w2 ⟨rfl, hb⟩
    rw [HD.out]
    have HW2 := Lib.hid (HWA.out.here hb)
    clear hb HWA
    have r0 : w2.cell? ⟨w.heap.size + 1 + 1, 0, none⟩ = some (.int .i64 0) := HW2.out.r.reads 0
    have r1 : w2.cell? ⟨w.heap.size + 1 + 1, 1, none⟩ = some (.int .i64 0) := HW2.out.r.reads 1
    have z0 := HW2.out.r.thawed 0
    have z1 := HW2.out.r.thawed 1
    have lr := HW2.out.r.lt
    have hfin := (HW2.out.below.setCell (p := ⟨w.heap.size + 1 + 1, 0, none⟩) (by simp; omega) (.int .i64 0)).setCell (p := ⟨w.heap.size + 1 + 1, 1, none⟩) (by simp; omega) (.int .i64 0)
    have HF := Lib.hid hfin
    clear hfin
    go_wp2_with fail
    exact bodyPost_ret (v := .tuple #[.agg #[.int .i64 0, .int .i64 0], .int .i64 1]) (by simp [results, Try.results48, go_sem, r0, r1]) rfl ⟨rfl, HF.out⟩
set_option maxRecDepth 100000 in
set_option maxHeartbeats 4000000 in
theorem refmul_ok (m m' : Int) (s s' : Nat) (w : World) (hv : Valid m s) (hv' : Valid m' s') :
    Calls Try.prog 48 #[.agg #[.int .i64 m, .int .i64 s], .agg #[.int .i64 m', .int .i64 s']] w (IsTold (val9 m s * val9 m' s') 18 w) := by
  obtain ⟨i0, hi, hz0, hz1, hz2⟩ := info_parts info3
  have HWA := Lib.hid (three_dec w m s m' s')
  have hd : decide (Valid m s) = true := decide_eq_true hv
  have hd' : decide (Valid m' s') = true := decide_eq_true hv'
  have HD := Lib.hid (And.intro hd hd')
  have HVV := Lib.hid (And.intro hv hv')
  have h1 := hv.1
  have h2 := hv.2.1
  have h3 := hv'.1
  have h4 := hv'.2.1
  have h5 := hv.2.2.2.1
  have h6 := hv'.2.2.2.1
  clear hv hv' hd hd'
  go_enter Try.func48, Try.ntmps48
  go_wp2_with fail
  refine (right_any m s _).mono ?_
  rintro e w1 ⟨rfl, hb⟩
  rw [HD.out.1]
  have HW1 := Lib.hid (HWA.out.here hb)
  clear hb HWA
  have b0 : w1.cell? ⟨w.heap.size + 1, 0, none⟩ = some (.int .i64 m') := HW1.out.b.reads 0
  have b1 : w1.cell? ⟨w.heap.size + 1, 1, none⟩ = some (.int .i64 s') := HW1.out.b.reads 1
  have lb := HW1.out.b.lt
  go_wp2_with fail
  refine (right_any m' s' _).mono ?_
  rintro e w2 ⟨rfl, hb⟩
  rw [HD.out.2]
  have HW2 := Lib.hid (HW1.out.here hb)
  clear hb HW1 b0 b1 lb
  have a0 : w2.cell? ⟨w.heap.size, 0, none⟩ = some (.int .i64 m) := HW2.out.a.reads 0
  have a1 : w2.cell? ⟨w.heap.size, 1, none⟩ = some (.int .i64 s) := HW2.out.a.reads 1
  have b0 : w2.cell? ⟨w.heap.size + 1, 0, none⟩ = some (.int .i64 m') := HW2.out.b.reads 0
  have b1 : w2.cell? ⟨w.heap.size + 1, 1, none⟩ = some (.int .i64 s') := HW2.out.b.reads 1
  have la := HW2.out.a.lt
  have lb := HW2.out.b.lt
  have hlen6 : (digs m.natAbs).length ≤ 18 := digs_len 18 _ (by omega)
  have hlen7 : (digs m'.natAbs).length ≤ 18 := digs_len 18 _ (by omega)
  go_wp2_with fail
  refine (of_num m s _ (by omega)).mono ?_
  rintro e w3 ⟨v3, rfl, hown, hb⟩
  obtain ⟨av3, cv3, rfl⟩ := own_slice' hown
  have h3' := HW2.out.here hb
  have b0' : w3.cell? ⟨w.heap.size + 1, 0, none⟩ = some (.int .i64 m') := h3'.b.reads 0
  have b1' : w3.cell? ⟨w.heap.size + 1, 1, none⟩ = some (.int .i64 s') := h3'.b.reads 1
  have lb' := h3'.b.lt
  have HW3 := Lib.hid (And.intro h3' hown)
  clear h3' hown hb a0 a1 b0 b1 la lb HW2
  go_wp2_with fail
  refine (of_num m' s' _ (by omega)).mono ?_
  rintro e w4 ⟨v4, rfl, hown, hb⟩
  obtain ⟨av4, cv4, rfl⟩ := own_slice' hown
  clear b0' b1' lb'
  go_upto_region 5 with fail
  generalize hbA : decide (m < 0) = bA at *
  generalize hbB : decide (m' < 0) = bB at *
  have hX := num_digs m.natAbs
  have hY := num_digs m'.natAbs
  have hW4 : Three w (w4.alloc (.cells #[.bool bB, .slice av4 (digs m'.natAbs).length cv4, .int .i64 s'] 90)) m s m' s' ∧ NV (w4.alloc (.cells #[.bool bB, .slice av4 (digs m'.natAbs).length cv4, .int .i64 s'] 90)) w3.heap.size bA (digs m.natAbs) s (.slice av3 (digs m.natAbs).length cv3) 0 ∧ NV (w4.alloc (.cells #[.bool bB, .slice av4 (digs m'.natAbs).length cv4, .int .i64 s'] 90)) w4.heap.size bB (digs m'.natAbs) s' (.slice av4 (digs m'.natAbs).length cv4) 0 := by
    have k1 := (HW3.out.1.here ((Below.refl _ _).alloc (Nat.le_refl _) (.cells #[.bool bA, .slice av3 (digs m.natAbs).length cv3, .int .i64 s] 90))).here hb
    have k2 := (NV.made (b := bA) (s := (s : Int)) (own_mono HW3.out.2 (Nat.zero_le _))).later hb
    exact ⟨k1.here ((Below.refl _ _).alloc (Nat.le_refl _) _), k2.old _, NV.made (own_mono hown (Nat.zero_le _))⟩
  have HW4 := Lib.hid hW4
  have HXY := Lib.hid (And.intro hX hY)
  have HU := Lib.hid (And.intro hbA hbB)
  generalize hW4' : w4.alloc (.cells #[.bool bB, .slice av4 (digs m'.natAbs).length cv4, .int .i64 s'] 90) = W4 at *
  clear hW4' hW4 hX hY hown hb HW3 hbA hbB
  generalize w3.heap.size = P6 at *
  generalize w4.heap.size = P7 at *
  generalize digs m.natAbs = X at *
  generalize digs m'.natAbs = Y at *
  obtain ⟨a0, a1, a2, -, la⟩ := HW4.out.2.1.cells
  obtain ⟨b0, b1, b2, -, lb⟩ := HW4.out.2.2.cells
  have hn1 : (X.length : Int) + (Y.length : Int) + 1 = ((X.length + Y.length + 1 : Nat) : Int) := by omega
  have hmk := fun W => run_make_row' (P := Try.prog) 88 3 (.int .i64 0) 8 Try.underlying88 (by kernel_rfl) rfl .i64 .i64 (X.length + Y.length + 1) (by omega) (by omega) W
  simp only [← hn1] at hmk
  clear hn1
  go_upto_region 7 with fail
  generalize hbx : (!(bA == bB)) = bx at *
  have hw8 := Whole.made W4 90 #[.bool bx, .slice none 0 0, .int .i64 ((s : Int) + (s' : Int))]
  have hwg := Whole.made (W4.alloc (.cells #[.bool bx, .slice none 0 0, .int .i64 ((s : Int) + (s' : Int))] 90)) 3 (madeCells #[.int .i64 0] (X.length + Y.length + 1))
  rw [made_zero] at hwg ⊢
  simp only [World.size_alloc] at hwg
  have hb6 : Below W4.heap.size W4 ((W4.alloc (.cells #[.bool bx, .slice none 0 0, .int .i64 ((s : Int) + (s' : Int))] 90)).alloc (.cells (ivd (List.replicate (X.length + Y.length + 1) 0)).toArray 3)) := ((Below.refl _ _).alloc (Nat.le_refl _) _).alloc (by simp) _
  have HW6 := Lib.hid (And.intro (HW4.out.1.here hb6) (And.intro (HW4.out.2.1.later hb6) (And.intro (HW4.out.2.2.later hb6) (And.intro (hw8.old (.cells (ivd (List.replicate (X.length + Y.length + 1) 0)).toArray 3)) hwg))))
  have hxr : ∀ j, (Value.slice av3 X.length cv3).ownBlock = some j → j ≠ W4.heap.size + 1 := fun j e => by have := (own_lt HW4.out.2.1.2 e).2.1; omega
  have hyr : ∀ j, (Value.slice av4 Y.length cv4).ownBlock = some j → j ≠ W4.heap.size + 1 := fun j e => by have := (own_lt HW4.out.2.2.2 e).2.1; omega
  have hwg4 : w.heap.size ≤ W4.heap.size + 1 := by have := HW4.out.1.below.size; omega
  have hwg8 : w.heap.size ≤ W4.heap.size := HW4.out.1.below.size
  have HBX := Lib.hid (And.intro hbx (And.intro hxr hyr))
  clear hw8 hwg hb6 hbx hxr hyr HW4 a0 a1 a2 la b0 b1 b2 lb hmk
  generalize hW6 : (W4.alloc (.cells #[.bool bx, .slice none 0 0, .int .i64 ((s : Int) + (s' : Int))] 90)).alloc (.cells (ivd (List.replicate (X.length + Y.length + 1) 0)).toArray 3) = W6 at *
  clear hW6
  generalize hg : W4.heap.size + 1 = g at *
  generalize hP8 : W4.heap.size = P8 at *
  clear hg hP8
  have hord : P6 ≠ g ∧ P7 ≠ g ∧ P8 ≠ g ∧ w.heap.size ≠ g ∧ w.heap.size + 1 ≠ g ∧ w.heap.size + 1 + 1 ≠ g := ⟨HW6.out.2.1.1.apart HW6.out.2.2.2.2 (by decide), HW6.out.2.2.1.1.apart HW6.out.2.2.2.2 (by decide), HW6.out.2.2.2.1.apart HW6.out.2.2.2.2 (by decide), HW6.out.1.a.apart HW6.out.2.2.2.2 (by decide), HW6.out.1.b.apart HW6.out.2.2.2.2 (by decide), HW6.out.1.r.apart HW6.out.2.2.2.2 (by decide)⟩
  go_wp2_with fail
  go_loopw [10] (fun iv wr => ∃ (i : Nat) (L : List Int), i ≤ X.length ∧ iv = .int .i64 i ∧ Hid (MulAt X Y L i 0) ∧ Whole wr g 3 (ivd L).toArray ∧ Fr (fun k => k = g) W6 wr) (fun iv _ => X.length - (intOf iv).toNat)
  case atStart => exact ⟨0, _, by omega, rfl, Lib.hid (MulAt.start X Y), HW6.out.2.2.2.2, Fr.refl _ _⟩
  case round =>
    obtain ⟨i, L, hiX, rfl, HM, hwl, hf⟩ := hrel
    obtain ⟨a0, a1, a2, -, la⟩ := HW6.out.2.1.cells
    obtain ⟨b0, b1, b2, -, lb⟩ := HW6.out.2.2.1.cells
    have a1' : wr.cell? ⟨P6, 1, none⟩ = some (.slice av3 X.length cv3) := (hf.cell' (p := ⟨P6, 1, none⟩) hord.1 la).trans a1
    have hsz := hf.size
    have la' : P6 < wr.heap.size := by omega
    have HL := Lib.hid (And.intro hwl hf)
    clear a0 a1 a2 b0 b2 hwl
    by_cases hlt : i < X.length
    · obtain ⟨x, hx⟩ : ∃ x, X[i]? = some x := ⟨_, List.getElem?_eq_getElem hlt⟩
      obtain ⟨gx, hgx, -, hgl, hgc⟩ := own_at HW6.out.2.1.2 hx
      have hgne := HBX.out.2.1 gx (by rw [hgx]; rfl)
      have hdx : digitAt X i = x := by rw [digitAt_nat, List.getD_eq_getElem?_getD, hx]; rfl
      have HGX := Lib.hid (And.intro hgx (And.intro hgc hdx))
      clear hx hgx hgc hdx hf
      go_wp2_with fail
      go_loopw [11] (fun kv ws => ∃ (k : Nat) (L : List Int), k ≤ Y.length ∧ kv = .int .i64 k ∧ Hid (MulAt X Y L i k) ∧ Whole ws g 3 (ivd L).toArray ∧ Fr (fun k => k = g) W6 ws) (fun kv _ => Y.length - (intOf kv).toNat)
      case atStart => exact ⟨0, L, by omega, rfl, HM, HL.out.1, HL.out.2⟩
      case round =>
        obtain ⟨k, L, hkY, rfl, HM, hwl, hf⟩ := hrel
        have a1' : wr.cell? ⟨P6, 1, none⟩ = some (.slice av3 X.length cv3) := (hf.cell' (p := ⟨P6, 1, none⟩) hord.1 la).trans HW6.out.2.1.cells.2.1
        have b1' : wr.cell? ⟨P7, 1, none⟩ = some (.slice av4 Y.length cv4) := (hf.cell' (p := ⟨P7, 1, none⟩) hord.2.1 lb).trans b1
        have hsz := hf.size
        have la' : P6 < wr.heap.size := by omega
        have lb' : P7 < wr.heap.size := by omega
        have hlen := HM.out.len
        by_cases hkl : k < Y.length
        · obtain ⟨y, hy⟩ : ∃ y, Y[k]? = some y := ⟨_, List.getElem?_eq_getElem hkl⟩
          obtain ⟨gy, hgy, -, hgyl, hgyc⟩ := own_at HW6.out.2.2.1.2 hy
          have hgyne := HBX.out.2.2 gy (by rw [hgy]; rfl)
          have hdy : digitAt Y k = y := by rw [digitAt_nat, List.getD_eq_getElem?_getD, hy]; rfl
          obtain ⟨c, hc⟩ : ∃ c, L[i + k]? = some c := ⟨_, List.getElem?_eq_getElem (by omega)⟩
          have hst := HM.out.step HXY.out.1.2 HXY.out.2.2 hc
          have hdX := digitAt_le HXY.out.1.2 i
          have hdY := digitAt_le HXY.out.2.2 k
          have hbc := HM.out.bnd c (List.mem_of_getElem? hc)
          rw [HGX.out.2.2, hdy] at hst
          rw [HGX.out.2.2] at hdX
          rw [hdy] at hdY
          have cL : wr.cell? ⟨g, i + k, none⟩ = some (.int .i64 c) := by rw [hwl.reads]; simp [ivd, hc]
          have fL := hwl.thawed (i + k)
          have lg := hwl.lt
          have cX : wr.cell? ⟨gx, i, none⟩ = some (.int .i64 x) := (hf.cell' (p := ⟨gx, i, none⟩) hgne hgl).trans HGX.out.2.1
          have cY : wr.cell? ⟨gy, k, none⟩ = some (.int .i64 y) := (hf.cell' (p := ⟨gy, k, none⟩) hgyne hgyl).trans hgyc
          have lgx : gx < wr.heap.size := by omega
          have lgy : gy < wr.heap.size := by omega
          have hik : i * Y.length + k ≤ 18 * 18 + 18 := by
            have : i * Y.length ≤ 18 * 18 := Nat.mul_le_mul (by omega) hlen7
            omega
          have hxy0 : 0 ≤ x * y := Int.mul_nonneg hdX.1 hdY.1
          have hxy1 : x * y ≤ 81 := by
            have := Int.mul_le_mul hdX.2 hdY.2 hdY.1 (by decide)
            omega
          have hw1 : IntKind.i64.wrap (x * y) = x * y := IntWalk.i64_in _ (by omega)
          have hw2 : IntKind.i64.wrap (c + x * y) = c + x * y := IntWalk.i64_in _ (by omega)
          have hset := hwl.set (i + k) (.int .i64 (c + x * y))
          rw [iv_set] at hset
          have HN := Lib.hid (And.intro hst (And.intro hset (hf.setB (i + k) (.int .i64 (c + x * y))).drew))
          have HGY := Lib.hid hgy
          have HAX := Lib.hid HGX.out.1
          clear hy hgy hgyc hdy hc hst hdX hdY hbc hwl hf hset hik HM
          obtain rfl := HAX.out
          obtain rfl := HGY.out
          have p0 : (0 : Int) ≤ (i : Int) + (k : Int) := by omega
          have p1 : (i : Int) + (k : Int) < ((X.length + Y.length + 1 : Nat) : Int) := by omega
          have p2 : (0 : Int) ≤ (i : Int) := by omega
          have p3 : (i : Int) < (X.length : Int) := by omega
          have p4 : (0 : Int) ≤ (k : Int) := by omega
          have p5 : (k : Int) < (Y.length : Int) := by omega
          go_wp2_with fail
          go_region
          all_goals
            go_wp2_with fail
            go_roundw
            case rel => exact ⟨k + 1, _, by omega, by go_num, Lib.hid HN.out.1, HN.out.2.1, HN.out.2.2⟩
            case measure => simp [intOf]; omega
        · obtain rfl : k = Y.length := by omega
          have HN := Lib.hid (And.intro (HM.out.next HXY.out.1.2) (And.intro hwl hf))
          clear hwl hf HM
          go_wp2_with fail
          go_roundw
          case rel => exact ⟨i + 1, L, by omega, by go_num, Lib.hid HN.out.1, HN.out.2.1, HN.out.2.2⟩
          case measure => simp [intOf]; omega
    · obtain rfl : i = X.length := by omega
      have HC0 := Lib.hid (CarAt.start HM.out hlen6 hlen7)
      clear hf HM
      go_wp2_with fail
      go_loopw [12] (fun iv ws => ∃ (i : Nat) (L : List Int), i ≤ X.length + Y.length ∧ iv = .int .i64 i ∧ Hid (CarAt L (X.length + Y.length + 1) (num X * num Y) i) ∧ Whole ws g 3 (ivd L).toArray ∧ Fr (fun k => k = g) W6 ws) (fun iv _ => X.length + Y.length - (intOf iv).toNat)
      case atStart => exact ⟨0, L, by omega, rfl, HC0, HL.out.1, HL.out.2⟩
      case round =>
        obtain ⟨i, L, hiL, rfl, HM, hwl, hf⟩ := hrel
        have hlen := HM.out.len
        have hsz := hf.size
        have lg := hwl.lt
        by_cases hli : i < X.length + Y.length
        · obtain ⟨a, ha⟩ : ∃ a, L[i]? = some a := ⟨_, List.getElem?_eq_getElem (by omega)⟩
          obtain ⟨b, hb⟩ : ∃ b, L[i + 1]? = some b := ⟨_, List.getElem?_eq_getElem (by omega)⟩
          have hst := HM.out.step ha hb
          have ba := HM.out.bnd a (List.mem_of_getElem? ha)
          have bb := HM.out.bnd b (List.mem_of_getElem? hb)
          have ca : wr.cell? ⟨g, i, none⟩ = some (.int .i64 a) := by rw [hwl.reads]; simp [ivd, ha]
          have cb : wr.cell? ⟨g, i + 1, none⟩ = some (.int .i64 b) := by rw [hwl.reads]; simp [ivd, hb]
          have fa := hwl.thawed i
          have fb := hwl.thawed (i + 1)
          have h1 := hwl.set (i + 1) (.int .i64 (b + a / 10))
          have h2 := h1.set i (.int .i64 (a % 10))
          rw [iv_set] at h1
          rw [iv_set, iv_set] at h2
          have HN := Lib.hid (And.intro hst (And.intro h2 ((hf.setB (i + 1) (.int .i64 (b + a / 10))).drew.setB i (.int .i64 (a % 10)))))
          clear ha hb hst hwl hf h1 h2 HM
          have p0 : (0 : Int) ≤ (i : Int) + 1 := by omega
          have p1 : (i : Int) + 1 < ((X.length + Y.length + 1 : Nat) : Int) := by omega
          have p2 : (0 : Int) ≤ (i : Int) := by omega
          have p3 : (i : Int) < ((X.length + Y.length + 1 : Nat) : Int) := by omega
          go_wp2_with fail
          go_region
          all_goals
            go_wp2_with fail
            go_roundw
            case rel => exact ⟨i + 1, _, by omega, by go_num, Lib.hid HN.out.1, HN.out.2.1, HN.out.2.2⟩
            case measure => simp [intOf]; omega
        · obtain rfl : i = X.length + Y.length := by omega
          have hend := HM.out.end HXY.out.1.2 HXY.out.2.2 rfl
          have hrow : Row (wr.setCell ⟨P8, 1, none⟩ (.slice (some ⟨g, 0, none⟩) (X.length + Y.length + 1) (X.length + Y.length + 1))) (.slice (some ⟨g, 0, none⟩) L.length (X.length + Y.length + 1)) L := by
            refine .inr ⟨g, 0, X.length + Y.length + 1, rfl, by omega, fun j d hd => ?_⟩
            rw [(hwl.away (p := ⟨P8, 1, none⟩) (Ne.symm hord.2.2.1) _).reads, Nat.zero_add]
            simp [ivd, hd]
          rw [hlen] at hrow
          have hw8 := HW6.out.2.2.2.1.frame hf hord.2.2.1
          have hTh : Three w wr m s m' s' := ⟨HW6.out.1.a.frame hf hord.2.2.2.1, HW6.out.1.b.frame hf hord.2.2.2.2.1, HW6.out.1.r.frame hf hord.2.2.2.2.2, HW6.out.1.below.trans (hf.below HW6.out.1.below.size (fun j hj e => by omega))⟩
          have hRne : w.heap.size + 1 + 1 ≠ P8 := hTh.r.apart hw8 (by decide)
          have hR9 := hTh.r.away (p := ⟨P8, 1, none⟩) hRne (.slice (some ⟨g, 0, none⟩) (X.length + Y.length + 1) (X.length + Y.length + 1))
          have hB9 := hTh.below.setCell (p := ⟨P8, 1, none⟩) hwg8 (.slice (some ⟨g, 0, none⟩) (X.length + Y.length + 1) (X.length + Y.length + 1))
          have htold : Calls Try.prog 59 #[.agg #[.bool bx, .slice (some ⟨g, 0, none⟩) (X.length + Y.length + 1) (X.length + Y.length + 1), .int .i64 ((s : Int) + (s' : Int))]] (wr.setCell ⟨P8, 1, none⟩ (.slice (some ⟨g, 0, none⟩) (X.length + Y.length + 1) (X.length + Y.length + 1))) (IsTold (sgn bx (num L)) (s + s') (wr.setCell ⟨P8, 1, none⟩ (.slice (some ⟨g, 0, none⟩) (X.length + Y.length + 1) (X.length + Y.length + 1)))) :=
            told_any bx _ L (s + s') (sgn bx (num L)) _ hrow hend.1 (by omega) (by omega) rfl
          have c0 : wr.cell? ⟨P8, 0, none⟩ = some (.bool bx) := hw8.reads 0
          have c1 : wr.cell? ⟨P8, 1, none⟩ = some (.slice none 0 0) := hw8.reads 1
          have c2 : wr.cell? ⟨P8, 2, none⟩ = some (.int .i64 ((s : Int) + (s' : Int))) := hw8.reads 2
          have f1 := hw8.thawed 1
          have l8 := hw8.lt
          have HT := Lib.hid (And.intro htold (And.intro hR9 (And.intro hB9 hend.2)))
          clear hend hrow hw8 hTh hR9 hB9 htold hwl hf HM hlen
          go_wp2_with fail
          refine HT.out.1.mono ?_
          rintro e w10 ⟨M, S, E, rfl, hden, hb10⟩
          have hR10 := HT.out.2.1.here hb10
          have r0 : w10.cell? ⟨w.heap.size + 1 + 1, 0, none⟩ = some (.int .i64 0) := hR10.reads 0
          have r1 : w10.cell? ⟨w.heap.size + 1 + 1, 1, none⟩ = some (.int .i64 0) := hR10.reads 1
          have z0 := hR10.thawed 0
          have z1 := hR10.thawed 1
          have lr := hR10.lt
          have hfin := ((HT.out.2.2.1.trans (hb10.mono HT.out.2.2.1.size)).setCell (p := ⟨w.heap.size + 1 + 1, 0, none⟩) (by simp; omega) (.int .i64 M)).setCell (p := ⟨w.heap.size + 1 + 1, 1, none⟩) (by simp; omega) (.int .i64 S)
          rw [HT.out.2.2.2, HXY.out.1.1, HXY.out.2.1, ← HBX.out.1, ← HU.out.1, ← HU.out.2] at hden
          have HF := Lib.hid (And.intro (mul_val HVV.out.1 HVV.out.2 hden) hfin)
          clear hden hfin hR10 hb10
          go_wp2_with fail
          exact bodyPost_ret (v := .tuple #[.agg #[.int .i64 M, .int .i64 S], .int .i64 E]) (by simp [results, Try.results48, go_sem, r0, r1]) rfl ⟨M, S, E, rfl, HF.out.1, HF.out.2⟩
end Go.Proofs.Ytpdjooeogpidhaa
