/- raster: the pixels that are covered. -/
import Derived.Test.YtmleoagdelgddaaRasI
import Derived.Test.YtmleoagdelgddaaRasJ
import Derived.Deep.OwnRows
namespace Go.Proofs.Ytmleoagdelgddaa
open Go.RowKit Dec

/-- A row of N bools, of which the first k are told. -/
def rowBl (cov : Nat → Bool) (N k : Nat) : Array Value := ((List.range N).map fun j => Value.bool (decide (j < k) && cov j)).toArray
theorem rowBl_at (cov : Nat → Bool) (N k j : Nat) (h : j < N) : (rowBl cov N k)[j]? = some (.bool (decide (j < k) && cov j)) := by simp [rowBl, h]
theorem rowBl_zero (cov : Nat → Bool) (N : Nat) : madeCells #[.bool false] N = rowBl cov N 0 := by
  apply Array.toList_inj.1
  rw [toList_madeCells_one]
  apply List.ext_getElem
  · simp [rowBl]
  · intro i h1 h2
    simp [rowBl]
theorem rowBl_set (cov : Nat → Bool) (N k : Nat) : (rowBl cov N k).setIfInBounds k (.bool (cov k)) = rowBl cov N (k + 1) := by
  apply Array.toList_inj.1
  apply List.ext_getElem
  · simp [rowBl]
  · intro j h1 h2
    simp [rowBl] at h1 h2 ⊢
    rw [List.getElem_set]
    by_cases e : k = j
    · subst e; simp
    · rw [if_neg e]
      by_cases e1 : j < k
      · simp [e1, Nat.lt_succ_of_lt e1]
      · simp [e1, show ¬ j < k + 1 by omega]
theorem rowBl_none {cov : Nat → Bool} (N k : Nat) (h : ∀ j, cov j = false) : rowBl cov N 0 = rowBl cov N k := by
  unfold rowBl
  congr 1
  apply List.map_congr_left
  intro j _
  rw [h j, Bool.and_false, Bool.and_false]
/-- Is a pixel covered? -/
def cov (F : Nat → PV) (n X Z : Nat) (l : List BV) (j : Nat) : Bool := (nearL F n l).any (meetsB (ofN (crn F X (j % X) (Z - 1 - j / X)) 4))
theorem tri_cells {v : World} {g : Nat} {T : TypeId} {a b c : Value} (h : Whole v g T #[a, b, c]) : v.cell? ⟨g, 0, none⟩ = some a ∧ v.cell? ⟨g, 1, none⟩ = some b ∧ v.cell? ⟨g, 2, none⟩ = some c := ⟨h.reads 0, h.reads 1, h.reads 2⟩
theorem undrew2 {w w' : World} (k : Below w.drew.heap.size w.drew w') : Below w.heap.size w w' := ⟨k.os, k.tape, k.output, k.size, k.block⟩
/-- Within the region that makes a pixel's corners. -/
structure PX (w v : World) (X Z : Nat) (A : Option Addr) (n c : Nat) : Prop where
  g : Whole v w.heap.size 69 #[.int .i64 (X : Int), .int .i64 (Z : Int), .slice A n c]
  below : Below w.heap.size w v
set_option maxRecDepth 100000 in
set_option maxHeartbeats 16000000 in
theorem gcov_any (F : Nat → PV) (X Z R o n c : Nat) (A2 : Option Addr) (n2 c2 : Nat) (l : List BV) (w : World) (hX : 1 ≤ X) (hZ : 1 ≤ Z) (hXZ : X * Z ≤ 65536) (hn : n = (Z + 1) * (X + 1)) (hF : ∀ i < n, PAt w R (o + i * 4) (F i)) (hok : ∀ i, (F i).Ok) (h2 : BxsAt w A2 n2 c2 l) (hn2 : n2 ≤ 1000) :
    Calls Try.prog 40 #[.agg #[.int .i64 (X : Int), .int .i64 (Z : Int), .slice (some ⟨R, o, none⟩) n c], .slice A2 n2 c2] w fun e w' => ∃ B, e = .returned (.slice (some ⟨B, 0, none⟩) (X * Z) (X * Z)) ∧ Whole w' B 4 (rowBl (cov F n X Z l) (X * Z) (X * Z)) ∧ Below w.heap.size w w' := by
  obtain ⟨N, hN⟩ : ∃ N, X * Z = N := ⟨_, rfl⟩
  have hn9 : n ≤ 1000000 := by
    have e1 : (Z + 1) * (X + 1) = X * Z + Z + X + 1 := by rw [Nat.add_mul, Nat.mul_add, Nat.one_mul, Nat.mul_one, Nat.mul_comm Z X]; omega
    have e2 : Z ≤ X * Z := Nat.le_mul_of_pos_left Z hX
    have e3 : X ≤ X * Z := Nat.le_mul_of_pos_right X hZ
    omega
  have hn0 : 0 < n := by rw [hn]; exact Nat.mul_pos (by omega) (by omega)
  have hX9 : X ≤ 65536 := Nat.le_trans (Nat.le_mul_of_pos_right X hZ) hXZ
  have hZ9 : Z ≤ 65536 := Nat.le_trans (Nat.le_mul_of_pos_left Z hX) hXZ
  rw [hN] at hXZ ⊢
  have hmul : IntKind.i64.wrap ((X : Int) * (Z : Int)) = (N : Int) := by rw [← Int.natCast_mul, hN, IntKind.wrap_i64]; omega
  have hmk := fun W => run_make_row' (P := Try.prog) 26 4 (.bool false) 1 Try.underlying26 (by kernel_rfl) rfl .i64 .i64 N (by omega) (by omega) W
  obtain ⟨cv, hcv⟩ : ∃ cv, cov F n X Z l = cv := ⟨_, rfl⟩
  have hcvj : ∀ j, cv j = (nearL F n l).any (meetsB (ofN (crn F X (j % X) (Z - 1 - j / X)) 4)) := fun j => by rw [← hcv]; rfl
  rw [hcv]
  have HCV := Lib.hid hcvj
  have HN := Lib.hid hN
  have HFF := Lib.hid hF
  have HOK := Lib.hid hok
  have H2 := Lib.hid h2
  have HNN := Lib.hid hn
  clear hcv hcvj hN hF hok h2 hn
  have hb0 := ((Below.refl w.heap.size w).alloc (Nat.le_refl _) (.cells #[.int .i64 (X : Int), .int .i64 (Z : Int), .slice (some ⟨R, o, none⟩) n c] 69)).alloc (by simp) (.cells (madeCells #[.bool false] N) 4)
  have hw0 : Whole ((w.alloc (.cells #[.int .i64 (X : Int), .int .i64 (Z : Int), .slice (some ⟨R, o, none⟩) n c] 69)).alloc (.cells (madeCells #[.bool false] N) 4)) (w.heap.size + 1) 4 (rowBl cv N 0) := by
    have := Whole.made (w.alloc (.cells #[.int .i64 (X : Int), .int .i64 (Z : Int), .slice (some ⟨R, o, none⟩) n c] 69)) 4 (madeCells #[.bool false] N)
    simp only [World.size_alloc] at this
    rw [rowBl_zero cv] at this ⊢
    exact this
  have HG := Lib.hid ((Whole.made w 69 #[.int .i64 (X : Int), .int .i64 (Z : Int), .slice (some ⟨R, o, none⟩) n c]).old (.cells (madeCells #[.bool false] N) 4))
  have HW0 := Lib.hid hw0
  have HB0 := Lib.hid hb0
  clear hw0 hb0
  go_enter Try.func40, Try.ntmps40
  go_wp2_with fail
  have hpt : ∀ w', Below w.heap.size w w' → ∀ i < n, PAt w' R (o + i * 4) (F i) := fun w' hb i hi => (HFF.out i hi).later hb
  have HPT := Lib.hid hpt
  clear hpt
  have HM := Lib.hid (meeting_any F n c R o A2 n2 c2 l _ hn0 hn9 (HPT.out _ HB0.out) (fun i _ => HOK.out i) (H2.out.below HB0.out) hn2)
  have hLl : (nearL F n l).length ≤ 1000 := Nat.le_trans (near_len F n l) (by rw [H2.out.len]; exact hn2)
  obtain ⟨L, hL⟩ : ∃ L, nearL F n l = L := ⟨_, rfl⟩
  rw [hL] at HM HCV hLl
  clear hL
  refine HM.out.mono ?_
  rintro e w1 ⟨A3, c3, rfl, hnear, hb⟩
  have HB1 := Lib.hid (HB0.out.trans (hb.mono HB0.out.size))
  have HW1 := Lib.hid (HW0.out.here hb)
  have HG1 := Lib.hid (HG.out.here hb)
  have HN1 := Lib.hid hnear
  clear hb hnear HM HW0 HG HB0
  by_cases h0 : L.length = 0
  · have z1 : ((L.length : Int) == 0) = true := by rw [h0]; rfl
    have hLn : L = [] := List.eq_nil_of_length_eq_zero h0
    have HR := Lib.hid (show Whole w1 (w.heap.size + 1) 4 (rowBl cv N N) by
      rw [← rowBl_none N N (fun j => by rw [HCV.out j, hLn]; rfl)]
      exact HW1.out)
    clear h0 hLn
    go_wp2_with fail
    go_ret
    exact ⟨w.heap.size + 1, rfl, HR.out, HB1.out⟩
  · have z1 : ((L.length : Int) == 0) = false := beq_false_of_ne (by omega)
    have hne : 0 < L.length → ∀ R3 o3, A3 = some ⟨R3, o3, none⟩ → ¬ R3 = w.heap.size + 1 := by
      intro hn R3 o3 e he
      obtain ⟨R4, o4, e4, hR4, hc⟩ := HN1.out.at_ hn
      rw [e] at e4
      injection e4 with e4
      injection e4 with q1 q2
      subst q1 q2 he
      have := hc 0 L[0] (List.getElem?_eq_getElem hn) 0 _ rfl
      rw [HW1.out.reads] at this
      by_cases hj : o3 + 0 * 8 + 0 < N
      · rw [rowBl_at _ _ _ _ hj] at this
        cases this
      · rw [Array.getElem?_eq_none (by simp [rowBl]; omega)] at this
        cases this
    have HNE := Lib.hid hne
    have lw1 := HW1.out.lt
    clear hne h0
    go_wp2_with fail
    go_loopw [27] (fun i wr => ∃ j : Nat, i = .int .i64 (j : Int) ∧ j ≤ N ∧ Hid (Whole wr (w.heap.size + 1) 4 (rowBl cv N j) ∧ Fr (fun g => g = w.heap.size + 1) w1 wr)) (fun i _ => N - (intOf i).toNat)
    case atStart => exact ⟨0, rfl, by omega, Lib.hid ⟨HW1.out, Fr.refl _ _⟩⟩
    case round =>
      obtain ⟨j, rfl, hj, HX⟩ := hrel
      have hbw : Below w.heap.size w wr := HB1.out.trans (HX.out.2.below (by have := HB1.out.size; omega) (fun g hg => by show ¬ g = w.heap.size + 1; omega))
      have hgw : Whole wr w.heap.size 69 #[.int .i64 (X : Int), .int .i64 (Z : Int), .slice (some ⟨R, o, none⟩) n c] := HG1.out.frame HX.out.2 (by show ¬ w.heap.size = w.heap.size + 1; omega)
      by_cases hlt : j < N
      · have d1 : decide ((j : Int) < (N : Int)) = true := decide_eq_true (by omega)
        have hjZ : j / X < Z := by
          rw [Nat.div_lt_iff_lt_mul (by omega), Nat.mul_comm, HN.out]
          exact hlt
        have hjX : j % X < X := Nat.mod_lt _ (by omega)
        have hz : Z - 1 - j / X < Z := Nat.lt_of_le_of_lt (Nat.sub_le _ _) (by omega)
        have HC := Lib.hid (fun v (hv : Below wr.heap.size wr v) => corners_any F X Z R o n c (j % X) (Z - 1 - j / X) v HNN.out hn9 hjX hz (HPT.out v (hbw.trans (hv.mono hbw.size))) ((HPT.out v (hbw.trans (hv.mono hbw.size))) 0 hn0).lt)
        obtain ⟨jx, hjx⟩ : ∃ y, j % X = y := ⟨_, rfl⟩
        obtain ⟨jz, hjz⟩ : ∃ y, Z - 1 - j / X = y := ⟨_, rfl⟩
        obtain ⟨jq, hjq⟩ : ∃ y, j / X = y := ⟨_, rfl⟩
        rw [hjx, hjz] at HC
        rw [hjq] at hjz hjZ
        have k1 : (j : Int) % (X : Int) = (jx : Int) := by rw [← hjx]; rfl
        have k2 : (j : Int) / (X : Int) = (jq : Int) := by rw [← hjq]; rfl
        have hjZ2 : jq + 1 ≤ Z := hjZ
        have k3 : (Z : Int) - 1 - (jq : Int) = (jz : Int) := by rw [← hjz]; omega
        have k4 : (j : Int).tmod (X : Int) = (jx : Int) := by rw [Int.tmod_eq_emod_of_nonneg (by omega)]; exact k1
        have k5 : (j : Int).tdiv (X : Int) = (jq : Int) := by rw [Int.tdiv_eq_ediv_of_nonneg (by omega)]; exact k2
        have k6 : ((X : Int) == 0) = false := beq_false_of_ne (by omega)
        have k7 : ¬ (X : Int) = 0 := by omega
        have k8 : IntKind.i64.wrap (jq : Int) = (jq : Int) := by rw [IntKind.wrap_i64]; omega
        have k9 : IntKind.i64.wrap ((Z : Int) - 1 - (jq : Int)) = (jz : Int) := by rw [k3, IntKind.wrap_i64]; omega
        have ka : IntKind.i64.wrap (jx : Int) = (jx : Int) := by rw [IntKind.wrap_i64]; omega
        have kX : ¬ X = 0 := by omega
        have kb : (jz : Int) = IntKind.i64.wrap (IntKind.i64.wrap ((Z : Int) - 1) - (jq : Int)) := by
          rw [show IntKind.i64.wrap ((Z : Int) - 1) = (Z : Int) - 1 by rw [IntKind.wrap_i64]; omega, k9]
        have HJ := Lib.hid (show cv j = L.any (meetsB (ofN (crn F X jx jz) 4)) by rw [HCV.out j, hjx, hjq, hjz])
        have HC2 : Hid (∀ v, Below wr.heap.size wr v → Calls Try.prog 56 #[.agg #[.int .i64 (X : Int), .int .i64 (Z : Int), .slice (some ⟨R, o, none⟩) n c], .int .i64 (jx : Int), .int .i64 (IntKind.i64.wrap (IntKind.i64.wrap ((Z : Int) - 1) - (jq : Int)))] v fun e w' => e = .returned (.agg (fourV F X jx jz)) ∧ Below v.heap.size v w') := by rw [← kb]; exact HC
        clear kb k3 k9 HC
        unfold fourV at HC2
        have hb8 : crn F X jx jz = crn F X jx jz := rfl
        have HBW := Lib.hid hbw
        obtain ⟨g0, g1, g2, g3, g4, g5, g6⟩ := tri_facts hgw
        have HGW := Lib.hid hgw
        have i0 : (0 : Int) ≤ (j : Int) := by omega
        have i1 : (j : Int) < (N : Int) := by omega
        have hX0 : (0 : Int) < (X : Int) := by omega
        have hjz9 : jz ≤ 65536 := by omega
        have hjq9 : jq ≤ 65536 := by omega
        have hjx9 : jx ≤ 65536 := by omega
        clear hjx hjz hjq hjZ hjX hz hb8 hbw hgw
        have HV := Below.refl wr.heap.size wr
        go_wp2_with fail
        go_cut [8] from 30 to 44 (fun s8 wx => ∃ B8 : Nat, s8 = .pointer (some ⟨B8, 0, none⟩) ∧ wr.heap.size ≤ B8 ∧ Whole wx B8 96 (fourV F X jx jz) ∧ Below wr.heap.size wr wx)
        case first =>
          have lg := HGW.out.lt
          go_region_held3 (fun v => v.cell? ⟨w.heap.size, 0, none⟩ = some (.int .i64 (X : Int)) ∧ v.cell? ⟨w.heap.size, 1, none⟩ = some (.int .i64 (Z : Int)) ∧ v.cell? ⟨w.heap.size, 2, none⟩ = some (.slice (some ⟨R, o, none⟩) n c))
            (first | with_reducible exact tri_cells (HGW.out.here HV) | with_reducible exact tri_cells (HGW.out.here (Below.drew HV)) | with_reducible exact tri_cells (HGW.out.here (HV.alloc HV.size _)) | with_reducible exact tri_cells (HGW.out.here (Below.drew (HV.alloc HV.size _))) | (with_reducible refine tri_cells (HGW.out.here (B16 ?_ HV)); omega) | (with_reducible refine tri_cells (HGW.out.here (B16 ?_ (HV.alloc HV.size _))); omega))
            (first
              | (go_at_call 56; (with_reducible refine (HC2.out _ (Below.drew HV)).mono ?_); rintro x v ⟨rfl, kk⟩; have HV := undrew2 kk)
              | (go_at_call 56; (with_reducible refine (HC2.out _ (Below.drew (HV.alloc HV.size _))).mono ?_); rintro x v ⟨rfl, kk⟩; have kk := undrew2 kk; have hG := (Whole.made wr 96 #[.int .i64 0, .int .i64 0, .int .i64 0, .int .i64 0, .int .i64 0, .int .i64 0, .int .i64 0, .int .i64 0, .int .i64 0, .int .i64 0, .int .i64 0, .int .i64 0, .int .i64 0, .int .i64 0, .int .i64 0, .int .i64 0]).here kk; have HV := (HV.alloc HV.size _).trans (kk.mono (by simp)); have rg := hG.reads; have fg := hG.thawed; have lG := hG.lt))
          all_goals
            go_wp2_with fail
            go_meet
            first
              | exact ⟨_, rfl, HV.size, Whole.made _ _ _, HV.alloc HV.size _⟩
              | exact ⟨_, rfl, Nat.le_refl _, hG.fill16, B16 (Nat.le_refl _) HV⟩
        case rest =>
          obtain ⟨B8, rfl, l8, h8, hb8⟩ := hcut
          have HO := Lib.hid (of_any (crn F X jx jz) 4 4 B8 0 wc (ofN (crn F X jx jz) 4) 0 (by decide) (by decide) (Lib.hid (crn_pts h8)) (Lib.hid (.inr (.inr ⟨by decide, fun i _ => by unfold crn; split <;> exact HOK.out _, rfl, rfl⟩))))
          have l8b := h8.lt
          have HB8 := Lib.hid hb8
          obtain ⟨bx, hbx⟩ : ∃ b, ofN (crn F X jx jz) 4 = b := ⟨_, rfl⟩
          rw [hbx] at HO HJ
          unfold BV.val at HO
          clear HV hb8 h8 hbx HC2 g0 g1 g2 g3 g4 g5 g6
          go_wp2_with fail
          refine HO.out.mono ?_
          rintro e w3 ⟨rfl, hb⟩
          have hb3 := hb.alloc hb.size (.cells #[.int .i64 bx.x0.m, .int .i64 bx.x0.s, .int .i64 bx.y0.m, .int .i64 bx.y0.s, .int .i64 bx.x1.m, .int .i64 bx.x1.s, .int .i64 bx.y1.m, .int .i64 bx.y1.s] 52)
          have HB3 := Lib.hid (HB8.out.trans (hb3.mono HB8.out.size))
          have HW9 := Lib.hid (Whole.made w3 52 #[.int .i64 bx.x0.m, .int .i64 bx.x0.s, .int .i64 bx.y0.m, .int .i64 bx.y0.s, .int .i64 bx.x1.m, .int .i64 bx.x1.s, .int .i64 bx.y1.m, .int .i64 bx.y1.s])
          have HN3 := Lib.hid ((HN1.out.fr HX.out.2 (fun h R3 o3 e => HNE.out h R3 o3 e)).below HB3.out)
          have HT := Lib.hid (fun w' h1 h2 => contains_any bx w3.heap.size A3 L.length c3 L w' h1 h2 hLl)
          obtain ⟨r, hr⟩ : ∃ r, L.any (meetsB bx) = r := ⟨_, rfl⟩
          rw [hr] at HT HJ
          have HR := Lib.hid hr
          clear hb hb3 hr
          go_wp2_with fail
          refine (HT.out _ HN3.out HW9.out).mono ?_
          rintro e w4 ⟨rfl, hb⟩
          have hb4 := HB3.out.trans (hb.mono HB3.out.size)
          have hw4 := HX.out.1.here hb4
          have co : w4.cell? ⟨w.heap.size + 1, j, none⟩ = some (.bool false) := by
            rw [hw4.reads, rowBl_at _ _ _ _ hlt, decide_eq_false (Nat.lt_irrefl j), Bool.false_and]
          have fo := hw4.thawed j
          have lo := hw4.lt
          have HW4 := Lib.hid hw4
          have HF4 := Lib.hid (Fr.trans (HX.out.2) (Fr.of_below hb4) (fun k hk e => by have := HX.out.2.size; omega))
          clear hb hb4 hw4
          go_wp2_with fail
          go_roundw
          case rel => exact ⟨j + 1, by go_num, by omega, Lib.hid ⟨by rw [← rowBl_set, HJ.out]; exact HW4.out.set j _, HF4.out.setB j _⟩⟩
          case measure => simp [intOf]; omega
      · obtain rfl : j = N := by omega
        have d1 : decide ((j : Int) < (j : Int)) = false := by simp
        have HBW := Lib.hid hbw
        clear hbw hgw
        go_wp2_with fail
        go_ret
        exact ⟨w.heap.size + 1, rfl, HX.out.1, HBW.out⟩
end Go.Proofs.Ytmleoagdelgddaa
