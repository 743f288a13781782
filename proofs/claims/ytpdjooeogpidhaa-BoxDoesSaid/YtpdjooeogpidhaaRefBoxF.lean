/- The reference's Of: the walk. -/
import Derived.Test.YtpdjooeogpidhaaRefBoxA
namespace Go.Proofs.Ytpdjooeogpidhaa
open Go.RowKit Dec

theorem lesD_self (a : DV) : lesD a a = a := by unfold lesD; split <;> rfl
theorem greD_self (a : DV) : greD a a = a := by unfold greD; split <;> rfl
theorem ofN_one (f : Nat → PV) : ofN f 1 = ofN f 0 := by
  show growB (ofN f 0) (f 0) = _
  unfold growB ofN
  simp only [lesD_self, greD_self]
theorem ofN_nums (f : Nat → PV) (n k : Nat) (h0 : 0 < n) (hk : k ≤ n) (h : ∀ i < n, (f i).Ok) : (ofN f k).Nums := by
  rcases Nat.eq_zero_or_pos k with rfl | hp
  · have := h 0 h0
    exact ⟨this.1, this.2, this.1, this.2⟩
  · have := (ofN_ok f k hp (fun i hi => h i (by omega))).1
    exact ⟨this.1, this.2.1, this.2.2.1, this.2.2.2⟩
theorem refof_none (p : Option Addr) (c : Nat) (w : World) :
    Calls Try.prog 17 #[.slice p 0 c] w fun e w' => e = .returned (.tuple #[BV.zero.val, .int .i64 8]) ∧ Below w.heap.size w w' := by
  go_enter Try.func17, Try.ntmps17
  go_wp2
  exact bodyPost_ret (v := .tuple #[BV.zero.val, .int .i64 8]) (by simp [results, Try.results17, go_sem, BV.zero, DV.zero]) rfl ⟨rfl, by (repeat (first | with_reducible exact Below.refl _ _ | with_reducible refine Below.drew ?_ | with_reducible refine bdrewN ?_ _ | (with_reducible refine Below.setCell ?_ ?_ _; rotate_left; focus (first | exact Nat.le_refl _ | omega | (simp; omega) | (simp; done))) | (with_reducible refine Below.alloc ?_ ?_ _; rotate_left; focus (first | exact Nat.le_refl _ | omega | (simp; omega) | (simp; done))) | (with_reducible refine Below.trans ?_ (Below.mono (by assumption) ?_); rotate_left; focus (first | exact Nat.le_refl _ | omega | (simp; omega) | (simp; done)))))⟩
theorem Whole.away8 {w : World} {g B : Nat} {T : TypeId} {cs : Array Value} (h : Whole w g T cs) (hn : g ≠ B) (a0 a1 a2 a3 a4 a5 a6 a7 : Value) :
    Whole ((((((((w.setCell ⟨B, 0, none⟩ a0).setCell ⟨B, 1, none⟩ a1).setCell ⟨B, 2, none⟩ a2).setCell ⟨B, 3, none⟩ a3).setCell ⟨B, 4, none⟩ a4).setCell ⟨B, 5, none⟩ a5).setCell ⟨B, 6, none⟩ a6).setCell ⟨B, 7, none⟩ a7) g T cs :=
  ((((((((h.away (p := ⟨B, 0, none⟩) hn a0).away (p := ⟨B, 1, none⟩) hn a1).away (p := ⟨B, 2, none⟩) hn a2).away (p := ⟨B, 3, none⟩) hn a3).away (p := ⟨B, 4, none⟩) hn a4).away (p := ⟨B, 5, none⟩) hn a5).away (p := ⟨B, 6, none⟩) hn a6).away (p := ⟨B, 7, none⟩) hn a7)
/-- A point as a box of its own. -/
abbrev ptB (p : PV) : BV := ⟨p.x, p.y, p.x, p.y⟩
theorem ptB_nums {p : PV} (h : p.Ok) : (ptB p).Nums := ⟨h.1, h.2, h.1, h.2⟩
theorem joinB_pt (b : BV) (p : PV) : joinB b (ptB p) = growB b p := rfl
set_option maxRecDepth 100000 in
set_option maxHeartbeats 8000000 in
theorem refof_any (f : Nat → PV) (n c R o : Nat) (w : World) (b : BV) (E : Int) (hn : 0 < n) (hm : n ≤ 1000000) (hF : Hid (∀ i < n, PAt w R (o + i * 4) (f i))) (h : Hid (OfIs f n b E)) :
    Calls Try.prog 17 #[.slice (some ⟨R, o, none⟩) n c] w fun e w' => e = .returned (.tuple #[b.val, .int .i64 E]) ∧ Below w.heap.size w w' := by
  have hn0 : ((n : Int) == 0) = false := by rw [beq_eq_false_iff_ne]; omega
  have HS0 := Lib.hid (And.intro (Whole.made w 40 #[.int .i64 0, .int .i64 0, .int .i64 0, .int .i64 0, .int .i64 0, .int .i64 0, .int .i64 0, .int .i64 0]) ((Below.refl w.heap.size w).alloc (Nat.le_refl _) (.cells #[.int .i64 0, .int .i64 0, .int .i64 0, .int .i64 0, .int .i64 0, .int .i64 0, .int .i64 0, .int .i64 0] 40)))
  go_enter Try.func17, Try.ntmps17
  go_wp2
  go_loopw [4] (fun i wr => ∃ k : Nat, k ≤ n ∧ i = .int .i64 k ∧ Hid (∀ i < k, (f i).Ok) ∧ Hid (Whole wr w.heap.size 40 #[.int .i64 0, .int .i64 0, .int .i64 0, .int .i64 0, .int .i64 0, .int .i64 0, .int .i64 0, .int .i64 0] ∧ Below w.heap.size w wr)) (fun i _ => n - (intOf i).toNat)
  case atStart => exact ⟨0, Nat.zero_le _, rfl, fun i hi => absurd hi (by omega), HS0⟩
  case round =>
    clear HS0
    obtain ⟨k, hk, rfl, hpre, hS⟩ := hrel
    by_cases hlt : k < n
    · obtain ⟨p0, p1, p2, p3⟩ := (hF.out k hlt).later hS.out.2
      have lR' : R < wr.heap.size := World.block_lt_of_cell? _ _ p0
      by_cases hx : (f k).x.Ok
      · have HX := Lib.hid hx
        clear hx
        go_wp2_with fail
        refine (right_is (f k).x true (decide_eq_true HX.out) _).mono ?_
        rintro e w1 ⟨rfl, b1⟩
        have H1 := Lib.hid (And.intro (hS.out.1.here b1) (hS.out.2.trans (b1.mono hS.out.2.size)))
        clear b1 p0 p1 p2 p3 lR'
        obtain ⟨p0, p1, p2, p3⟩ := (hF.out k hlt).later H1.out.2
        have lR' : R < w1.heap.size := World.block_lt_of_cell? _ _ p0
        by_cases hy : (f k).y.Ok
        · have HY := Lib.hid hy
          clear hy
          go_wp2_with fail
          refine (right_is (f k).y true (decide_eq_true HY.out) _).mono ?_
          rintro e w2 ⟨rfl, b2⟩
          have H2 := Lib.hid (And.intro (H1.out.1.here b2) (H1.out.2.trans (b2.mono H1.out.2.size)))
          clear b2 p0 p1 p2 p3 lR'
          go_wp2_with fail
          go_roundw
          case rel => exact ⟨k + 1, by omega, by go_num, pre_succ hpre.out ⟨HX.out, HY.out⟩, H2⟩
          case measure => simp [intOf]; omega
        · have HY := Lib.hid hy
          clear hy
          obtain ⟨rfl, rfl⟩ : b = .zero ∧ E = 1 := by
            rcases h.out with ⟨h, -⟩ | ⟨-, -, h, h'⟩ | ⟨-, h, -⟩
            · omega
            · exact ⟨h, h'⟩
            · exact absurd (h k hlt).2 HY.out
          go_wp2_with fail
          refine (right_is (f k).y false (decide_eq_false HY.out) _).mono ?_
          rintro e w2 ⟨rfl, b2⟩
          have H2 := Lib.hid (And.intro (H1.out.1.here b2) (H1.out.2.trans (b2.mono H1.out.2.size)))
          clear b2 p0 p1 p2 p3 lR'
          have rd := H2.out.1.reads
          have ft := H2.out.1.thawed
          have lW := H2.out.1.lt
          go_wp2
          refine bodyPost_ret (v := .tuple #[BV.zero.val, .int .i64 1]) (by simp [results, Try.results17, go_sem, rd, BV.zero, DV.zero]) rfl ⟨rfl, ?_⟩
          (repeat (first | with_reducible refine Below.drew ?_ | with_reducible refine bdrewN ?_ _ | (with_reducible refine Below.setCell ?_ ?_ _; rotate_left; focus (first | exact Nat.le_refl _ | omega | (simp; omega) | (simp; done))) | (with_reducible refine Below.alloc ?_ ?_ _; rotate_left; focus (first | exact Nat.le_refl _ | omega | (simp; omega) | (simp; done))))); with_reducible exact H2.out.2
      · have HX := Lib.hid hx
        clear hx
        obtain ⟨rfl, rfl⟩ : b = .zero ∧ E = 1 := by
          rcases h.out with ⟨h, -⟩ | ⟨-, -, h, h'⟩ | ⟨-, h, -⟩
          · omega
          · exact ⟨h, h'⟩
          · exact absurd (h k hlt).1 HX.out
        go_wp2_with fail
        refine (right_is (f k).x false (decide_eq_false HX.out) _).mono ?_
        rintro e w2 ⟨rfl, b2⟩
        have H2 := Lib.hid (And.intro (hS.out.1.here b2) (hS.out.2.trans (b2.mono hS.out.2.size)))
        clear b2 p0 p1 p2 p3 lR'
        have rd := H2.out.1.reads
        have ft := H2.out.1.thawed
        have lW := H2.out.1.lt
        go_wp2
        refine bodyPost_ret (v := .tuple #[BV.zero.val, .int .i64 1]) (by simp [results, Try.results17, go_sem, rd, BV.zero, DV.zero]) rfl ⟨rfl, ?_⟩
        (repeat (first | with_reducible refine Below.drew ?_ | with_reducible refine bdrewN ?_ _ | (with_reducible refine Below.setCell ?_ ?_ _; rotate_left; focus (first | exact Nat.le_refl _ | omega | (simp; omega) | (simp; done))) | (with_reducible refine Below.alloc ?_ ?_ _; rotate_left; focus (first | exact Nat.le_refl _ | omega | (simp; omega) | (simp; done))))); with_reducible exact H2.out.2
    · obtain rfl : k = n := by omega
      obtain ⟨rfl, rfl⟩ : b = ofN f k ∧ E = 0 := by
        rcases h.out with ⟨h, -⟩ | ⟨-, ⟨i, hi, h'⟩, -⟩ | ⟨-, -, h, h'⟩
        · omega
        · exact absurd (hpre.out i hi) h'
        · exact ⟨h, h'⟩
      obtain ⟨p0, p1, p2, p3⟩ := (hF.out 0 hn).later hS.out.2
      simp only [Nat.zero_mul, Nat.add_zero] at p0 p1 p2 p3
      have lR' : R < wr.heap.size := World.block_lt_of_cell? _ _ p0
      go_wp2
      go_region
      go_wp2
      have HL := Lib.hid (And.intro (hS.out.1.old (.cells #[.int .i64 (f 0).x.m, .int .i64 (f 0).x.s, .int .i64 (f 0).y.m, .int .i64 (f 0).y.s, .int .i64 (f 0).x.m, .int .i64 (f 0).x.s, .int .i64 (f 0).y.m, .int .i64 (f 0).y.s] 40)) (And.intro (Whole.made wr 40 #[.int .i64 (f 0).x.m, .int .i64 (f 0).x.s, .int .i64 (f 0).y.m, .int .i64 (f 0).y.s, .int .i64 (f 0).x.m, .int .i64 (f 0).x.s, .int .i64 (f 0).y.m, .int .i64 (f 0).y.s]) (hS.out.2.alloc hS.out.2.size (.cells #[.int .i64 (f 0).x.m, .int .i64 (f 0).x.s, .int .i64 (f 0).y.m, .int .i64 (f 0).y.s, .int .i64 (f 0).x.m, .int .i64 (f 0).x.s, .int .i64 (f 0).y.m, .int .i64 (f 0).y.s] 40))))
      clear p0 p1 p2 p3 lR'
      obtain ⟨P, hP⟩ : ∃ P, wr.heap.size = P := ⟨_, rfl⟩
      have hPw : w.heap.size < P := by have := hS.out.1.lt; omega
      rw [hP]
      rw [hP] at HL
      go_loopw [6] (fun i wx => ∃ j : Nat, 1 ≤ j ∧ j ≤ k ∧ i = .int .i64 j ∧ Hid (Whole wx w.heap.size 40 #[.int .i64 0, .int .i64 0, .int .i64 0, .int .i64 0, .int .i64 0, .int .i64 0, .int .i64 0, .int .i64 0] ∧ Whole wx P 40 #[.int .i64 (ofN f j).x0.m, .int .i64 (ofN f j).x0.s, .int .i64 (ofN f j).y0.m, .int .i64 (ofN f j).y0.s, .int .i64 (ofN f j).x1.m, .int .i64 (ofN f j).x1.s, .int .i64 (ofN f j).y1.m, .int .i64 (ofN f j).y1.s] ∧ Below w.heap.size w wx)) (fun i _ => k - (intOf i).toNat)
      case atStart => exact ⟨1, by omega, by omega, rfl, by rw [ofN_one]; exact Lib.hid ⟨HL.out.1.here (Below.refl _ _).drew, HL.out.2.1.here (Below.refl _ _).drew, HL.out.2.2.drew⟩⟩
      case round =>
        clear HL hS
        obtain ⟨j, hj1, hj, rfl, hS⟩ := hrel
        by_cases hlj : j < k
        · obtain ⟨p0, p1, p2, p3⟩ := (hF.out j hlj).later hS.out.2.2
          have lR' : R < wr.heap.size := World.block_lt_of_cell? _ _ p0
          have hR := hS.out.2.1
          have hW := hS.out.1
          have HB := Lib.hid hS.out.2.2
          have rb := hR.reads
          have HC0 : wr.cell? ⟨P, 0, none⟩ = some (.int .i64 (ofN f j).x0.m) ∧ wr.cell? ⟨P, 1, none⟩ = some (.int .i64 (ofN f j).x0.s) ∧ wr.cell? ⟨P, 2, none⟩ = some (.int .i64 (ofN f j).y0.m) ∧ wr.cell? ⟨P, 3, none⟩ = some (.int .i64 (ofN f j).y0.s) ∧ wr.cell? ⟨P, 4, none⟩ = some (.int .i64 (ofN f j).x1.m) ∧ wr.cell? ⟨P, 5, none⟩ = some (.int .i64 (ofN f j).x1.s) ∧ wr.cell? ⟨P, 6, none⟩ = some (.int .i64 (ofN f j).y1.m) ∧ wr.cell? ⟨P, 7, none⟩ = some (.int .i64 (ofN f j).y1.s) ∧ wr.cell? ⟨R, o + j * 4, none⟩ = some (.int .i64 (f j).x.m) ∧ wr.cell? ⟨R, o + j * 4 + 1, none⟩ = some (.int .i64 (f j).x.s) ∧ wr.cell? ⟨R, o + j * 4 + 2, none⟩ = some (.int .i64 (f j).y.m) ∧ wr.cell? ⟨R, o + j * 4 + 3, none⟩ = some (.int .i64 (f j).y.s) := ⟨rb 0, rb 1, rb 2, rb 3, rb 4, rb 5, rb 6, rb 7, p0, p1, p2, p3⟩
          clear rb p0 p1 p2 p3
          have l1 := hR.lt
          go_wp2_with fail
          refine wp_region_S 23 (fun v => v.cell? ⟨P, 0, none⟩ = some (.int .i64 (ofN f j).x0.m) ∧ v.cell? ⟨P, 1, none⟩ = some (.int .i64 (ofN f j).x0.s) ∧ v.cell? ⟨P, 2, none⟩ = some (.int .i64 (ofN f j).y0.m) ∧ v.cell? ⟨P, 3, none⟩ = some (.int .i64 (ofN f j).y0.s) ∧ v.cell? ⟨P, 4, none⟩ = some (.int .i64 (ofN f j).x1.m) ∧ v.cell? ⟨P, 5, none⟩ = some (.int .i64 (ofN f j).x1.s) ∧ v.cell? ⟨P, 6, none⟩ = some (.int .i64 (ofN f j).y1.m) ∧ v.cell? ⟨P, 7, none⟩ = some (.int .i64 (ofN f j).y1.s) ∧ v.cell? ⟨R, o + j * 4, none⟩ = some (.int .i64 (f j).x.m) ∧ v.cell? ⟨R, o + j * 4 + 1, none⟩ = some (.int .i64 (f j).x.s) ∧ v.cell? ⟨R, o + j * 4 + 2, none⟩ = some (.int .i64 (f j).y.m) ∧ v.cell? ⟨R, o + j * 4 + 3, none⟩ = some (.int .i64 (f j).y.s)) (by kernel_rfl) ?_
          refine wpAnyS_takeW (i := 1) (v := ?v1) rfl (by kernel_rfl) (fun _ _ _ h => h) (Or.inl ⟨by rfl, ?y1⟩) (fun _ => HC0) ?r1
          case y1 => intro wq _; go_simp; try with_reducible rfl
          try simp only [Act.put, List.setIfInBounds_toArray, List.set_cons_zero, List.set_cons_succ]
          refine wpAnyS_takeW (i := 2) (v := ?v2) rfl (by kernel_rfl) (fun _ _ _ h => h) (Or.inl ⟨by rfl, ?y2⟩) (fun _ => HC0) ?r2
          case y2 => intro wq _; go_simp; try with_reducible rfl
          try simp only [Act.put, List.setIfInBounds_toArray, List.set_cons_zero, List.set_cons_succ]
          refine wpAnyS_takeW (i := 6) (v := ?v3) rfl (by kernel_rfl) (fun _ _ _ h => h) (Or.inl ⟨by rfl, ?y3⟩) (fun _ => HC0) ?r3
          case y3 => intro wq _; go_simp; try with_reducible rfl
          try simp only [Act.put, List.setIfInBounds_toArray, List.set_cons_zero, List.set_cons_succ]
          refine wpAnyS_takeW (i := 7) (v := ?v4) rfl (by kernel_rfl) (fun _ _ _ h => h) (Or.inl ⟨by rfl, ?y4⟩) (fun _ => HC0) ?r4
          case y4 => intro wq _; go_simp; try with_reducible rfl
          try simp only [Act.put, List.setIfInBounds_toArray, List.set_cons_zero, List.set_cons_succ]
          refine wpAnyS_takeW (i := 11) (v := ?v5) rfl (by kernel_rfl) (fun _ _ _ h => h) (Or.inl ⟨by rfl, ?y5⟩) (fun _ => HC0) ?r5
          case y5 => intro wq _; go_simp; try with_reducible rfl
          try simp only [Act.put, List.setIfInBounds_toArray, List.set_cons_zero, List.set_cons_succ]
          refine wpAnyS_takeW (i := 12) (v := ?v6) rfl (by kernel_rfl) (fun _ _ _ h => h) (Or.inl ⟨by rfl, ?y6⟩) (fun _ => HC0) ?r6
          case y6 => intro wq _; go_simp; try with_reducible rfl
          try simp only [Act.put, List.setIfInBounds_toArray, List.set_cons_zero, List.set_cons_succ]
          refine wpAnyS_takeW (i := 16) (v := ?v7) rfl (by kernel_rfl) (fun _ _ _ h => h) (Or.inl ⟨by rfl, ?y7⟩) (fun _ => HC0) ?r7
          case y7 => intro wq _; go_simp; try with_reducible rfl
          try simp only [Act.put, List.setIfInBounds_toArray, List.set_cons_zero, List.set_cons_succ]
          refine wpAnyS_takeW (i := 17) (v := ?v8) rfl (by kernel_rfl) (fun _ _ _ h => h) (Or.inl ⟨by rfl, ?y8⟩) (fun _ => HC0) ?r8
          case y8 => intro wq _; go_simp; try with_reducible rfl
          try simp only [Act.put, List.setIfInBounds_toArray, List.set_cons_zero, List.set_cons_succ]
          refine wpAnyS_takeW (i := 3) (v := ?v9) rfl (by kernel_rfl) (fun _ _ _ h => h) (Or.inl ⟨by rfl, ?y9⟩) (fun _ => HC0) ?r9
          case y9 => intro wq _; go_simp; try with_reducible rfl
          try simp only [Act.put, List.setIfInBounds_toArray, List.set_cons_zero, List.set_cons_succ]
          refine wpAnyS_takeW (i := 8) (v := ?v10) rfl (by kernel_rfl) (fun _ _ _ h => h) (Or.inl ⟨by rfl, ?y10⟩) (fun _ => HC0) ?r10
          case y10 => intro wq _; go_simp; try with_reducible rfl
          try simp only [Act.put, List.setIfInBounds_toArray, List.set_cons_zero, List.set_cons_succ]
          refine wpAnyS_takeW (i := 13) (v := ?v11) rfl (by kernel_rfl) (fun _ _ _ h => h) (Or.inl ⟨by rfl, ?y11⟩) (fun _ => HC0) ?r11
          case y11 => intro wq _; go_simp; try with_reducible rfl
          try simp only [Act.put, List.setIfInBounds_toArray, List.set_cons_zero, List.set_cons_succ]
          refine wpAnyS_takeW (i := 18) (v := ?v12) rfl (by kernel_rfl) (fun _ _ _ h => h) (Or.inl ⟨by rfl, ?y12⟩) (fun _ => HC0) ?r12
          case y12 => intro wq _; go_simp; try with_reducible rfl
          try simp only [Act.put, List.setIfInBounds_toArray, List.set_cons_zero, List.set_cons_succ]
          refine wpAnyS_takeW (i := 4) (v := ?v13) rfl (by kernel_rfl) (fun _ _ _ h => h) (Or.inl ⟨by rfl, ?y13⟩) (fun _ => HC0) ?r13
          case y13 => intro wq _; go_simp; try with_reducible rfl
          try simp only [Act.put, List.setIfInBounds_toArray, List.set_cons_zero, List.set_cons_succ]
          refine wpAnyS_takeW (i := 9) (v := ?v14) rfl (by kernel_rfl) (fun _ _ _ h => h) (Or.inl ⟨by rfl, ?y14⟩) (fun _ => HC0) ?r14
          case y14 => intro wq _; go_simp; try with_reducible rfl
          try simp only [Act.put, List.setIfInBounds_toArray, List.set_cons_zero, List.set_cons_succ]
          refine wpAnyS_takeW (i := 14) (v := ?v15) rfl (by kernel_rfl) (fun _ _ _ h => h) (Or.inl ⟨by rfl, ?y15⟩) (fun _ => HC0) ?r15
          case y15 => intro wq _; go_simp; try with_reducible rfl
          try simp only [Act.put, List.setIfInBounds_toArray, List.set_cons_zero, List.set_cons_succ]
          refine wpAnyS_takeW (i := 19) (v := ?v16) rfl (by kernel_rfl) (fun _ _ _ h => h) (Or.inl ⟨by rfl, ?y16⟩) (fun _ => HC0) ?r16
          case y16 => intro wq _; go_simp; try with_reducible rfl
          try simp only [Act.put, List.setIfInBounds_toArray, List.set_cons_zero, List.set_cons_succ]
          refine wpAnyS_take (i := 0) (v := ?v17) rfl (by kernel_rfl) (fun _ _ _ h => h) (Or.inl ⟨by rfl, ?y17⟩) HC0 ?r17
          case y17 => intro wq hq; (try dsimp only at hq); go_simp; try with_reducible rfl
          try simp only [Act.put, List.setIfInBounds_toArray, List.set_cons_zero, List.set_cons_succ]
          refine wpAnyS_take (i := 5) (v := ?v18) rfl (by kernel_rfl) (fun _ _ _ h => h) (Or.inl ⟨by rfl, ?y18⟩) HC0 ?r18
          case y18 => intro wq hq; (try dsimp only at hq); go_simp; try with_reducible rfl
          try simp only [Act.put, List.setIfInBounds_toArray, List.set_cons_zero, List.set_cons_succ]
          refine wpAnyS_take (i := 10) (v := ?v19) rfl (by kernel_rfl) (fun _ _ _ h => h) (Or.inl ⟨by rfl, ?y19⟩) HC0 ?r19
          case y19 => intro wq hq; (try dsimp only at hq); go_simp; try with_reducible rfl
          try simp only [Act.put, List.setIfInBounds_toArray, List.set_cons_zero, List.set_cons_succ]
          refine wpAnyS_take (i := 15) (v := ?v20) rfl (by kernel_rfl) (fun _ _ _ h => h) (Or.inl ⟨by rfl, ?y20⟩) HC0 ?r20
          case y20 => intro wq hq; (try dsimp only at hq); go_simp; try with_reducible rfl
          try simp only [Act.put, List.setIfInBounds_toArray, List.set_cons_zero, List.set_cons_succ]
          refine wpAnyS_take (i := 20) (v := ?v21) rfl (by kernel_rfl) (fun _ _ _ h => h) (Or.inl ⟨by rfl, ?y21⟩) HC0 ?r21
          case y21 => intro wq hq; (try dsimp only at hq); go_simp; try with_reducible rfl
          try simp only [Act.put, List.setIfInBounds_toArray, List.set_cons_zero, List.set_cons_succ]
          refine wpAnyS_takeW (i := 21) (v := ?v22) rfl (by kernel_rfl) (fun _ _ _ h => h) (Or.inl ⟨by rfl, ?y22⟩) (fun _ => HC0) ?r22
          case y22 => intro wq _; go_simp; try with_reducible rfl
          try simp only [Act.put, List.setIfInBounds_toArray, List.set_cons_zero, List.set_cons_succ]
          refine wpAnyS_one (j := 22) (by kernel_rfl) rfl (fun K hK => ?_)
          go_simp
          go_at_call 36; (with_reducible refine (around_any (ofN f j) (ptB (f j)) _ (ofN_nums f k j hn hj hpre.out) (ptB_nums (hpre.out j hlj))).mono ?_)
          rw [show joinB (ofN f j) (ptB (f j)) = ofN f (j + 1) from rfl]
          rintro e v1 ⟨rfl, k1⟩
          have k1 := undrew k1
          have hR1 := Whole.here hR k1
          have hW1 := Whole.here hW k1
          have HB1 := Lib.hid (HB.out.trans (k1.mono HB.out.size))
          have r1 := hR1.reads
          obtain ⟨s0, s1, s2, s3⟩ := (hF.out j hlj).later HB1.out
          have HC1 : v1.cell? ⟨P, 0, none⟩ = some (.int .i64 (ofN f j).x0.m) ∧ v1.cell? ⟨P, 1, none⟩ = some (.int .i64 (ofN f j).x0.s) ∧ v1.cell? ⟨P, 2, none⟩ = some (.int .i64 (ofN f j).y0.m) ∧ v1.cell? ⟨P, 3, none⟩ = some (.int .i64 (ofN f j).y0.s) ∧ v1.cell? ⟨P, 4, none⟩ = some (.int .i64 (ofN f j).x1.m) ∧ v1.cell? ⟨P, 5, none⟩ = some (.int .i64 (ofN f j).x1.s) ∧ v1.cell? ⟨P, 6, none⟩ = some (.int .i64 (ofN f j).y1.m) ∧ v1.cell? ⟨P, 7, none⟩ = some (.int .i64 (ofN f j).y1.s) ∧ v1.cell? ⟨R, o + j * 4, none⟩ = some (.int .i64 (f j).x.m) ∧ v1.cell? ⟨R, o + j * 4 + 1, none⟩ = some (.int .i64 (f j).x.s) ∧ v1.cell? ⟨R, o + j * 4 + 2, none⟩ = some (.int .i64 (f j).y.m) ∧ v1.cell? ⟨R, o + j * 4 + 3, none⟩ = some (.int .i64 (f j).y.s) := ⟨r1 0, r1 1, r1 2, r1 3, r1 4, r1 5, r1 6, r1 7, s0, s1, s2, s3⟩
          have ft1 := hR1.thawed
          have lP1 := hR1.lt
          clear r1 s0 s1 s2 s3 k1
          go_wp2_with fail
          refine hK.out _ _ ⟨fun _ _ => HC1, ?_⟩
          clear hK K
          try simp only [Act.put, List.setIfInBounds_toArray, List.set_cons_zero, List.set_cons_succ]
          refine wpAnyS_one (j := 23) (by kernel_rfl) rfl (fun K hK => ?_)
          go_simp
          refine hK.out _ _ ⟨fun h => absurd rfl h, ?_⟩
          clear hK K
          try simp only [Act.put, List.setIfInBounds_toArray, List.set_cons_zero, List.set_cons_succ]
          refine wpAnyS_done (by kernel_rfl) ?_ _
          go_wp2_with fail
          go_roundw
          case rel => exact ⟨j + 1, by omega, by omega, by go_num, Lib.hid ⟨hW1.away8 (by omega) _ _ _ _ _ _ _ _, (((((((hR1.set 0 _).set 1 _).set 2 _).set 3 _).set 4 _).set 5 _).set 6 _).set 7 _, by (repeat (first | with_reducible refine Below.drew ?_ | with_reducible refine bdrewN ?_ _ | (with_reducible refine Below.setCell ?_ ?_ _; rotate_left; focus (first | exact Nat.le_refl _ | omega | (simp; omega) | (simp; done))) | (with_reducible refine Below.alloc ?_ ?_ _; rotate_left; focus (first | exact Nat.le_refl _ | omega | (simp; omega) | (simp; done))))); with_reducible exact HB1.out⟩⟩
          case measure => simp [intOf]; omega
        · obtain rfl : k = j := by omega
          have rd := hS.out.1.reads
          have ft := hS.out.1.thawed
          have lW := hS.out.1.lt
          have rb := hS.out.2.1.reads
          have lP := hS.out.2.1.lt
          go_wp2
          refine bodyPost_ret (v := .tuple #[(ofN f k).val, .int .i64 0]) (by simp [results, Try.results17, go_sem, rd]) rfl ⟨rfl, ?_⟩
          (repeat (first | with_reducible refine Below.drew ?_ | with_reducible refine bdrewN ?_ _ | (with_reducible refine Below.setCell ?_ ?_ _; rotate_left; focus (first | exact Nat.le_refl _ | omega | (simp; omega) | (simp; done))) | (with_reducible refine Below.alloc ?_ ?_ _; rotate_left; focus (first | exact Nat.le_refl _ | omega | (simp; omega) | (simp; done))))); with_reducible exact hS.out.2.2
end Go.Proofs.Ytpdjooeogpidhaa
