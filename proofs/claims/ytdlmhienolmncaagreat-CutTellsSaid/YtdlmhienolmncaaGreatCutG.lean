/- Two decimals, boxes, matrices that are one are equal. -/
import Derived.Test.YtdlmhienolmncaaGreatTree
import Derived.Test.YtdlmhienolmncaaGreatRows
import Derived.WalkKit
import Derived.Laws.StructEq
import Derived.Test.YtdlmhienolmncaaGreatSameO
import Derived.Test.YtdlmhienolmncaaGreatCutD
namespace Go.Proofs.YtdlmhienolmncaaGreat
open Go.RowKit Dec

set_option maxRecDepth 100000 in
theorem eq_dec (d : Nat) (x : DV) (w : World) : (Op.equalIn (d + 1 + 1) 47 (.agg #[.int .i64 x.m, .int .i64 x.s]) (.agg #[.int .i64 x.m, .int .i64 x.s])).run Tryz.prog w = .ok true w := by
  rw [run_equalIn_struct w (d + 1) 47 _ _ (by kernel_rfl) (by kernel_rfl)]
  go_simp
set_option maxRecDepth 100000 in
theorem eq_box (x : BV) (w : World) : (Op.equalIn 10000 49 (.agg #[.int .i64 x.x0.m, .int .i64 x.x0.s, .int .i64 x.y0.m, .int .i64 x.y0.s, .int .i64 x.x1.m, .int .i64 x.x1.s, .int .i64 x.y1.m, .int .i64 x.y1.s]) (.agg #[.int .i64 x.x0.m, .int .i64 x.x0.s, .int .i64 x.y0.m, .int .i64 x.y0.s, .int .i64 x.x1.m, .int .i64 x.x1.s, .int .i64 x.y1.m, .int .i64 x.y1.s])).run Tryz.prog w = .ok true w := by
  have he := fun (a b : Int) (w : World) => eq_dec 9997 ⟨a, b⟩ w
  rw [show (10000 : Nat) = 9997 + 1 + 1 + 1 from rfl, run_equalIn_struct w (9997 + 1 + 1) 49 _ _ (by kernel_rfl) (by kernel_rfl)]
  go_simp
set_option maxRecDepth 100000 in
theorem eq_mat (x : MV) (w : World) : (Op.equalIn 10000 52 (.agg #[.int .i64 x.a.m, .int .i64 x.a.s, .int .i64 x.b.m, .int .i64 x.b.s, .int .i64 x.c.m, .int .i64 x.c.s, .int .i64 x.d.m, .int .i64 x.d.s, .int .i64 x.e.m, .int .i64 x.e.s, .int .i64 x.f.m, .int .i64 x.f.s]) (.agg #[.int .i64 x.a.m, .int .i64 x.a.s, .int .i64 x.b.m, .int .i64 x.b.s, .int .i64 x.c.m, .int .i64 x.c.s, .int .i64 x.d.m, .int .i64 x.d.s, .int .i64 x.e.m, .int .i64 x.e.s, .int .i64 x.f.m, .int .i64 x.f.s])).run Tryz.prog w = .ok true w := by
  have he := fun (a b : Int) (w : World) => eq_dec 9997 ⟨a, b⟩ w
  rw [show (10000 : Nat) = 9997 + 1 + 1 + 1 from rfl, run_equalIn_struct w (9997 + 1 + 1) 52 _ _ (by kernel_rfl) (by kernel_rfl)]
  go_simp
end Go.Proofs.YtdlmhienolmncaaGreat
/- Rows of marks that are alike are told to be the same. -/
namespace Go.Proofs.YtdlmhienolmncaaGreat
open Go.RowKit Dec

set_option maxRecDepth 100000 in
set_option maxHeartbeats 8000000 in
theorem same21_any (A : Option Addr) (n c : Nat) (A2 : Option Addr) (c2 : Nat) (l : List Mk) (w : World) (h : MarksAt w A n c l) (h2 : MarksAt w A2 n c2 l) :
    Calls Tryz.prog 11 #[.slice A n c, .slice A2 n c2] w (BoolTrue w) := by
  have hcap := h.row.cap
  have htop := h.row.top
  have hcap2 := h2.row.cap
  have htop2 := h2.row.top
  have HL := Lib.hid h.len
  have H := Lib.hid (And.intro h h2)
  clear h h2
  go_enter Tryz.func11, Tryz.ntmps11
  go_wp2_with fail
  go_loopw [5] (fun s5 wr => ∃ (i : Nat), i ≤ n ∧ s5 = .int .i64 (i : Int) ∧ Hid (Below w.heap.size w wr)) (fun s5 _ => n - (intOf s5).toNat)
  case atStart => exact ⟨0, by omega, rfl, Lib.hid (Below.refl _ _)⟩
  case round =>
    obtain ⟨i, hi, rfl, HB⟩ := hrel
    by_cases hlt : i < n
    · have d1 : decide ((i : Int) < (n : Int)) = true := decide_eq_true (by omega)
      obtain ⟨x, hx⟩ : ∃ x, l[i]? = some x := ⟨_, List.getElem?_eq_getElem (by rw [HL.out]; exact hlt)⟩
      obtain ⟨R, o, rfl, hR, hc, hns, ⟨ops, ho⟩, st, hs⟩ := (H.out.1.below HB.out).get hx
      obtain ⟨R2, o2, rfl, hR2, hc2, -⟩ := (H.out.2.below HB.out).get hx
      have b2 : (0 : Int) ≤ (i : Int) := by omega
      have b3 : (i : Int) < (n : Int) := by omega
      have HAT := Lib.hid (show ∀ (j : Nat) (u : Value), (mkA x).toList[j]? = some u → wr.cell? ⟨R, o + i * 25 + j, none⟩ = some u from hc)
      obtain ⟨w1, hw1⟩ : ∃ w1, wr.alloc (.cells (mkA x) 55) = w1 := ⟨_, rfl⟩
      have hb1 : Below wr.heap.size wr w1 := by rw [← hw1]; exact (Below.refl _ _).alloc (Nat.le_refl _) _
      have hW1 : Whole w1 wr.heap.size 55 (mkA x) := by rw [← hw1]; exact Whole.made _ _ _
      have HAT2 := Lib.hid (show ∀ (j : Nat) (u : Value), (mkA x).toList[j]? = some u → w1.cell? ⟨R2, o2 + i * 25 + j, none⟩ = some u from fun j u hu => (hb1.cell (p := ⟨R2, o2 + i * 25 + j, none⟩) hR2).trans (hc2 j u hu))
      obtain ⟨w2, hw2⟩ : ∃ w2, w1.alloc (.cells (mkA x) 55) = w2 := ⟨_, rfl⟩
      have hb2 : Below w1.heap.size w1 w2 := by rw [← hw2]; exact (Below.refl _ _).alloc (Nat.le_refl _) _
      have hW2 : Whole w2 w1.heap.size 55 (mkA x) := by rw [← hw2]; exact Whole.made _ _ _
      have hW12 := hW1.here hb2
      have hs1 := hb1.size
      have hs2 := hb2.size
      have l1 := hW12.lt
      have l2 := hW2.lt
      have HBZ := Lib.hid (HB.out.trans ((hb1.trans (hb2.mono hs1)).mono HB.out.size))
      have HW1 := Lib.hid hw1
      have HW2 := Lib.hid hw2
      have HO := Lib.hid (And.intro (ho.below (hb1.trans (hb2.mono hs1))) (hs.below (hb1.trans (hb2.mono hs1))))
      have HWW := Lib.hid (And.intro hW12 hW2)
      obtain ⟨⟨g0, g1, g2, g3, g4, g5, g6, g7, g8, g9, g10, g11, g12, g13, g14, g15, g16, g17, g18, g19, g20, g21, g22, g23, g24⟩, -⟩ := mkw_facts (x := x) hW12
      obtain ⟨⟨q0, q1, q2, q3, q4, q5, q6, q7, q8, q9, q10, q11, q12, q13, q14, q15, q16, q17, q18, q19, q20, q21, q22, q23, q24⟩, -⟩ := mkw_facts (x := x) hW2
      clear hc hc2 ho hs hx hb1 hb2 hW1 hW2 hW12 hw1 hw2
      have hem := fun w => eq_mat x.m w
      have heb := fun w => eq_box x.box w
      go_upto_region 8 with (first
        | (refine wpList_load_at rfl _ _ rfl R (o + i * 25) rfl (mkA x) _ HAT.out Tryz.underlying55 rfl (szMk x) ?_)
        | (refine wpList_load_at rfl _ _ rfl R2 (o2 + i * 25) rfl (mkA x) _ HAT2.out Tryz.underlying55 rfl (szMk x) ?_)
        | (refine wpList_store_let rfl _ _ _ rfl rfl _ _ (mkA x) HW1.out rfl rfl (szMk x) rfl (mkA_one x) ?_)
        | (refine wpList_store_let rfl _ _ _ rfl rfl _ _ (mkA x) HW2.out rfl rfl (szMk x) rfl (mkA_one x) ?_))
      go_wp2_with fail
      clear hem heb
      refine (same20_any _ _ _ _ _ ops w2 HO.out.1 HO.out.1).mono ?_
      rintro e w3 ⟨rfl, hb⟩
      have HB3 := Lib.hid (HBZ.out.trans (hb.mono HBZ.out.size))
      have hX1 := HWW.out.1.here hb
      have hX2 := HWW.out.2.here hb
      have j0 : w3.cell? ⟨wr.heap.size, 16, none⟩ = some (.slice x.st.A x.st.n x.st.c) := hX1.reads 16
      have j1 : w3.cell? ⟨w1.heap.size, 16, none⟩ = some (.slice x.st.A x.st.n x.st.c) := hX2.reads 16
      have l3 := hX1.lt
      have l4 := hX2.lt
      have HS := Lib.hid (HO.out.2.below hb)
      clear hb hX1 hX2 g0 g1 g2 g3 g4 g5 g6 g7 g8 g9 g10 g11 g12 g13 g14 g15 g16 g17 g18 g19 g20 g21 g22 g23 g24 q0 q1 q2 q3 q4 q5 q6 q7 q8 q9 q10 q11 q12 q13 q14 q15 q16 q17 q18 q19 q20 q21 q22 q23 q24
      go_wp2_with fail
      refine (same20_any _ _ _ _ _ st w3 HS.out HS.out).mono ?_
      rintro e w4 ⟨rfl, hb⟩
      have HB4 := Lib.hid (HB3.out.trans (hb.mono HB3.out.size))
      clear hb
      go_wp2_with fail
      go_roundw
      case rel => exact ⟨i + 1, by omega, by go_num, HB4⟩
      case measure => simp [intOf]; omega
    · obtain rfl : i = n := by omega
      have d1 : decide ((i : Int) < (i : Int)) = false := by simp
      go_wp2_with fail
      go_ret
      exact ⟨rfl, HB.out⟩
end Go.Proofs.YtdlmhienolmncaaGreat
