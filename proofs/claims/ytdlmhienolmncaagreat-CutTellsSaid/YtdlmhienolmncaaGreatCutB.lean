/- cut: does a box meet one of some? Does a mark stay? -/
import Derived.Test.YtdlmhienolmncaaGreatCutH
import Derived.Test.YtdlmhienolmncaaGreatBoxWalkB
import Derived.Test.YtdlmhienolmncaaGreatBoxBoth
namespace Go.Proofs.YtdlmhienolmncaaGreat
open Go.RowKit Dec

theorem bxw_facts {v : World} {g : Nat} {T : TypeId} {b : BV} (h : Whole v g T #[.int .i64 b.x0.m, .int .i64 b.x0.s, .int .i64 b.y0.m, .int .i64 b.y0.s, .int .i64 b.x1.m, .int .i64 b.x1.s, .int .i64 b.y1.m, .int .i64 b.y1.s]) : (v.cell? ⟨g, 0, none⟩ = some (.int .i64 b.x0.m) ∧ v.cell? ⟨g, 1, none⟩ = some (.int .i64 b.x0.s) ∧ v.cell? ⟨g, 2, none⟩ = some (.int .i64 b.y0.m) ∧ v.cell? ⟨g, 3, none⟩ = some (.int .i64 b.y0.s) ∧ v.cell? ⟨g, 4, none⟩ = some (.int .i64 b.x1.m) ∧ v.cell? ⟨g, 5, none⟩ = some (.int .i64 b.x1.s) ∧ v.cell? ⟨g, 6, none⟩ = some (.int .i64 b.y1.m) ∧ v.cell? ⟨g, 7, none⟩ = some (.int .i64 b.y1.s)) ∧ g < v.heap.size :=
  ⟨⟨h.reads 0, h.reads 1, h.reads 2, h.reads 3, h.reads 4, h.reads 5, h.reads 6, h.reads 7⟩, h.lt⟩
set_option maxRecDepth 100000 in
set_option maxHeartbeats 4000000 in
theorem meetC_any (a b : BV) (B : Nat) (w : World) (h : Whole w B 49 #[.int .i64 a.x0.m, .int .i64 a.x0.s, .int .i64 a.y0.m, .int .i64 a.y0.s, .int .i64 a.x1.m, .int .i64 a.x1.s, .int .i64 a.y1.m, .int .i64 a.y1.s]) :
    Calls Tryz.prog 50 #[b.val, .pointer (some ⟨B, 0, none⟩)] w fun e w' => e = .returned (.bool (meetsB a b)) ∧ Below w.heap.size w w' := by
  obtain ⟨⟨e0, e1, e2, e3, e4, e5, e6, e7⟩, e8⟩ := bxw_facts h
  have HB := Lib.hid ((Below.refl w.heap.size w).alloc (Nat.le_refl _) (.cells #[.int .i64 b.x0.m, .int .i64 b.x0.s, .int .i64 b.y0.m, .int .i64 b.y0.s, .int .i64 b.x1.m, .int .i64 b.x1.s, .int .i64 b.y1.m, .int .i64 b.y1.s] 49))
  clear h
  by_cases h : a.Ok ∧ b.Ok
  · have HM := Lib.hid (fun w => meets_any a b w (meetB a b) 0 (.inl ⟨h.1, h.2, rfl, rfl⟩))
    have HR := Lib.hid (meetsB_ok h.1 h.2)
    clear h
    unfold BV.val at HM ⊢
    cases hm : meetB a b
    all_goals
      rw [hm] at HM HR
      clear hm
      go_enter Tryz.func50, Tryz.ntmps50
      go_wp2_with fail
      refine (HM.out _).mono ?_
      rintro e w1 ⟨rfl, hb⟩
      have HB1 := Lib.hid (HB.out.trans (hb.mono HB.out.size))
      clear hb
      go_wp2_with fail
      go_ret
      rw [HR.out]
      exact ⟨rfl, HB1.out⟩
  · have HM := Lib.hid (fun w => meets_any a b w false 1 (.inr ⟨h, rfl, rfl⟩))
    have HR := Lib.hid (show meetsB a b = false by unfold meetsB; rw [decide_eq_false h, Bool.false_and])
    clear h
    unfold BV.val at HM ⊢
    go_enter Tryz.func50, Tryz.ntmps50
    go_wp2_with fail
    refine (HM.out _).mono ?_
    rintro e w1 ⟨rfl, hb⟩
    have HB1 := Lib.hid (HB.out.trans (hb.mono HB.out.size))
    clear hb
    go_wp2_with fail
    go_ret
    rw [HR.out]
    exact ⟨rfl, HB1.out⟩
set_option maxRecDepth 100000 in
set_option maxHeartbeats 4000000 in
theorem cindex_any (a : BV) (B : Nat) (A : Option Addr) (n c : Nat) (l : List BV) (w : World) (h : BxsAt w A n c l) (hB : Whole w B 49 #[.int .i64 a.x0.m, .int .i64 a.x0.s, .int .i64 a.y0.m, .int .i64 a.y0.s, .int .i64 a.x1.m, .int .i64 a.x1.s, .int .i64 a.y1.m, .int .i64 a.y1.s]) (hn : n ≤ 1000000) :
    Calls Tryz.prog 81 #[.slice A n c, .func (.func 50) #[] #[.pointer (some ⟨B, 0, none⟩)]] w fun e w' => ∃ r : Int, e = .returned (.int .i64 r) ∧ (l.any (meetsB a) = decide (0 ≤ r)) ∧ Below w.heap.size w w' := by
  have hcap := RowAt.cap h
  have htop := RowAt.top h
  have H := Lib.hid h
  have HW := Lib.hid hB
  have HL := Lib.hid h.len
  clear h hB
  go_enter Tryz.func81, Tryz.ntmps81
  go_wp2_with fail
  go_loopw [8] (fun i wr => ∃ k : Nat, i = .int .i64 (k : Int) ∧ k ≤ n ∧ Hid ((l.take k).any (meetsB a) = false) ∧ Hid (Below w.heap.size w wr)) (fun i _ => n - (intOf i).toNat)
  case atStart => exact ⟨0, rfl, by omega, Lib.hid rfl, Lib.hid (Below.refl _ _)⟩
  case round =>
    obtain ⟨k, rfl, hk, HA, HB⟩ := hrel
    by_cases hlt : k < n
    · have d1 : decide ((k : Int) < (n : Int)) = true := decide_eq_true (by omega)
      obtain ⟨b, hb⟩ : ∃ b, l[k]? = some b := ⟨_, List.getElem?_eq_getElem (by rw [HL.out]; exact hlt)⟩
      obtain ⟨R2, o2, rfl, hR2, c0, c1, c3, c4, c5, c6, c7, c8⟩ := (H.out.below HB.out).get hb
      have HC := Lib.hid (fun w h => meetC_any a b B w h)
      have HS := Lib.hid (show (l.take (k + 1)).any (meetsB a) = meetsB a b by
        rw [List.take_add_one, hb, List.any_append, HA.out, Bool.false_or]
        show (List.any [b] _) = _
        simp)
      have HM := Lib.hid (List.mem_of_getElem? hb)
      obtain ⟨r, hr⟩ : ∃ r, meetsB a b = r := ⟨_, rfl⟩
      rw [hr] at HC HS
      have HR := Lib.hid hr
      have e8 := (HW.out.here HB.out).lt
      clear hb hr
      unfold BV.val at HC
      go_wp2_with fail
      refine (HC.out _ (HW.out.here HB.out)).mono ?_
      rintro e w2 ⟨rfl, hb⟩
      have HB2 := Lib.hid (HB.out.trans (hb.mono HB.out.size))
      clear hb c0 c1 c3 c4 c5 c6 c7 c8
      cases r
      · go_wp2_with fail
        go_roundw
        case rel => exact ⟨k + 1, by go_num, by omega, HS, HB2⟩
        case measure => simp [intOf]; omega
      · go_wp2_with fail
        go_ret
        exact ⟨(k : Int), rfl, by rw [decide_eq_true (by omega : (0 : Int) ≤ (k : Int))]; exact List.any_eq_true.2 ⟨b, HM.out, HR.out⟩, HB2.out⟩
    · obtain rfl : k = n := by omega
      have d1 : decide ((k : Int) < (k : Int)) = false := by simp
      have hall : l.any (meetsB a) = false := by
        have := HA.out
        rwa [List.take_of_length_le (by rw [HL.out]; exact Nat.le_refl _)] at this
      have HALL := Lib.hid hall
      clear hall
      go_wp2_with fail
      go_ret
      exact ⟨-1, rfl, by rw [HALL.out]; rfl, HB.out⟩
set_option maxRecDepth 100000 in
theorem ccontains_any (a : BV) (B : Nat) (A : Option Addr) (n c : Nat) (l : List BV) (w : World) (h : BxsAt w A n c l) (hB : Whole w B 49 #[.int .i64 a.x0.m, .int .i64 a.x0.s, .int .i64 a.y0.m, .int .i64 a.y0.s, .int .i64 a.x1.m, .int .i64 a.x1.s, .int .i64 a.y1.m, .int .i64 a.y1.s]) (hn : n ≤ 1000000) :
    Calls Tryz.prog 49 #[.slice A n c, .func (.func 50) #[] #[.pointer (some ⟨B, 0, none⟩)]] w fun e w' => e = .returned (.bool (l.any (meetsB a))) ∧ Below w.heap.size w w' := by
  have HI := Lib.hid (cindex_any a B A n c l w h hB hn)
  clear h hB
  go_enter Tryz.func49, Tryz.ntmps49
  go_wp2_with fail
  refine HI.out.mono ?_
  rintro e w1 ⟨r, rfl, hr, hb⟩
  have HB := Lib.hid hb
  have HR := Lib.hid hr
  clear hb hr
  go_wp2_with fail
  go_ret
  exact ⟨by rw [HR.out]; rfl, HB.out⟩
set_option maxRecDepth 100000 in
theorem meetsAny_any (a : BV) (A : Option Addr) (n c : Nat) (l : List BV) (w : World) (h : BxsAt w A n c l) (hn : n ≤ 1000000) :
    Calls Tryz.prog 26 #[a.val, .slice A n c] w fun e w' => e = .returned (.bool (l.any (meetsB a))) ∧ Below w.heap.size w w' := by
  have hb0 : Below w.heap.size w (w.alloc (.cells #[.int .i64 a.x0.m, .int .i64 a.x0.s, .int .i64 a.y0.m, .int .i64 a.y0.s, .int .i64 a.x1.m, .int .i64 a.x1.s, .int .i64 a.y1.m, .int .i64 a.y1.s] 49)) := (Below.refl w.heap.size w).alloc (Nat.le_refl _) _
  have HI := Lib.hid (ccontains_any a w.heap.size A n c l _ (h.below hb0) (Whole.made w 49 #[.int .i64 a.x0.m, .int .i64 a.x0.s, .int .i64 a.y0.m, .int .i64 a.y0.s, .int .i64 a.x1.m, .int .i64 a.x1.s, .int .i64 a.y1.m, .int .i64 a.y1.s]) hn)
  have HB := Lib.hid hb0
  clear h hb0
  unfold BV.val
  go_enter Tryz.func26, Tryz.ntmps26
  go_wp2_with fail
  refine HI.out.mono ?_
  rintro e w1 ⟨rfl, hb⟩
  have HB1 := Lib.hid (HB.out.trans (hb.mono HB.out.size))
  clear hb
  go_wp2_with fail
  go_ret
  exact ⟨rfl, HB1.out⟩
end Go.Proofs.YtdlmhienolmncaaGreat
/- cut: Cut. -/
namespace Go.Proofs.YtdlmhienolmncaaGreat
open Go.RowKit Dec

theorem MkAt.cells {w : World} {R o : Nat} {x : Mk} (h : MkAt w R o x) : w.cell? ⟨R, o, none⟩ = some (.int .i64 x.kind) ∧ w.cell? ⟨R, o + 1, none⟩ = some (.int .i64 x.m.a.m) ∧ w.cell? ⟨R, o + 2, none⟩ = some (.int .i64 x.m.a.s) ∧ w.cell? ⟨R, o + 3, none⟩ = some (.int .i64 x.m.b.m) ∧ w.cell? ⟨R, o + 4, none⟩ = some (.int .i64 x.m.b.s) ∧ w.cell? ⟨R, o + 5, none⟩ = some (.int .i64 x.m.c.m) ∧ w.cell? ⟨R, o + 6, none⟩ = some (.int .i64 x.m.c.s) ∧ w.cell? ⟨R, o + 7, none⟩ = some (.int .i64 x.m.d.m) ∧ w.cell? ⟨R, o + 8, none⟩ = some (.int .i64 x.m.d.s) ∧ w.cell? ⟨R, o + 9, none⟩ = some (.int .i64 x.m.e.m) ∧ w.cell? ⟨R, o + 10, none⟩ = some (.int .i64 x.m.e.s) ∧ w.cell? ⟨R, o + 11, none⟩ = some (.int .i64 x.m.f.m) ∧ w.cell? ⟨R, o + 12, none⟩ = some (.int .i64 x.m.f.s) ∧ w.cell? ⟨R, o + 13, none⟩ = some (.string x.name) ∧ w.cell? ⟨R, o + 14, none⟩ = some (.int .i64 x.code) ∧ w.cell? ⟨R, o + 15, none⟩ = some (.slice x.ops.A x.ops.n x.ops.c) ∧ w.cell? ⟨R, o + 16, none⟩ = some (.slice x.st.A x.st.n x.st.c) ∧ w.cell? ⟨R, o + 17, none⟩ = some (.int .i64 x.box.x0.m) ∧ w.cell? ⟨R, o + 18, none⟩ = some (.int .i64 x.box.x0.s) ∧ w.cell? ⟨R, o + 19, none⟩ = some (.int .i64 x.box.y0.m) ∧ w.cell? ⟨R, o + 20, none⟩ = some (.int .i64 x.box.y0.s) ∧ w.cell? ⟨R, o + 21, none⟩ = some (.int .i64 x.box.x1.m) ∧ w.cell? ⟨R, o + 22, none⟩ = some (.int .i64 x.box.x1.s) ∧ w.cell? ⟨R, o + 23, none⟩ = some (.int .i64 x.box.y1.m) ∧ w.cell? ⟨R, o + 24, none⟩ = some (.int .i64 x.box.y1.s) :=
  ⟨h 0 _ rfl, h 1 _ rfl, h 2 _ rfl, h 3 _ rfl, h 4 _ rfl, h 5 _ rfl, h 6 _ rfl, h 7 _ rfl, h 8 _ rfl, h 9 _ rfl, h 10 _ rfl, h 11 _ rfl, h 12 _ rfl, h 13 _ rfl, h 14 _ rfl, h 15 _ rfl, h 16 _ rfl, h 17 _ rfl, h 18 _ rfl, h 19 _ rfl, h 20 _ rfl, h 21 _ rfl, h 22 _ rfl, h 23 _ rfl, h 24 _ rfl⟩
theorem mkw_facts {w : World} {B : Nat} {T : TypeId} {x : Mk} (h : Whole w B T #[.int .i64 x.kind, .int .i64 x.m.a.m, .int .i64 x.m.a.s, .int .i64 x.m.b.m, .int .i64 x.m.b.s, .int .i64 x.m.c.m, .int .i64 x.m.c.s, .int .i64 x.m.d.m, .int .i64 x.m.d.s, .int .i64 x.m.e.m, .int .i64 x.m.e.s, .int .i64 x.m.f.m, .int .i64 x.m.f.s, .string x.name, .int .i64 x.code, .slice x.ops.A x.ops.n x.ops.c, .slice x.st.A x.st.n x.st.c, .int .i64 x.box.x0.m, .int .i64 x.box.x0.s, .int .i64 x.box.y0.m, .int .i64 x.box.y0.s, .int .i64 x.box.x1.m, .int .i64 x.box.x1.s, .int .i64 x.box.y1.m, .int .i64 x.box.y1.s]) : (w.cell? ⟨B, 0, none⟩ = some (.int .i64 x.kind) ∧ w.cell? ⟨B, 1, none⟩ = some (.int .i64 x.m.a.m) ∧ w.cell? ⟨B, 2, none⟩ = some (.int .i64 x.m.a.s) ∧ w.cell? ⟨B, 3, none⟩ = some (.int .i64 x.m.b.m) ∧ w.cell? ⟨B, 4, none⟩ = some (.int .i64 x.m.b.s) ∧ w.cell? ⟨B, 5, none⟩ = some (.int .i64 x.m.c.m) ∧ w.cell? ⟨B, 6, none⟩ = some (.int .i64 x.m.c.s) ∧ w.cell? ⟨B, 7, none⟩ = some (.int .i64 x.m.d.m) ∧ w.cell? ⟨B, 8, none⟩ = some (.int .i64 x.m.d.s) ∧ w.cell? ⟨B, 9, none⟩ = some (.int .i64 x.m.e.m) ∧ w.cell? ⟨B, 10, none⟩ = some (.int .i64 x.m.e.s) ∧ w.cell? ⟨B, 11, none⟩ = some (.int .i64 x.m.f.m) ∧ w.cell? ⟨B, 12, none⟩ = some (.int .i64 x.m.f.s) ∧ w.cell? ⟨B, 13, none⟩ = some (.string x.name) ∧ w.cell? ⟨B, 14, none⟩ = some (.int .i64 x.code) ∧ w.cell? ⟨B, 15, none⟩ = some (.slice x.ops.A x.ops.n x.ops.c) ∧ w.cell? ⟨B, 16, none⟩ = some (.slice x.st.A x.st.n x.st.c) ∧ w.cell? ⟨B, 17, none⟩ = some (.int .i64 x.box.x0.m) ∧ w.cell? ⟨B, 18, none⟩ = some (.int .i64 x.box.x0.s) ∧ w.cell? ⟨B, 19, none⟩ = some (.int .i64 x.box.y0.m) ∧ w.cell? ⟨B, 20, none⟩ = some (.int .i64 x.box.y0.s) ∧ w.cell? ⟨B, 21, none⟩ = some (.int .i64 x.box.x1.m) ∧ w.cell? ⟨B, 22, none⟩ = some (.int .i64 x.box.x1.s) ∧ w.cell? ⟨B, 23, none⟩ = some (.int .i64 x.box.y1.m) ∧ w.cell? ⟨B, 24, none⟩ = some (.int .i64 x.box.y1.s)) ∧ B < w.heap.size :=
  ⟨⟨h.reads 0, h.reads 1, h.reads 2, h.reads 3, h.reads 4, h.reads 5, h.reads 6, h.reads 7, h.reads 8, h.reads 9, h.reads 10, h.reads 11, h.reads 12, h.reads 13, h.reads 14, h.reads 15, h.reads 16, h.reads 17, h.reads 18, h.reads 19, h.reads 20, h.reads 21, h.reads 22, h.reads 23, h.reads 24⟩, h.lt⟩
set_option maxRecDepth 100000 in
set_option maxHeartbeats 4000000 in
theorem cut1_any (x : Mk) (B : Nat) (A : Option Addr) (n c : Nat) (rs : List BV) (w : World) (h : BxsAt w A n c rs) (hB : Whole w B 23 #[.slice A n c]) (hn : n ≤ 1000000) :
    Calls Tryz.prog 25 #[.agg #[.int .i64 x.kind, .int .i64 x.m.a.m, .int .i64 x.m.a.s, .int .i64 x.m.b.m, .int .i64 x.m.b.s, .int .i64 x.m.c.m, .int .i64 x.m.c.s, .int .i64 x.m.d.m, .int .i64 x.m.d.s, .int .i64 x.m.e.m, .int .i64 x.m.e.s, .int .i64 x.m.f.m, .int .i64 x.m.f.s, .string x.name, .int .i64 x.code, .slice x.ops.A x.ops.n x.ops.c, .slice x.st.A x.st.n x.st.c, .int .i64 x.box.x0.m, .int .i64 x.box.x0.s, .int .i64 x.box.y0.m, .int .i64 x.box.y0.s, .int .i64 x.box.x1.m, .int .i64 x.box.x1.s, .int .i64 x.box.y1.m, .int .i64 x.box.y1.s], .pointer (some ⟨B, 0, none⟩)] w fun e w' => e = .returned (.bool (stays rs x)) ∧ Below w.heap.size w w' := by
  have hb0 : Below w.heap.size w (w.alloc (.cells #[.int .i64 x.kind, .int .i64 x.m.a.m, .int .i64 x.m.a.s, .int .i64 x.m.b.m, .int .i64 x.m.b.s, .int .i64 x.m.c.m, .int .i64 x.m.c.s, .int .i64 x.m.d.m, .int .i64 x.m.d.s, .int .i64 x.m.e.m, .int .i64 x.m.e.s, .int .i64 x.m.f.m, .int .i64 x.m.f.s, .string x.name, .int .i64 x.code, .slice x.ops.A x.ops.n x.ops.c, .slice x.st.A x.st.n x.st.c, .int .i64 x.box.x0.m, .int .i64 x.box.x0.s, .int .i64 x.box.y0.m, .int .i64 x.box.y0.s, .int .i64 x.box.x1.m, .int .i64 x.box.x1.s, .int .i64 x.box.y1.m, .int .i64 x.box.y1.s] 55)) := (Below.refl w.heap.size w).alloc (Nat.le_refl _) _
  have HM := Lib.hid (fun w' (hb : Below w.heap.size w w') => meetsAny_any x.box A n c rs w' (h.below hb) hn)
  have HB := Lib.hid hb0
  have c0 := hB.reads 0
  have lB := hB.lt
  clear h hB hb0
  unfold BV.val at HM
  by_cases hk : x.kind = 3
  · by_cases hz : x.name.size = 0
    · have hz2 := empty_text hz
      have HI := Lib.hid (show stays rs x = !(rs.any (meetsB x.box)) by unfold stays imgB; rw [hz]; simp)
      have d1 : (x.kind == 3) = true := by simp [hk]
      clear hz hk
      go_enter Tryz.func25, Tryz.ntmps25
      go_wp2_with fail
      refine (HM.out _ HB.out).mono ?_
      rintro e w1 ⟨rfl, hb⟩
      have HB1 := Lib.hid (HB.out.trans (hb.mono HB.out.size))
      clear hb
      go_wp2_with fail
      go_ret
      exact ⟨by rw [HI.out]; rfl, HB1.out⟩
    · have hz2 := full_text (s := x.name) (by omega)
      have HI := Lib.hid (show stays rs x = true by unfold stays imgB; rw [decide_eq_true hk]; simp [hz])
      have d1 : (x.kind == 3) = true := by simp [hk]
      clear hz hk
      go_enter Tryz.func25, Tryz.ntmps25
      go_wp2_with fail
      go_ret
      exact ⟨by rw [HI.out]; rfl, HB.out⟩
  · have HI := Lib.hid (show stays rs x = !(rs.any (meetsB x.box)) by unfold stays imgB; rw [decide_eq_false hk]; simp)
    have d1 : (x.kind == 3) = false := by simp [hk]
    clear hk
    go_enter Tryz.func25, Tryz.ntmps25
    go_wp2_with fail
    refine (HM.out _ HB.out).mono ?_
    rintro e w1 ⟨rfl, hb⟩
    have HB1 := Lib.hid (HB.out.trans (hb.mono HB.out.size))
    clear hb
    go_wp2_with fail
    go_ret
    exact ⟨by rw [HI.out]; rfl, HB1.out⟩
end Go.Proofs.YtdlmhienolmncaaGreat
