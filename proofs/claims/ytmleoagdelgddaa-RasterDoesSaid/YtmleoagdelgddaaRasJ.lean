/- raster: is there a box that meets another one? -/
import Derived.Test.YtmleoagdelgddaaRasH
namespace Go.Proofs.Ytmleoagdelgddaa
open Go.RowKit Dec

set_option maxRecDepth 100000 in
theorem covered1_any (a b : BV) (B : Nat) (w : World) (h : Whole w B 52 #[.int .i64 a.x0.m, .int .i64 a.x0.s, .int .i64 a.y0.m, .int .i64 a.y0.s, .int .i64 a.x1.m, .int .i64 a.x1.s, .int .i64 a.y1.m, .int .i64 a.y1.s]) :
    Calls Try.prog 59 #[b.val, .pointer (some ⟨B, 0, none⟩)] w fun e w' => e = .returned (.bool (meetsB a b)) ∧ Below w.heap.size w w' := by
  have HM := Lib.hid (fun w => meets_ras a b w)
  obtain ⟨⟨e0, e1, e2, e3, e4, e5, e6, e7⟩, e8⟩ := eight_facts h
  have HB := Lib.hid ((Below.refl w.heap.size w).alloc (Nat.le_refl _) (.cells #[.int .i64 b.x0.m, .int .i64 b.x0.s, .int .i64 b.y0.m, .int .i64 b.y0.s, .int .i64 b.x1.m, .int .i64 b.x1.s, .int .i64 b.y1.m, .int .i64 b.y1.s] 52))
  obtain ⟨r, hr⟩ : ∃ r, meetsB a b = r := ⟨_, rfl⟩
  rw [hr] at HM ⊢
  clear h hr
  unfold BV.val at HM ⊢
  go_enter Try.func59, Try.ntmps59
  go_wp2_with fail
  refine (HM.out _).mono ?_
  rintro e w1 ⟨rfl, hb⟩
  have HB1 := Lib.hid (HB.out.trans (hb.mono HB.out.size))
  clear hb
  go_wp2_with fail
  go_ret
  exact ⟨rfl, HB1.out⟩
theorem cov_enters (args : Array Value) (w : World) : (callFunc 59 args).run Try.prog w = .ok (.enter 59 args) w := rfl
set_option maxRecDepth 100000 in
set_option maxHeartbeats 4000000 in
theorem index_any (a : BV) (B : Nat) (A : Option Addr) (n c : Nat) (l : List BV) (w : World) (h : BxsAt w A n c l) (hB : Whole w B 52 #[.int .i64 a.x0.m, .int .i64 a.x0.s, .int .i64 a.y0.m, .int .i64 a.y0.s, .int .i64 a.x1.m, .int .i64 a.x1.s, .int .i64 a.y1.m, .int .i64 a.y1.s]) (hn : n ≤ 1000) :
    Calls Try.prog 75 #[.slice A n c, .func (.func 59) #[] #[.pointer (some ⟨B, 0, none⟩)]] w fun e w' => ∃ r : Int, e = .returned (.int .i64 r) ∧ (l.any (meetsB a) = decide (0 ≤ r)) ∧ Below w.heap.size w w' := by
  have hcap := h.cap
  have htop := h.top
  have H := Lib.hid h
  have HW := Lib.hid hB
  have HL := Lib.hid h.len
  clear h hB
  go_enter Try.func75, Try.ntmps75
  go_wp2_with fail
  go_loopw [8] (fun i wr => ∃ k : Nat, i = .int .i64 (k : Int) ∧ k ≤ n ∧ Hid ((l.take k).any (meetsB a) = false) ∧ Hid (Below w.heap.size w wr)) (fun i _ => n - (intOf i).toNat)
  case atStart => exact ⟨0, rfl, by omega, Lib.hid rfl, Lib.hid (Below.refl _ _)⟩
  case round =>
    obtain ⟨k, rfl, hk, HA, HB⟩ := hrel
    by_cases hlt : k < n
    · have d1 : decide ((k : Int) < (n : Int)) = true := decide_eq_true (by omega)
      obtain ⟨b, hb⟩ : ∃ b, l[k]? = some b := ⟨_, List.getElem?_eq_getElem (by rw [HL.out]; exact hlt)⟩
      obtain ⟨R2, o2, rfl, hR2, hcell⟩ := (H.out.below HB.out).at_ (by omega)
      obtain ⟨c0, c1, c3, c4, c5, c6, c7, c8⟩ := (hcell k b hb).cells
      have HC := Lib.hid (fun w h => covered1_any a b B w h)
      have HS := Lib.hid (show (l.take (k + 1)).any (meetsB a) = meetsB a b by
        rw [List.take_add_one, hb, List.any_append, HA.out, Bool.false_or]
        show (List.any [b] _) = _
        simp)
      have HM := Lib.hid (List.mem_of_getElem? hb)
      obtain ⟨r, hr⟩ : ∃ r, meetsB a b = r := ⟨_, rfl⟩
      rw [hr] at HC HS
      have HR := Lib.hid hr
      have e8 := (HW.out.here HB.out).lt
      clear hcell hb hr
      unfold BV.val at HC
      go_wp2_with fail
      refine (HC.out _ (HW.out.here HB.out)).mono ?_
      rintro e w2 ⟨rfl, hb⟩
      have HB2 := Lib.hid (HB.out.trans (hb.mono HB.out.size))
      clear hb c0 c1 c3 c4 c5 c6 c7 c8
      cases r
      · go_wp2_with fail
        go_roundw
        case rel => exact ⟨k + 1, by go_num, by omega, HS, HB2⟩
        case measure => simp [intOf]; omega
      · go_wp2_with fail
        go_ret
        exact ⟨(k : Int), rfl, by rw [decide_eq_true (by omega : (0 : Int) ≤ (k : Int))]; exact List.any_eq_true.2 ⟨b, HM.out, HR.out⟩, HB2.out⟩
    · obtain rfl : k = n := by omega
      have d1 : decide ((k : Int) < (k : Int)) = false := by simp
      have hall : l.any (meetsB a) = false := by
        have := HA.out
        rwa [List.take_of_length_le (by rw [HL.out]; exact Nat.le_refl _)] at this
      have HALL := Lib.hid hall
      clear hall
      go_wp2_with fail
      go_ret
      exact ⟨-1, rfl, by rw [HALL.out]; rfl, HB.out⟩
set_option maxRecDepth 100000 in
theorem contains_any (a : BV) (B : Nat) (A : Option Addr) (n c : Nat) (l : List BV) (w : World) (h : BxsAt w A n c l) (hB : Whole w B 52 #[.int .i64 a.x0.m, .int .i64 a.x0.s, .int .i64 a.y0.m, .int .i64 a.y0.s, .int .i64 a.x1.m, .int .i64 a.x1.s, .int .i64 a.y1.m, .int .i64 a.y1.s]) (hn : n ≤ 1000) :
    Calls Try.prog 58 #[.slice A n c, .func (.func 59) #[] #[.pointer (some ⟨B, 0, none⟩)]] w fun e w' => e = .returned (.bool (l.any (meetsB a))) ∧ Below w.heap.size w w' := by
  have HI := Lib.hid (index_any a B A n c l w h hB hn)
  clear h hB
  go_enter Try.func58, Try.ntmps58
  go_wp2_with fail
  refine HI.out.mono ?_
  rintro e w1 ⟨r, rfl, hr, hb⟩
  have HB := Lib.hid hb
  have HR := Lib.hid hr
  clear hb hr
  go_wp2_with fail
  go_ret
  exact ⟨by rw [HR.out]; rfl, HB.out⟩
end Go.Proofs.Ytmleoagdelgddaa
