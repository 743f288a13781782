/- Objects: the reference's size, Few: they answer. -/
import Derived.Test.YtdlmhienolmncaaLaidObj
import Derived.Test.YtdlmhienolmncaaRows
import Derived.WalkKit
import Derived.WalkSpells
import Derived.Outline
import Derived.IntWalk
import Derived.Lib.Hide
namespace Go.Proofs.Ytdlmhienolmncaa
open Go.RowKit

def OV.parts' : OV → List OV
  | .mk _ _ _ _ _ ps _ _ => ps
theorem ObjIs.nine {w : World} {x : OV} {cs : List Value} (h : ObjIs w x cs) : ∃ (k : Int) (b : Bool) (m s : Int) (t : ByteArray) (A : Option Addr) (n c : Nat) (A2 : Option Addr) (n2 c2 : Nat) (r : Int) (keys : List ByteArray), cs = [.int .i64 k, .bool b, .int .i64 m, .int .i64 s, .string t, .slice A n c, .slice A2 n2 c2, .int .i64 r] ∧ t.size ≤ 9223372036854775807 ∧ StrsAt w A2 n2 c2 keys ∧ x.parts'.length = n ∧ n ≤ c ∧ c ≤ 9223372036854775807 ∧
    (0 < n → ∃ (R o : Nat) (F : Nat → List Value), A = some ⟨R, o, none⟩ ∧ R < w.heap.size ∧ (∀ (i : Nat) (y : OV), x.parts'[i]? = some y → ∀ (j : Nat) (u : Value), (F i)[j]? = some u → w.cell? ⟨R, o + i * 8 + j, none⟩ = some u) ∧ ∀ (i : Nat) (y : OV), x.parts'[i]? = some y → ObjIs w y (F i)) := by
  cases h with
  | mk R o F ht hk hlen hcap htop hnil hA hF hin => exact ⟨_, _, _, _, _, _, _, _, _, _, _, _, _, rfl, ht, hk, hlen, hcap, htop, fun hn => ⟨R, o, F, (hA hn).1, (hA hn).2, hF, hin⟩⟩
theorem StrsAt.get {w : World} {A : Option Addr} {n c : Nat} {l : List ByteArray} (h : StrsAt w A n c l) {i : Nat} (hi : i < n) : ∃ (R o : Nat) (x : ByteArray), A = some ⟨R, o, none⟩ ∧ R < w.heap.size ∧ l[i]? = some x ∧ x.size ≤ 9223372036854775807 ∧ w.cell? ⟨R, o + i, none⟩ = some (.string x) := by
  obtain ⟨R, o, e, hR, hc⟩ := h.at_ (by omega)
  obtain ⟨x, hx⟩ : ∃ x, l[i]? = some x := ⟨_, List.getElem?_eq_getElem (by rw [h.len]; exact hi)⟩
  exact ⟨R, o, x, e, hR, hx, h.text x (List.mem_of_getElem? hx), hc i x hx⟩
/-- A call that answers some number, and turns nothing that was there. -/
def SomeInt (w : World) (e : Ending) (w' : World) : Prop := ∃ r : Int, e = .returned (.int .i64 r) ∧ Below w.heap.size w w'
def SomeBool (w : World) (e : Ending) (w' : World) : Prop := ∃ r : Bool, e = .returned (.bool r) ∧ Below w.heap.size w w'
set_option maxRecDepth 100000 in
set_option maxHeartbeats 4000000 in
theorem rsize_any : ∀ (f : Nat) (x : OV) (cs : List Value) (w : World), f ≤ 45 → ObjIs w x cs →
    Calls Try.prog 79 #[.agg cs.toArray, .int .i64 (f : Int)] w (SomeInt w)
  | f, x, cs, w, hf, h => by
    obtain ⟨k, b, m, s, t, A, n, c, A2, n2, c2, r, keys, rfl, ht, hk, hn, hcap, htop, hp⟩ := h.nine
    have hcap2 := hk.cap
    have htop2 := hk.top
    have HP := Lib.hid hp
    have HK := Lib.hid hk
    have HN := Lib.hid hn
    have HW := Lib.hid (Whole.made w 98 #[.int .i64 k, .bool b, .int .i64 m, .int .i64 s, .string t, .slice A n c, .slice A2 n2 c2, .int .i64 r])
    have HV := Lib.hid ((Below.refl w.heap.size w).alloc (Nat.le_refl _) (.cells #[.int .i64 k, .bool b, .int .i64 m, .int .i64 s, .string t, .slice A n c, .slice A2 n2 c2, .int .i64 r] 98))
    have HR : Hid (∀ (g : Nat), f = g + 1 → ∀ (y : OV) (ds : List Value) (w : World), ObjIs w y ds → Calls Try.prog 79 #[.agg ds.toArray, .int .i64 (g : Int)] w (SomeInt w)) := Lib.hid (fun g hg y ds w h => rsize_any g y ds w (by omega) h)
    clear h hk hn hp
    go_enter Try.func79, Try.ntmps79
    go_wp2_with fail
    go_loopw [5, 6] (fun s5 s6 wr => ∃ (i : Nat) (X : Int), i ≤ n2 ∧ s6 = .int .i64 (i : Int) ∧ s5 = .int .i64 X ∧ Hid (Below (w.heap.size + 1) (w.alloc (.cells #[.int .i64 k, .bool b, .int .i64 m, .int .i64 s, .string t, .slice A n c, .slice A2 n2 c2, .int .i64 r] 98)) wr)) (fun _ s6 _ => n2 - (intOf s6).toNat)
    case atStart => exact ⟨0, _, by omega, rfl, rfl, Lib.hid (Below.refl _ _)⟩
    case round =>
      obtain ⟨i, X, hi, rfl, rfl, HB⟩ := hrel
      have hW := HW.out.later HB.out (by omega)
      have c5 := hW.reads 5
      have c6 := hW.reads 6
      have lW := hW.lt
      have hbw := HV.out.trans (HB.out.mono (by omega))
      have HBW := Lib.hid hbw
      by_cases hlt : i < n2
      · have d1 : decide ((i : Int) < (n2 : Int)) = true := decide_eq_true (by omega)
        obtain ⟨R, o, y, rfl, hR, -, hy, hcell⟩ := (HK.out.below hbw).get hlt
        have b2 : (0 : Int) ≤ (i : Int) := by omega
        have b3 : (i : Int) < (n2 : Int) := by omega
        obtain ⟨z, hz⟩ : ∃ z, IntKind.i64.wrap (X + (y.size : Int)) = z := ⟨_, rfl⟩
        clear hbw hW
        by_cases hzz : z < 5000
        · have m1 : decide (z < 5000) = true := decide_eq_true hzz
          have m2 : min z 5000 = z := by omega
          go_wp2_with fail
          go_roundw
          case rel => exact ⟨i + 1, _, by omega, by go_num, rfl, HB⟩
          case measure => simp [intOf]; omega
        · have m1 : decide (z < 5000) = false := decide_eq_false hzz
          have m2 : min z 5000 = 5000 := by omega
          go_wp2_with fail
          go_roundw
          case rel => exact ⟨i + 1, _, by omega, by go_num, rfl, HB⟩
          case measure => simp [intOf]; omega
      · obtain rfl : i = n2 := by omega
        have d1 : decide ((i : Int) < (i : Int)) = false := by simp
        clear hbw hW
        by_cases hf0 : f = 0
        · have e1 : ((f : Int) == 0) = true := by simp; omega
          have e2 : (f : Int) = 0 := by omega
          go_wp2_with fail
          go_ret
          exact ⟨_, rfl, HBW.out⟩
        · obtain ⟨g, hg⟩ : ∃ g, f = g + 1 := ⟨f - 1, by omega⟩
          have HRR := Lib.hid (HR.out g hg)
          have e1 : ((f : Int) == 0) = false := by simp; omega
          have e2 : ¬ (f : Int) = 0 := by omega
          have e3 : ¬ f = 0 := by omega
          have e4 : IntKind.i64.wrap ((f : Int) - 1) = (g : Int) := by rw [IntKind.wrap_i64]; omega
          clear hg HR hf0
          obtain ⟨wa, hwa⟩ : ∃ wa, wa = wr := ⟨_, rfl⟩
          have HA := Lib.hid (show Below (w.heap.size + 1) (w.alloc (.cells #[.int .i64 k, .bool b, .int .i64 m, .int .i64 s, .string t, .slice A n c, .slice A2 i c2, .int .i64 r] 98)) wa by rw [hwa]; exact HB.out)
          rw [← hwa] at c5 c6 lW ⊢
          clear hwa HB HBW
          go_wp2_with fail
          go_loopw [5, 7] (fun s5 s6 wr => ∃ (j : Nat) (X : Int), j ≤ n ∧ s6 = .int .i64 (j : Int) ∧ s5 = .int .i64 X ∧ Hid (Below (w.heap.size + 1) (w.alloc (.cells #[.int .i64 k, .bool b, .int .i64 m, .int .i64 s, .string t, .slice A n c, .slice A2 i c2, .int .i64 r] 98)) wr)) (fun _ s6 _ => n - (intOf s6).toNat)
          case atStart => exact ⟨0, _, by omega, rfl, rfl, HA⟩
          case round =>
            clear c5 c6 lW HA
            obtain ⟨j, X, hj, rfl, rfl, HB⟩ := hrel
            have hW := HW.out.later HB.out (by omega)
            have c5 := hW.reads 5
            have c6 := hW.reads 6
            have lW := hW.lt
            have hbw := HV.out.trans (HB.out.mono (by omega))
            have HBW := Lib.hid hbw
            by_cases hlt : j < n
            · have d1 : decide ((j : Int) < (n : Int)) = true := decide_eq_true (by omega)
              by_cases hX : X ≤ 2000
              · obtain ⟨R, o, F, rfl, hR, hF, hin⟩ := HP.out (by omega)
                obtain ⟨y, hy⟩ : ∃ y, x.parts'[j]? = some y := ⟨_, List.getElem?_eq_getElem (by rw [HN.out]; exact hlt)⟩
                have hoy := hin j y hy
                have hfy := hF j y hy
                have HO := Lib.hid (hoy.later hbw)
                obtain ⟨k1, b1, m1, s1, t1, A1, n1, c1, A3, n3, c3, r1, keys1, he, -⟩ := hoy.nine
                rw [he] at hfy HO
                have g0 := (hbw.cell (p := ⟨R, o + j * 8 + 0, none⟩) hR).trans (hfy 0 _ rfl)
                have g1 := (hbw.cell (p := ⟨R, o + j * 8 + 1, none⟩) hR).trans (hfy 1 _ rfl)
                have g2 := (hbw.cell (p := ⟨R, o + j * 8 + 2, none⟩) hR).trans (hfy 2 _ rfl)
                have g3 := (hbw.cell (p := ⟨R, o + j * 8 + 3, none⟩) hR).trans (hfy 3 _ rfl)
                have g4 := (hbw.cell (p := ⟨R, o + j * 8 + 4, none⟩) hR).trans (hfy 4 _ rfl)
                have g5 := (hbw.cell (p := ⟨R, o + j * 8 + 5, none⟩) hR).trans (hfy 5 _ rfl)
                have g6 := (hbw.cell (p := ⟨R, o + j * 8 + 6, none⟩) hR).trans (hfy 6 _ rfl)
                have g7 := (hbw.cell (p := ⟨R, o + j * 8 + 7, none⟩) hR).trans (hfy 7 _ rfl)
                rw [Nat.add_zero] at g0
                have d2 : decide (X ≤ 2000) = true := decide_eq_true hX
                have b2 : (0 : Int) ≤ (j : Int) := by omega
                have b3 : (j : Int) < (n : Int) := by omega
                have hRw : R < wr.heap.size := Nat.lt_of_lt_of_le hR hbw.size
                clear hin hF hfy hoy he hbw hW hy hX
                go_wp2_with fail
                refine (HRR.out y _ _ HO.out).mono ?_
                rintro e w2 ⟨z, rfl, hb⟩
                have HB2 := Lib.hid (HB.out.trans (hb.mono (by have := HB.out.size; simp at this; omega)))
                clear hb g0 g1 g2 g3 g4 g5 g6 g7 c5 c6 lW
                go_wp2_with fail
                go_roundw
                case rel => exact ⟨j + 1, _, by omega, by go_num, rfl, HB2⟩
                case measure => simp [intOf]; omega
              · have d2 : decide (X ≤ 2000) = false := decide_eq_false hX
                go_wp2_with fail
                go_ret
                exact ⟨_, rfl, HBW.out⟩
            · obtain rfl : j = n := by omega
              have d1 : decide ((j : Int) < (j : Int)) = false := by simp
              clear hbw hW
              go_wp2_with fail
              go_ret
              exact ⟨_, rfl, HBW.out⟩
  termination_by f => f
  decreasing_by omega
set_option maxRecDepth 100000 in
theorem few15_any (x : OV) (cs : List Value) (w : World) (h : ObjIs w x cs) : Calls Try.prog 59 #[.agg cs.toArray] w (SomeBool w) := by
  have hb0 : Below w.heap.size w (w.alloc (.cells cs.toArray 98)) := (Below.refl w.heap.size w).alloc (Nat.le_refl _) _
  have HS := Lib.hid (rsize_any 45 x cs _ (by omega) (h.later hb0))
  have HB := Lib.hid hb0
  obtain ⟨k, b, m, s, t, A, n, c, A2, n2, c2, r, keys, rfl, -⟩ := h.nine
  clear h hb0
  go_enter Try.func59, Try.ntmps59
  go_wp2_with fail
  refine HS.out.mono ?_
  rintro e w1 ⟨z, rfl, hb⟩
  have HB1 := Lib.hid (HB.out.trans (hb.mono HB.out.size))
  clear hb
  go_wp2_with fail
  go_ret
  exact ⟨_, rfl, HB1.out⟩
end Go.Proofs.Ytdlmhienolmncaa
