/- PredictPlain: its walk, whole. -/
import Derived.Test.YtjligbfijjejmaaPredPlainT
namespace Go.Proofs.Ytjligbfijjejmaa
open Go.RowKit

set_option maxRecDepth 100000 in
set_option maxHeartbeats 4000000 in
theorem plain_law (p : PaV) (A : Option Addr) (n c : Nat) (bs : List Nat) (rows tag : Int) (w : World) (h : Bytes w A n c bs) :
    Calls Try.prog 5 #[p.val, .slice A n c, .int .i64 rows, .int .i64 tag] w (True_ w) := by
  have hl := h.len
  subst hl
  have htop := h.top
  have hcap := h.cap
  have HB := Lib.hid h
  clear h
  obtain ⟨rv, hrv⟩ : ∃ r, rowV p = r := ⟨_, rfl⟩
  have HR := Lib.hid hrv
  by_cases g1 : 2000 < (bs.length : Int)
  · have d_g1 := decide_eq_true g1
    clear hrv
    go_enter Try.func5, Try.ntmps5
    go_wp2_with fail
    refine (row_any p _).mono ?_
    rintro e w1 ⟨rfl, hb1⟩
    rw [HR.out]
    have hp1 := (PK.made w p).next hb1
    obtain ⟨k0, k1, k2, k3, k4⟩ := hp1.cells
    have H1 := Lib.hid hp1
    clear hp1 hb1
    go_wp2_with fail
    refine (awake_any _).mono ?_
    rintro e w2 ⟨rfl, hb2⟩
    have H2 := Lib.hid (H1.out.next hb2)
    clear hb2
    go_wp2
    go_ret
    exact ⟨rfl, H2.out.2⟩
  have d_g1 := decide_eq_false g1
  by_cases g2 : rows < 0
  · have d_g2 := decide_eq_true g2
    clear hrv
    go_enter Try.func5, Try.ntmps5
    go_wp2_with fail
    refine (row_any p _).mono ?_
    rintro e w1 ⟨rfl, hb1⟩
    rw [HR.out]
    have hp1 := (PK.made w p).next hb1
    obtain ⟨k0, k1, k2, k3, k4⟩ := hp1.cells
    have H1 := Lib.hid hp1
    clear hp1 hb1
    go_wp2_with fail
    refine (awake_any _).mono ?_
    rintro e w2 ⟨rfl, hb2⟩
    have H2 := Lib.hid (H1.out.next hb2)
    clear hb2
    go_wp2
    go_ret
    exact ⟨rfl, H2.out.2⟩
  have d_g2 := decide_eq_false g2
  by_cases g3 : 20 < rows
  · have d_g3 := decide_eq_true g3
    clear hrv
    go_enter Try.func5, Try.ntmps5
    go_wp2_with fail
    refine (row_any p _).mono ?_
    rintro e w1 ⟨rfl, hb1⟩
    rw [HR.out]
    have hp1 := (PK.made w p).next hb1
    obtain ⟨k0, k1, k2, k3, k4⟩ := hp1.cells
    have H1 := Lib.hid hp1
    clear hp1 hb1
    go_wp2_with fail
    refine (awake_any _).mono ?_
    rintro e w2 ⟨rfl, hb2⟩
    have H2 := Lib.hid (H1.out.next hb2)
    clear hb2
    go_wp2
    go_ret
    exact ⟨rfl, H2.out.2⟩
  have d_g3 := decide_eq_false g3
  by_cases g4 : 200 < rv
  · have d_g4 := decide_eq_true g4
    clear hrv
    go_enter Try.func5, Try.ntmps5
    go_wp2_with fail
    refine (row_any p _).mono ?_
    rintro e w1 ⟨rfl, hb1⟩
    rw [HR.out]
    have hp1 := (PK.made w p).next hb1
    obtain ⟨k0, k1, k2, k3, k4⟩ := hp1.cells
    have H1 := Lib.hid hp1
    clear hp1 hb1
    go_wp2_with fail
    refine (awake_any _).mono ?_
    rintro e w2 ⟨rfl, hb2⟩
    have H2 := Lib.hid (H1.out.next hb2)
    clear hb2
    go_wp2
    go_ret
    exact ⟨rfl, H2.out.2⟩
  have d_g4 := decide_eq_false g4
  by_cases g5 : tag < 0
  · have d_g5 := decide_eq_true g5
    clear hrv
    go_enter Try.func5, Try.ntmps5
    go_wp2_with fail
    refine (row_any p _).mono ?_
    rintro e w1 ⟨rfl, hb1⟩
    rw [HR.out]
    have hp1 := (PK.made w p).next hb1
    obtain ⟨k0, k1, k2, k3, k4⟩ := hp1.cells
    have H1 := Lib.hid hp1
    clear hp1 hb1
    go_wp2_with fail
    refine (awake_any _).mono ?_
    rintro e w2 ⟨rfl, hb2⟩
    have H2 := Lib.hid (H1.out.next hb2)
    clear hb2
    go_wp2
    go_ret
    exact ⟨rfl, H2.out.2⟩
  have d_g5 := decide_eq_false g5
  by_cases g6 : 4 < tag
  · have d_g6 := decide_eq_true g6
    clear hrv
    go_enter Try.func5, Try.ntmps5
    go_wp2_with fail
    refine (row_any p _).mono ?_
    rintro e w1 ⟨rfl, hb1⟩
    rw [HR.out]
    have hp1 := (PK.made w p).next hb1
    obtain ⟨k0, k1, k2, k3, k4⟩ := hp1.cells
    have H1 := Lib.hid hp1
    clear hp1 hb1
    go_wp2_with fail
    refine (awake_any _).mono ?_
    rintro e w2 ⟨rfl, hb2⟩
    have H2 := Lib.hid (H1.out.next hb2)
    clear hb2
    go_wp2
    go_ret
    exact ⟨rfl, H2.out.2⟩
  have d_g6 := decide_eq_false g6
  by_cases hE : p.E = 0
  · have hk := PaV.E_zero hE
    have hok := hk.1
    have hn := hok.n_is.2
    have hrn : rowV p = (p.n : Int) := if_pos hok
    have hn2 : p.n ≤ 200 := by omega
    obtain ⟨M, rfl⟩ : ∃ M : Nat, rows = M := ⟨rows.toNat, by omega⟩
    obtain ⟨T, rfl⟩ : ∃ T : Nat, tag = T := ⟨tag.toNat, by omega⟩
    exact plain_main p A c bs M T w HB (by omega) (by omega) (by omega) (Lib.hid ⟨hok, hE⟩) (by omega) hn2
  · have d_E : (p.E != 0) = true := by simp [hE]
    clear hrv hE
    go_enter Try.func5, Try.ntmps5
    go_wp2_with fail
    refine (row_any p _).mono ?_
    rintro e w1 ⟨rfl, hb1⟩
    rw [HR.out]
    have hp1 := (PK.made w p).next hb1
    obtain ⟨k0, k1, k2, k3, k4⟩ := hp1.cells
    have H1 := Lib.hid hp1
    clear hp1 hb1
    go_wp2_with fail
    refine (check_any p _).mono ?_
    clear k0 k1 k2 k3 k4
    rintro e w2 ⟨rfl, hb2⟩
    have hp2 := H1.out.next hb2
    obtain ⟨k0, k1, k2, k3, k4⟩ := hp2.cells
    have H2 := Lib.hid hp2
    clear hp2 hb2
    go_wp2_with fail
    refine (awake_any _).mono ?_
    rintro e w3 ⟨rfl, hb3⟩
    have H3 := Lib.hid (H2.out.next hb3)
    clear hb3
    go_wp2
    go_ret
    exact ⟨rfl, H3.out.2⟩
end Go.Proofs.Ytjligbfijjejmaa
