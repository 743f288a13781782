/- The walk of DecScale. -/
import Derived.Test.YtdadnljhmfllbaaDoorDecAwake
namespace Go.Proofs.YtdadnljhmfllbaaDoor
open Go.RowKit Dec

theorem bstep {w W w' : World} (h : Below w.heap.size w W) (hb : Below W.heap.size W w') : Below w.heap.size w w' := h.trans (hb.mono h.size)
theorem bnew {w W : World} (h : Below w.heap.size w W) (o : Obj) : Below w.heap.size w (W.alloc o) := h.alloc h.size o

theorem Denotes_valid {v : Int} {t : Nat} {m s e : Int} (h : Denotes v t m s e) : Valid m s ∧ (e = 0 ∨ e = 5) := by
  rcases h with ⟨he, hv, -⟩ | ⟨he, hm, hs, -⟩
  · exact ⟨hv, .inl he⟩
  · subst hm; subst hs; exact ⟨by decide, .inr he⟩

theorem make_is (m si : Int) (s : Nat) (w : World) (hsi : si = s) (h1 : s ≤ 18) (h2 : -999999999999999999 ≤ m) (h3 : m ≤ 999999999999999999) (M S E : Int) (hd : Denotes m s M S E) :
    Calls Tryd.prog 11 #[.int .i64 m, .int .i64 si] w (IsDec M S E w) := by
  subst hsi
  refine (make_ok m s w h1 h2 h3).mono ?_
  rintro e w' ⟨M', S', E', he, hd', hb⟩
  obtain ⟨rfl, rfl, rfl⟩ := hd.unique hd'
  exact ⟨he, hb⟩

theorem neg_val (m s : Int) : val9 m s + val9 (-m) s = 0 := by unfold val9; rw [Int.neg_mul]; omega
theorem den_zero : Denotes 0 9 0 0 0 := den_ok (by decide) (by decide)
theorem valid_neg {m s : Int} (h : Valid m s) : Valid (-m) s := by
  obtain ⟨a, b, c, d, e⟩ := h
  exact ⟨by omega, by omega, c, d, by omega⟩
theorem ten_scale {m : Int} {s : Nat} {M S E : Int} (h : Denotes m s M S E) : Denotes (10 * m) (s + 1) M S E :=
  h.scale (by rw [Int.pow_succ, Int.mul_comm 10 m, Int.mul_assoc, Int.mul_comm 10])

theorem make_told (m : Int) (s : Nat) : ∃ M S E, Denotes m s M S E := by
  by_cases hx : (strip s m.natAbs).1 ≤ 999999999999999999 ∧ (strip s m.natAbs).2 ≤ 9
  · by_cases hm : 0 ≤ m
    · exact ⟨((strip s m.natAbs).1 : Int), _, _, den_strip rfl (by simp) (.inr ⟨hm, by omega⟩) rfl (by simpa using hx.1) hx.2⟩
    · exact ⟨-((strip s m.natAbs).1 : Int), _, _, den_strip rfl (by simp) (.inl ⟨by omega, by omega⟩) rfl (by simpa using hx.1) hx.2⟩
  · exact ⟨0, 0, 5, den_over rfl (by omega)⟩

set_option maxHeartbeats 1000000 in
theorem scale_in (m : Int) (s : Nat) (M S E : Int) (w : World) (h : Ready w) (h1 : -99999999999999999 ≤ m) (h2 : m ≤ 99999999999999999) (h3 : (s : Int) ≤ 17) (hd : Denotes m s M S E) :
    Calls Tryd.prog 8 #[.int .i64 m, .int .i64 s] w fun e w' => e = .returned (.bool true) ∧ Below w.heap.size w w' := by
  have HR := Lib.hid h
  have HD := Lib.hid hd
  obtain ⟨hv, hE⟩ := Denotes_valid hd
  have HV := Lib.hid hv
  clear h hd hv
  rcases hE with rfl | rfl
  all_goals
    go_enter Tryd.func8, Tryd.ntmps8
    go_wp2_with fail
    refine (make_is m _ s _ rfl (by omega) (by omega) (by omega) M S _ HD.out).mono ?_
    rintro e w1 ⟨rfl, b1⟩
    have HB := b1
    go_wp2_with fail
    refine (make_is (10 * m) _ (s + 1) _ (by omega) (by omega) (by omega) (by omega) M S _ (ten_scale HD.out)).mono ?_
    rintro e w2 ⟨rfl, b2⟩
    have HB := bstep (bnew HB _) b2
    have ca := (Cells2.new w1 M S 23).later b2
    have la := ca.lt
    obtain ⟨ca0, ca1⟩ := id ca
    go_wp2_with fail
    refine (neg_ok M S _ HV.out).mono ?_
    rintro e w3 ⟨rfl, b3⟩
    have HB := bstep (bnew HB _) b3
    have cb := (Cells2.new w2 M S 23).later b3
    have ca := (ca.old _).later b3
    clear ca0 ca1 la b1 b2 b3
    have la := ca.lt
    have lb := cb.lt
    obtain ⟨ca0, ca1⟩ := id ca
    go_wp2_with fail
    refine (add_is M S (-M) S _ HV.out (valid_neg HV.out) 0 0 0 (by rw [neg_val]; exact den_zero)).mono ?_
    rintro e w4 ⟨rfl, b4⟩
    have HB := bstep (bnew HB _) b4
    have ca := (ca.old _).later b4
    have cb := (cb.old _).later b4
    have HR2 := Lib.hid ((HR.out.later HB).alloc (.cells #[.int .i64 0, .int .i64 0] 23))
    clear ca0 ca1 la lb b4
    go_wp2_with fail
    refine (awake_any _ HR2.out).mono ?_
    rintro e w5 ⟨rfl, b5⟩
    have HB := bstep (bnew HB _) b5
    have ca := (ca.old _).later b5
    have cb := (cb.old _).later b5
    have cz := (Cells2.new w4 0 0 23).later b5
    have la := ca.lt
    have lb := cb.lt
    have lz := cz.lt
    obtain ⟨ca0, ca1⟩ := ca
    obtain ⟨cb0, cb1⟩ := cb
    obtain ⟨cz0, cz1⟩ := cz
    have HBB := Lib.hid HB
    clear HB b5
    go_wp2
    go_ret
    exact ⟨rfl, HBB.out⟩

theorem scale_out (m s : Int) (w : World) (h : Ready w) (ho : ¬ (-99999999999999999 ≤ m ∧ m ≤ 99999999999999999 ∧ 0 ≤ s ∧ s ≤ 17)) :
    Calls Tryd.prog 8 #[.int .i64 m, .int .i64 s] w fun e w' => e = .returned (.bool true) ∧ Below w.heap.size w w' := by
  have HR := Lib.hid h
  clear h
  have hc : m < -99999999999999999 ∨ (¬ m < -99999999999999999 ∧ 99999999999999999 < m) ∨ (¬ m < -99999999999999999 ∧ ¬ 99999999999999999 < m ∧ s < 0) ∨ (¬ m < -99999999999999999 ∧ ¬ 99999999999999999 < m ∧ ¬ s < 0 ∧ 17 < s) := by omega
  clear ho
  rcases hc with h1 | ⟨h1, h2⟩ | ⟨h1, h2, h3⟩ | ⟨h1, h2, h3, h4⟩
  all_goals
    go_enter Tryd.func8, Tryd.ntmps8
    go_wp2_with (go_at_call 13; refine (awake_any _ HR.out).mono ?_; rintro e w5 ⟨rfl, b5⟩)
    go_ret
    exact ⟨rfl, b5⟩

theorem scale_any (m s : Int) (w : World) (h : Ready w) :
    Calls Tryd.prog 8 #[.int .i64 m, .int .i64 s] w fun e w' => e = .returned (.bool true) ∧ Below w.heap.size w w' := by
  by_cases hi : -99999999999999999 ≤ m ∧ m ≤ 99999999999999999 ∧ 0 ≤ s ∧ s ≤ 17
  · obtain ⟨h1, h2, h3, h4⟩ := hi
    obtain ⟨n, rfl⟩ : ∃ n : Nat, s = n := ⟨s.toNat, by omega⟩
    obtain ⟨M, S, E, hd⟩ := make_told m n
    exact scale_in m n M S E w h h1 h2 h4 hd
  · exact scale_out m s w h hi
end Go.Proofs.YtdadnljhmfllbaaDoor
