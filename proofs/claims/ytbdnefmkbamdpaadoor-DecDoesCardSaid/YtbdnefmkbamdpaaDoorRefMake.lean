/- The reference's Make: the walk. -/
import Derived.Test.YtbdnefmkbamdpaaDoorRefTold
import Derived.Test.YtbdnefmkbamdpaaDoorDecMul
namespace Go.Proofs.YtbdnefmkbamdpaaDoor
open Go.RowKit Dec

theorem num_digs : ∀ (u : Nat), num (digs u) = u ∧ Digs (digs u) := by
  intro u
  induction u using Nat.strongRecOn with
  | _ u ih =>
    by_cases h : u = 0
    · subst h; rw [digs_zero]; exact ⟨rfl, fun d hd => by cases hd⟩
    · obtain ⟨h1, h2⟩ := ih (u / 10) (by omega)
      rw [digs_pos h]
      refine ⟨?_, fun d hd => ?_⟩
      · show ((u % 10 : Nat) : Int).toNat + 10 * num (digs (u / 10)) = u
        rw [h1]; omega
      · rcases List.mem_cons.1 hd with rfl | hd
        · omega
        · exact h2 d hd

theorem own_row {w : World} {b : Nat} {v : Value} {ds : List Int} (h : w.ownsRow b 3 1 v ds.length (ds.map (Value.int .i64))) : Row w v ds := by
  rcases h.2 with ⟨rfl, h0⟩ | ⟨g, c, cur, rfl, hb, hg, hc, hm, hs, ht⟩
  · obtain rfl : ds = [] := List.length_eq_zero_iff.1 h0
    exact .inl ⟨rfl, rfl⟩
  · refine .inr ⟨g, 0, c, rfl, hc, fun j d hj => ?_⟩
    have := h.cells (g := g) rfl j (.int .i64 d) (by rw [List.getElem?_map, hj]; rfl)
    have ha : (⟨g, 0, none⟩ : Addr).add j = ⟨g, j, none⟩ := by unfold Addr.add; split <;> simp_all
    rw [ha] at this
    simpa using this
theorem row_reads {w : World} {v : Value} {ds : List Int} (h : Row w v ds) : Reads w v ds := by
  rcases h with ⟨rfl, rfl⟩ | ⟨g, o, c, rfl, hc, hr⟩
  · exact ⟨none, 0, rfl, Nat.le_refl _, fun h => absurd rfl h⟩
  · exact ⟨_, c, rfl, hc, fun _ => ⟨g, o, rfl, hr⟩⟩
theorem row_below {w w' : World} {v : Value} {ds : List Int} (h : Row w v ds) (hb : Below w.heap.size w w') : Row w' v ds := by
  rcases h with ⟨rfl, rfl⟩ | ⟨g, o, c, rfl, hc, hr⟩
  · exact .inl ⟨rfl, rfl⟩
  · refine .inr ⟨g, o, c, rfl, hc, fun j d hj => ?_⟩
    have h1 := hr j d hj
    have hlt : g < w.heap.size := by
      rcases Nat.lt_or_ge g w.heap.size with h | h
      · exact h
      · exfalso; simp [World.cell?, Array.getElem?_eq_none h] at h1
    rw [hb.cell (p := ⟨g, o + j, none⟩) hlt]; exact h1

set_option maxRecDepth 100000 in
theorem refmake_bad (m s : Int) (w : World) (h : ¬ (0 ≤ s ∧ s ≤ 18 ∧ -999999999999999999 ≤ m ∧ m ≤ 999999999999999999)) :
    Calls Tryd.prog 8 #[.int .i64 m, .int .i64 s] w (IsArg w) := by
  have H := Lib.hid h
  clear h
  go_enter Tryd.func8, Tryd.ntmps8
  go_wp2_with (first | (exfalso; have := H.out; omega) | go_in)
  all_goals exact bodyPost_ret (v := .tuple #[.agg #[.int .i64 0, .int .i64 0], .int .i64 1]) (by simp [results, Tryd.results8, go_sem]) rfl ⟨rfl, (Below.refl _ _).alloc (Nat.le_refl _) _⟩

set_option maxRecDepth 100000 in
theorem refmake_ok (m : Int) (s : Nat) (w : World) (h1 : (s : Int) ≤ 18) (h2 : -999999999999999999 ≤ m) (h3 : m ≤ 999999999999999999) :
    Calls Tryd.prog 8 #[.int .i64 m, .int .i64 s] w (IsTold m s w) := by
  have HV : Hid (m = if decide (m < 0) = true then -(num (digs m.natAbs) : Int) else (num (digs m.natAbs) : Int)) := by
    show _ = _
    rw [(num_digs _).1]
    by_cases h : m < 0
    · rw [decide_eq_true h, if_pos rfl]; omega
    · rw [decide_eq_false h, if_neg (by decide)]; omega
  go_enter Tryd.func8, Tryd.ntmps8
  go_wp2_with (first | (go_at_call 30; refine (of_num m 0 _ (by omega)).mono ?_; rintro e w' ⟨v, rfl, hown, hb⟩; obtain ⟨a, n, c, rfl⟩ := own_form hown; have HO := Lib.hid (own_row hown); have HB := Lib.hid hb; clear hown hb) | (go_at_call 26; refine (told_any (decide (m < 0)) _ (digs m.natAbs) s m _ (row_below HO.out ?b1) (num_digs _).2 ?b2 (by omega) HV.out).mono ?_))
  case b1 => exact (Below.refl _ _).alloc (Nat.le_refl _) _
  case b2 => exact Nat.le_trans (digs_len 18 m.natAbs (by omega)) (by decide)
  rintro e w4 ⟨M, S, E, rfl, hd, hb2⟩
  have HD := Lib.hid hd
  have hb : Below (w.heap.size + 1) (w.alloc (.cells #[.int .i64 0, .int .i64 0] 23)) w4 := by
    have h1 : Below (w.heap.size + 1) (w.alloc (.cells #[.int .i64 0, .int .i64 0] 23)) w' := HB.out.mono (by simp)
    have hz := h1.size
    simp at hz
    exact (h1.alloc (by omega) _).trans (hb2.mono (by simp; omega))
  clear hd hb2 HO HB
  have hz := hb.size
  simp at hz
  have r0 : w4.cell? ⟨w.heap.size, 0, none⟩ = some (.int .i64 0) := by rw [hb.cell (by simp)]; go_simp
  have r1 : w4.cell? ⟨w.heap.size, 1, none⟩ = some (.int .i64 0) := by rw [hb.cell (by simp)]; go_simp
  have z0 : w4.frozen? ⟨w.heap.size, 0, none⟩ = false := by rw [hb.frozen (by simp)]; go_simp
  have z1 : w4.frozen? ⟨w.heap.size, 1, none⟩ = false := by rw [hb.frozen (by simp)]; go_simp
  have HB := Lib.hid hb
  clear hb
  go_wp2
  exact bodyPost_ret (v := .tuple #[.agg #[.int .i64 M, .int .i64 S], .int .i64 E]) (by simp [results, Tryd.results8, go_sem, r0, r1]) rfl ⟨M, S, E, rfl, HD.out, ((((Below.refl _ _).alloc (Nat.le_refl _) _).trans (HB.out.mono (by simp))).setCell (by simp) _).setCell (by simp) _⟩
end Go.Proofs.YtbdnefmkbamdpaaDoor
