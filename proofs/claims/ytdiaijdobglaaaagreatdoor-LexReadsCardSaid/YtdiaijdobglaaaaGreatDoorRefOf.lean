/- The walk of the reference's of: a decimal's number as a row of digits, the lowest first. -/
import Derived.Test.YtdiaijdobglaaaaGreatDoorDecWalkA
import Derived.Test.YtdiaijdobglaaaaGreatDoorDecSums
import Derived.LoopTactic
namespace Go.Proofs.YtdiaijdobglaaaaGreatDoor
open Go.RowKit Dec

/-- The digits of a number, the lowest first. -/
def digs (u : Nat) : List Int := if h : u = 0 then [] else ((u % 10 : Nat) : Int) :: digs (u / 10)
termination_by u
decreasing_by omega
theorem digs_zero : digs 0 = [] := by rw [digs, dif_pos rfl]
theorem digs_pos {u : Nat} (h : u ≠ 0) : digs u = ((u % 10 : Nat) : Int) :: digs (u / 10) := by rw [digs, dif_neg h]
theorem digs_len : ∀ (k u : Nat), u < 10 ^ k → (digs u).length ≤ k := by
  intro k
  induction k with
  | zero => intro u h; obtain rfl : u = 0 := by simpa using h
            rw [digs_zero]; exact Nat.le_refl _
  | succ k ih =>
    intro u h
    by_cases h0 : u = 0
    · subst h0; rw [digs_zero]; exact Nat.zero_le _
    · rw [digs_pos h0, List.length_cons]
      have := ih (u / 10) (by rw [Nat.pow_succ] at h; omega)
      omega

theorem info3 : (Tryz.prog.info? 3).map (fun i => (i.zero, i.size, i.bytes)) = some (some (.int .i64 0), 1, 8) := by kernel_rfl

theorem own_form {w : World} {b : Nat} {e : TypeId} {z : Nat} {v : Value} {n : Nat} {xs : List Value} (h : w.ownsRow b e z v n xs) : ∃ a k c, v = .slice a k c := by
  rcases h.2 with ⟨h, _⟩ | ⟨g, c, cur, h, _⟩
  · exact ⟨_, _, _, h⟩
  · exact ⟨_, _, _, h⟩

theorem kept_block {w w1 : World} {o : Obj} {row : Option Nat} {b : Nat} (h : (w.alloc o).grownBy w1 row) (hb : b < w.heap.size) (hr : row ≠ some b) : w1.heap[b]? = w.heap[b]? :=
  (h.block b (by simp; omega) (fun e => hr e.symm)).trans (Below.heap_alloc _ _ _ hb)

theorem own_mono {w : World} {b b' : Nat} {e : TypeId} {z : Nat} {v : Value} {n : Nat} {xs : List Value} (h : w.ownsRow b e z v n xs) (hb : b' ≤ b) : w.ownsRow b' e z v n xs := by
  refine ⟨h.1, ?_⟩
  rcases h.2 with h | ⟨g, c, cur, h, h2, h3⟩
  · exact .inl h
  · exact .inr ⟨g, c, cur, h, Nat.le_trans hb h2, h3⟩

/-- The number of a decimal: the value that of answers. -/
def IsNum (b : Bool) (ds : List Int) (s : Int) (w : World) (e : Ending) (w' : World) : Prop :=
  ∃ v, e = .returned (.agg #[.bool b, v, .int .i64 s]) ∧ w'.ownsRow w.heap.size 3 1 v ds.length (ds.map (Value.int .i64)) ∧ Below w.heap.size w w'

set_option maxRecDepth 100000 in
set_option maxHeartbeats 1000000 in
theorem of_pos (m s : Int) (w : World) (h0 : 0 ≤ m) (h1 : m ≤ 999999999999999999) :
    Calls Tryz.prog 51 #[.agg #[.int .i64 m, .int .i64 s]] w (IsNum false (digs m.natAbs) s w) := by
  have hlen0 := digs_len 18 m.natAbs (by omega)
  obtain ⟨i0, hi, hz0, hz1, hz2⟩ := info_parts info3
  have hm : ¬ m < 0 := by omega
  go_enter Tryz.func51, Tryz.ntmps51
  go_wp2
  go_loopw [4] (fun mm wr => ∃ (k : Nat) (v : Value) (ds : List Int), mm = .int .i64 k ∧ (k : Int) ≤ 999999999999999999 ∧ Hid (digs m.natAbs = ds ++ digs k) ∧ ds.length ≤ 18 ∧ wr.ownsRow (w.heap.size + 1 + 1 + 1) 3 1 v ds.length (ds.map (Value.int .i64)) ∧
      wr.cell? ⟨w.heap.size + 1 + 1, 0, none⟩ = some (.bool false) ∧ wr.cell? ⟨w.heap.size + 1 + 1, 1, none⟩ = some v ∧ wr.cell? ⟨w.heap.size + 1 + 1, 2, none⟩ = some (.int .i64 s) ∧ wr.frozen? ⟨w.heap.size + 1 + 1, 1, none⟩ = false ∧ w.heap.size + 1 + 1 + 1 ≤ wr.heap.size ∧
      Below (w.heap.size + 1 + 1) ((w.alloc (.cells #[.int .i64 m, .int .i64 s] 25)).alloc (.cells #[.bool false, .slice none 0 0, .int .i64 0] 64)) wr) (fun mm _ => (intOf mm).toNat)
  case atStart =>
    refine ⟨m.natAbs, .slice none 0 0, [], ?_, by omega, rfl, by simp, World.ownsRow_nil _ _ _ _, ?_, ?_, ?_, ?_, by simp, ?_⟩
    · exact congrArg _ (by omega)
    all_goals first | (go_simp; done) | skip
    exact (Below.refl _ _).alloc (by simp) _
  case round =>
    obtain ⟨k, v, ds, rfl, hk, hds, hl, hown, c0, c1, c2, f1, hsz, hB⟩ := hrel
    by_cases hk0 : k = 0
    · subst hk0
      have r0 : wr.cell? ⟨w.heap.size + 1, 0, none⟩ = some (.bool false) := by rw [hB.cell (by simp)]; go_simp
      have r1 : wr.cell? ⟨w.heap.size + 1, 1, none⟩ = some (.slice none 0 0) := by rw [hB.cell (by simp)]; go_simp
      have r2 : wr.cell? ⟨w.heap.size + 1, 2, none⟩ = some (.int .i64 0) := by rw [hB.cell (by simp)]; go_simp
      have z0 : wr.frozen? ⟨w.heap.size + 1, 0, none⟩ = false := by rw [hB.frozen (by simp)]; go_simp
      have z1 : wr.frozen? ⟨w.heap.size + 1, 1, none⟩ = false := by rw [hB.frozen (by simp)]; go_simp
      have z2 : wr.frozen? ⟨w.heap.size + 1, 2, none⟩ = false := by rw [hB.frozen (by simp)]; go_simp
      obtain ⟨a, k, c, rfl⟩ := own_form hown
      go_wp2
      refine bodyPost_ret (v := .agg #[.bool false, .slice a k c, .int .i64 s]) ?_ rfl ⟨_, rfl, ?_, ?_⟩
      · simp [results, Tryz.results51, go_sem, r0, r1, r2]
      · have hds' : digs m.natAbs = ds := by have := hds.out; rw [digs_zero, List.append_nil] at this; exact this
        rw [hds']
        exact own_mono (ownsRow_setCell_below (ownsRow_setCell_below (ownsRow_setCell_below hown (Nat.lt_of_lt_of_le (Nat.lt_succ_self _) (Nat.le_succ _)) _) (Nat.lt_of_lt_of_le (Nat.lt_succ_self _) (Nat.le_succ _)) _) (Nat.lt_of_lt_of_le (Nat.lt_succ_self _) (Nat.le_succ _)) _) (by omega)
      · exact (((((Below.refl _ _).alloc (Nat.le_refl _) _).alloc (by simp) _).trans (hB.mono (by omega))).setCell (by simp) _ |>.setCell (by simp) _).setCell (by simp) _
    · have hk1 : 0 < (k : Int) := by omega
      have hlt : w.heap.size + 1 + 1 < wr.heap.size := by omega
      go_wp2_with (first | (at_builtin; refine wpList_append_own _ rfl _ _ 61 rfl (w.heap.size + 1 + 1 + 1) 3 i0 (.int .i64 0) 1 8 Tryz.underlying61 hi hz0 hz1 hz2 rfl (by decide) _ _ _ rfl (hown.alloc _) ⟨wr.heap.size, 0, none⟩ 1 1 [.int .i64 ((k : Int) % 10)] rfl rfl ?c1 ?c2 ?c3 ?c4 ?c5 ?_))
      case c1 =>
        intro j u hj
        match j, hj with
        | 0, hj => simp at hj; subst hj; simp [Addr.add]
      case c2 => intro u hu; simp at hu; subst hu; rfl
      case c3 => unfold maxLen; omega
      case c4 => omega
      case c5 => simp; omega
      · intro v' w1 hown' hgrow _
        have hbk : w1.heap[w.heap.size + 1 + 1]? = wr.heap[w.heap.size + 1 + 1]? := kept_block hgrow hlt (fun e => by have := (hown.lt _ e).1; omega)
        have g0 : w1.cell? ⟨w.heap.size + 1 + 1, 0, none⟩ = some (.bool false) := (World.cell?_of_block (w := wr) hbk).trans c0
        have g1 : w1.cell? ⟨w.heap.size + 1 + 1, 1, none⟩ = some v := (World.cell?_of_block (w := wr) hbk).trans c1
        have g3 : w1.cell? ⟨w.heap.size + 1 + 1, 2, none⟩ = some (.int .i64 s) := (World.cell?_of_block (w := wr) hbk).trans c2
        have g2 : w1.frozen? ⟨w.heap.size + 1 + 1, 1, none⟩ = false := (World.frozen?_of_block (w := wr) hbk).trans f1
        have hB1 : Below (w.heap.size + 1 + 1) wr w1 := ((Below.refl _ _).alloc (by omega) _).grown hgrow (by simp; omega) (fun k e => by have := (hown.lt _ e).1; omega)
        have hB2 := hB.trans hB1
        have hs1 : w.heap.size + 1 + 1 + 1 ≤ w1.heap.size := Nat.le_trans hsz hB1.size
        have hlen1 : ds.length + 1 ≤ 18 := by
          have h := hds.out
          rw [digs_pos hk0] at h
          have h2 := congrArg List.length h
          rw [List.length_append, List.length_cons] at h2
          omega
        clear hgrow hown hB hB1 hbk c0 c1 c2 f1
        obtain ⟨a', k', c', rfl⟩ := own_form hown'
        go_wp2
        refine ⟨⟨k / 10, .slice a' k' c', ds ++ [((k % 10 : Nat) : Int)], ?_, by omega, ?_, by simp; omega, ?_, ?_, ?_, ?_, ?_, by simp; omega, hB2.setCell (by simp) _⟩, ?_⟩
        · exact congrArg _ (by omega)
        · show _ = _
          rw [hds.out, digs_pos hk0, List.append_assoc]; rfl
        · have := ownsRow_setCell_below hown' (a := ⟨w.heap.size + 1 + 1, 1, none⟩) (by simp) (.slice a' k' c')
          simpa using this
        all_goals first | (go_simp; done) | skip
        simp only [intOf]; omega
set_option maxRecDepth 100000 in
set_option maxHeartbeats 1000000 in
theorem of_neg (m s : Int) (w : World) (h0 : m < 0) (h1 : -999999999999999999 ≤ m) :
    Calls Tryz.prog 51 #[.agg #[.int .i64 m, .int .i64 s]] w (IsNum true (digs m.natAbs) s w) := by
  have hlen0 := digs_len 18 m.natAbs (by omega)
  obtain ⟨i0, hi, hz0, hz1, hz2⟩ := info_parts info3
  have hm : m < 0 := h0
  have hm2 : 0 < -m := by omega
  have hm3 : 0 ≤ 0 - m := by omega
  go_enter Tryz.func51, Tryz.ntmps51
  go_wp2
  go_loopw [4] (fun mm wr => ∃ (k : Nat) (v : Value) (ds : List Int), mm = .int .i64 k ∧ (k : Int) ≤ 999999999999999999 ∧ Hid (digs m.natAbs = ds ++ digs k) ∧ ds.length ≤ 18 ∧ wr.ownsRow (w.heap.size + 1 + 1 + 1) 3 1 v ds.length (ds.map (Value.int .i64)) ∧
      wr.cell? ⟨w.heap.size + 1 + 1, 0, none⟩ = some (.bool true) ∧ wr.cell? ⟨w.heap.size + 1 + 1, 1, none⟩ = some v ∧ wr.cell? ⟨w.heap.size + 1 + 1, 2, none⟩ = some (.int .i64 s) ∧ wr.frozen? ⟨w.heap.size + 1 + 1, 1, none⟩ = false ∧ w.heap.size + 1 + 1 + 1 ≤ wr.heap.size ∧
      Below (w.heap.size + 1 + 1) ((w.alloc (.cells #[.int .i64 m, .int .i64 s] 25)).alloc (.cells #[.bool false, .slice none 0 0, .int .i64 0] 64)) wr) (fun mm _ => (intOf mm).toNat)
  case atStart =>
    refine ⟨m.natAbs, .slice none 0 0, [], ?_, by omega, rfl, by simp, World.ownsRow_nil _ _ _ _, ?_, ?_, ?_, ?_, by simp, ?_⟩
    · exact congrArg _ (by omega)
    all_goals first | (go_simp; done) | skip
    exact (Below.refl _ _).alloc (by simp) _
  case round =>
    obtain ⟨k, v, ds, rfl, hk, hds, hl, hown, c0, c1, c2, f1, hsz, hB⟩ := hrel
    by_cases hk0 : k = 0
    · subst hk0
      have r0 : wr.cell? ⟨w.heap.size + 1, 0, none⟩ = some (.bool false) := by rw [hB.cell (by simp)]; go_simp
      have r1 : wr.cell? ⟨w.heap.size + 1, 1, none⟩ = some (.slice none 0 0) := by rw [hB.cell (by simp)]; go_simp
      have r2 : wr.cell? ⟨w.heap.size + 1, 2, none⟩ = some (.int .i64 0) := by rw [hB.cell (by simp)]; go_simp
      have z0 : wr.frozen? ⟨w.heap.size + 1, 0, none⟩ = false := by rw [hB.frozen (by simp)]; go_simp
      have z1 : wr.frozen? ⟨w.heap.size + 1, 1, none⟩ = false := by rw [hB.frozen (by simp)]; go_simp
      have z2 : wr.frozen? ⟨w.heap.size + 1, 2, none⟩ = false := by rw [hB.frozen (by simp)]; go_simp
      obtain ⟨a, k, c, rfl⟩ := own_form hown
      go_wp2
      refine bodyPost_ret (v := .agg #[.bool true, .slice a k c, .int .i64 s]) ?_ rfl ⟨_, rfl, ?_, ?_⟩
      · simp [results, Tryz.results51, go_sem, r0, r1, r2]
      · have hds' : digs m.natAbs = ds := by have := hds.out; rw [digs_zero, List.append_nil] at this; exact this
        rw [hds']
        exact own_mono (ownsRow_setCell_below (ownsRow_setCell_below (ownsRow_setCell_below hown (Nat.lt_of_lt_of_le (Nat.lt_succ_self _) (Nat.le_succ _)) _) (Nat.lt_of_lt_of_le (Nat.lt_succ_self _) (Nat.le_succ _)) _) (Nat.lt_of_lt_of_le (Nat.lt_succ_self _) (Nat.le_succ _)) _) (by omega)
      · exact (((((Below.refl _ _).alloc (Nat.le_refl _) _).alloc (by simp) _).trans (hB.mono (by omega))).setCell (by simp) _ |>.setCell (by simp) _).setCell (by simp) _
    · have hk1 : 0 < (k : Int) := by omega
      have hlt : w.heap.size + 1 + 1 < wr.heap.size := by omega
      go_wp2_with (first | (at_builtin; refine wpList_append_own _ rfl _ _ 61 rfl (w.heap.size + 1 + 1 + 1) 3 i0 (.int .i64 0) 1 8 Tryz.underlying61 hi hz0 hz1 hz2 rfl (by decide) _ _ _ rfl (hown.alloc _) ⟨wr.heap.size, 0, none⟩ 1 1 [.int .i64 ((k : Int) % 10)] rfl rfl ?c1 ?c2 ?c3 ?c4 ?c5 ?_))
      case c1 =>
        intro j u hj
        match j, hj with
        | 0, hj => simp at hj; subst hj; simp [Addr.add]
      case c2 => intro u hu; simp at hu; subst hu; rfl
      case c3 => unfold maxLen; omega
      case c4 => omega
      case c5 => simp; omega
      · intro v' w1 hown' hgrow _
        have hbk : w1.heap[w.heap.size + 1 + 1]? = wr.heap[w.heap.size + 1 + 1]? := kept_block hgrow hlt (fun e => by have := (hown.lt _ e).1; omega)
        have g0 : w1.cell? ⟨w.heap.size + 1 + 1, 0, none⟩ = some (.bool true) := (World.cell?_of_block (w := wr) hbk).trans c0
        have g1 : w1.cell? ⟨w.heap.size + 1 + 1, 1, none⟩ = some v := (World.cell?_of_block (w := wr) hbk).trans c1
        have g3 : w1.cell? ⟨w.heap.size + 1 + 1, 2, none⟩ = some (.int .i64 s) := (World.cell?_of_block (w := wr) hbk).trans c2
        have g2 : w1.frozen? ⟨w.heap.size + 1 + 1, 1, none⟩ = false := (World.frozen?_of_block (w := wr) hbk).trans f1
        have hB1 : Below (w.heap.size + 1 + 1) wr w1 := ((Below.refl _ _).alloc (by omega) _).grown hgrow (by simp; omega) (fun k e => by have := (hown.lt _ e).1; omega)
        have hB2 := hB.trans hB1
        have hs1 : w.heap.size + 1 + 1 + 1 ≤ w1.heap.size := Nat.le_trans hsz hB1.size
        have hlen1 : ds.length + 1 ≤ 18 := by
          have h := hds.out
          rw [digs_pos hk0] at h
          have h2 := congrArg List.length h
          rw [List.length_append, List.length_cons] at h2
          omega
        clear hgrow hown hB hB1 hbk c0 c1 c2 f1
        obtain ⟨a', k', c', rfl⟩ := own_form hown'
        go_wp2
        refine ⟨⟨k / 10, .slice a' k' c', ds ++ [((k % 10 : Nat) : Int)], ?_, by omega, ?_, by simp; omega, ?_, ?_, ?_, ?_, ?_, by simp; omega, hB2.setCell (by simp) _⟩, ?_⟩
        · exact congrArg _ (by omega)
        · show _ = _
          rw [hds.out, digs_pos hk0, List.append_assoc]; rfl
        · have := ownsRow_setCell_below hown' (a := ⟨w.heap.size + 1 + 1, 1, none⟩) (by simp) (.slice a' k' c')
          simpa using this
        all_goals first | (go_simp; done) | skip
        simp only [intOf]; omega

theorem of_num (m s : Int) (w : World) (h : m.natAbs ≤ 999999999999999999) : Calls Tryz.prog 51 #[.agg #[.int .i64 m, .int .i64 s]] w (IsNum (decide (m < 0)) (digs m.natAbs) s w) := by
  by_cases h0 : m < 0
  · rw [decide_eq_true h0]; exact of_neg m s w h0 (by omega)
  · rw [decide_eq_false h0]; exact of_pos m s w (by omega) (by omega)
end Go.Proofs.YtdiaijdobglaaaaGreatDoor
