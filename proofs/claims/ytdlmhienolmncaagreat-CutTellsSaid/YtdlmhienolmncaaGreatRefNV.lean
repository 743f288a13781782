/- The walk of the reference's of: a decimal's number as a row of digits, the lowest first. -/
import Derived.Test.YtdlmhienolmncaaGreatDecWalkB
import Derived.Test.YtdlmhienolmncaaGreatDecVals
import Derived.LoopTactic
import Derived.Test.YtdlmhienolmncaaGreatDecMul
import Derived.Laws.AppendOwnNone
import Derived.Test.YtdlmhienolmncaaGreatMem
import Derived.Deep.CutRange
import Derived.Deep.RegionWith
namespace Go.Proofs.YtdlmhienolmncaaGreat
open Go.RowKit Dec

/-- The digits of a number, the lowest first. -/
def digs (u : Nat) : List Int := if h : u = 0 then [] else ((u % 10 : Nat) : Int) :: digs (u / 10)
termination_by u
decreasing_by omega
theorem digs_zero : digs 0 = [] := by rw [digs, dif_pos rfl]
theorem digs_pos {u : Nat} (h : u ≠ 0) : digs u = ((u % 10 : Nat) : Int) :: digs (u / 10) := by rw [digs, dif_neg h]
theorem digs_len : ∀ (k u : Nat), u < 10 ^ k → (digs u).length ≤ k := by
  intro k
  induction k with
  | zero => intro u h; obtain rfl : u = 0 := by simpa using h
            rw [digs_zero]; exact Nat.le_refl _
  | succ k ih =>
    intro u h
    by_cases h0 : u = 0
    · subst h0; rw [digs_zero]; exact Nat.zero_le _
    · rw [digs_pos h0, List.length_cons]
      have := ih (u / 10) (by rw [Nat.pow_succ] at h; omega)
      omega

theorem info3 : (Tryz.prog.info? 3).map (fun i => (i.zero, i.size, i.bytes)) = some (some (.int .i64 0), 1, 8) := by kernel_rfl

theorem own_form {w : World} {b : Nat} {e : TypeId} {z : Nat} {v : Value} {n : Nat} {xs : List Value} (h : w.ownsRow b e z v n xs) : ∃ a k c, v = .slice a k c := by
  rcases h.2 with ⟨h, _⟩ | ⟨g, c, cur, h, _⟩
  · exact ⟨_, _, _, h⟩
  · exact ⟨_, _, _, h⟩

theorem kept_block {w w1 : World} {o : Obj} {row : Option Nat} {b : Nat} (h : (w.alloc o).grownBy w1 row) (hb : b < w.heap.size) (hr : row ≠ some b) : w1.heap[b]? = w.heap[b]? :=
  (h.block b (by simp; omega) (fun e => hr e.symm)).trans (Below.heap_alloc _ _ _ hb)

theorem own_mono {w : World} {b b' : Nat} {e : TypeId} {z : Nat} {v : Value} {n : Nat} {xs : List Value} (h : w.ownsRow b e z v n xs) (hb : b' ≤ b) : w.ownsRow b' e z v n xs := by
  refine ⟨h.1, ?_⟩
  rcases h.2 with h | ⟨g, c, cur, h, h2, h3⟩
  · exact .inl h
  · exact .inr ⟨g, c, cur, h, Nat.le_trans hb h2, h3⟩

/-- The number of a decimal: the value that of answers. -/
def IsNum (b : Bool) (ds : List Int) (s : Int) (w : World) (e : Ending) (w' : World) : Prop :=
  ∃ v, e = .returned (.agg #[.bool b, v, .int .i64 s]) ∧ w'.ownsRow w.heap.size 3 1 v ds.length (ds.map (Value.int .i64)) ∧ Below w.heap.size w w'

set_option maxRecDepth 100000 in
set_option maxHeartbeats 1000000 in
theorem of_pos (m s : Int) (w : World) (h0 : 0 ≤ m) (h1 : m ≤ 999999999999999999) :
    Calls Tryz.prog 118 #[.agg #[.int .i64 m, .int .i64 s]] w (IsNum false (digs m.natAbs) s w) := by
  have hlen0 := digs_len 18 m.natAbs (by omega)
  obtain ⟨i0, hi, hz0, hz1, hz2⟩ := info_parts info3
  have hm : ¬ m < 0 := by omega
  go_enter Tryz.func118, Tryz.ntmps118
  go_wp2
  go_loopw [4] (fun mm wr => ∃ (k : Nat) (v : Value) (ds : List Int), mm = .int .i64 k ∧ (k : Int) ≤ 999999999999999999 ∧ Hid (digs m.natAbs = ds ++ digs k) ∧ ds.length ≤ 18 ∧ wr.ownsRow (w.heap.size + 1 + 1 + 1) 3 1 v ds.length (ds.map (Value.int .i64)) ∧
      wr.cell? ⟨w.heap.size + 1 + 1, 0, none⟩ = some (.bool false) ∧ wr.cell? ⟨w.heap.size + 1 + 1, 1, none⟩ = some v ∧ wr.cell? ⟨w.heap.size + 1 + 1, 2, none⟩ = some (.int .i64 s) ∧ wr.frozen? ⟨w.heap.size + 1 + 1, 1, none⟩ = false ∧ w.heap.size + 1 + 1 + 1 ≤ wr.heap.size ∧
      Below (w.heap.size + 1 + 1) ((w.alloc (.cells #[.int .i64 m, .int .i64 s] 47)).alloc (.cells #[.bool false, .slice none 0 0, .int .i64 0] 174)) wr) (fun mm _ => (intOf mm).toNat)
  case atStart =>
    refine ⟨m.natAbs, .slice none 0 0, [], ?_, by omega, rfl, by simp, World.ownsRow_nil _ _ _ _, ?_, ?_, ?_, ?_, by simp, ?_⟩
    · exact congrArg _ (by omega)
    all_goals first | (go_simp; done) | skip
    exact (Below.refl _ _).alloc (by simp) _
  case round =>
    obtain ⟨k, v, ds, rfl, hk, hds, hl, hown, c0, c1, c2, f1, hsz, hB⟩ := hrel
    by_cases hk0 : k = 0
    · subst hk0
      have r0 : wr.cell? ⟨w.heap.size + 1, 0, none⟩ = some (.bool false) := by rw [hB.cell (by simp)]; go_simp
      have r1 : wr.cell? ⟨w.heap.size + 1, 1, none⟩ = some (.slice none 0 0) := by rw [hB.cell (by simp)]; go_simp
      have r2 : wr.cell? ⟨w.heap.size + 1, 2, none⟩ = some (.int .i64 0) := by rw [hB.cell (by simp)]; go_simp
      have z0 : wr.frozen? ⟨w.heap.size + 1, 0, none⟩ = false := by rw [hB.frozen (by simp)]; go_simp
      have z1 : wr.frozen? ⟨w.heap.size + 1, 1, none⟩ = false := by rw [hB.frozen (by simp)]; go_simp
      have z2 : wr.frozen? ⟨w.heap.size + 1, 2, none⟩ = false := by rw [hB.frozen (by simp)]; go_simp
      obtain ⟨a, k, c, rfl⟩ := own_form hown
      go_wp2
      refine bodyPost_ret (v := .agg #[.bool false, .slice a k c, .int .i64 s]) ?_ rfl ⟨_, rfl, ?_, ?_⟩
      · simp [results, Tryz.results118, go_sem, r0, r1, r2]
      · have hds' : digs m.natAbs = ds := by have := hds.out; rw [digs_zero, List.append_nil] at this; exact this
        rw [hds']
        exact own_mono (ownsRow_setCell_below (ownsRow_setCell_below (ownsRow_setCell_below hown (Nat.lt_of_lt_of_le (Nat.lt_succ_self _) (Nat.le_succ _)) _) (Nat.lt_of_lt_of_le (Nat.lt_succ_self _) (Nat.le_succ _)) _) (Nat.lt_of_lt_of_le (Nat.lt_succ_self _) (Nat.le_succ _)) _) (by omega)
      · exact (((((Below.refl _ _).alloc (Nat.le_refl _) _).alloc (by simp) _).trans (hB.mono (by omega))).setCell (by simp) _ |>.setCell (by simp) _).setCell (by simp) _
    · have hk1 : 0 < (k : Int) := by omega
      have hlt : w.heap.size + 1 + 1 < wr.heap.size := by omega
      go_wp2_with (first | (at_builtin; refine wpList_append_own _ rfl _ _ 34 rfl (w.heap.size + 1 + 1 + 1) 3 i0 (.int .i64 0) 1 8 Tryz.underlying34 hi hz0 hz1 hz2 rfl (by decide) _ _ _ rfl (hown.alloc _) ⟨wr.heap.size, 0, none⟩ 1 1 [.int .i64 ((k : Int) % 10)] rfl rfl ?c1 ?c2 ?c3 ?c4 ?c5 ?_))
      case c1 =>
        intro j u hj
        match j, hj with
        | 0, hj => simp at hj; subst hj; simp [Addr.add]
      case c2 => intro u hu; simp at hu; subst hu; rfl
      case c3 => unfold maxLen; omega
      case c4 => omega
      case c5 => simp; omega
      · intro v' w1 hown' hgrow _
        have hbk : w1.heap[w.heap.size + 1 + 1]? = wr.heap[w.heap.size + 1 + 1]? := kept_block hgrow hlt (fun e => by have := (hown.lt _ e).1; omega)
        have g0 : w1.cell? ⟨w.heap.size + 1 + 1, 0, none⟩ = some (.bool false) := (World.cell?_of_block (w := wr) hbk).trans c0
        have g1 : w1.cell? ⟨w.heap.size + 1 + 1, 1, none⟩ = some v := (World.cell?_of_block (w := wr) hbk).trans c1
        have g3 : w1.cell? ⟨w.heap.size + 1 + 1, 2, none⟩ = some (.int .i64 s) := (World.cell?_of_block (w := wr) hbk).trans c2
        have g2 : w1.frozen? ⟨w.heap.size + 1 + 1, 1, none⟩ = false := (World.frozen?_of_block (w := wr) hbk).trans f1
        have hB1 : Below (w.heap.size + 1 + 1) wr w1 := ((Below.refl _ _).alloc (by omega) _).grown hgrow (by simp; omega) (fun k e => by have := (hown.lt _ e).1; omega)
        have hB2 := hB.trans hB1
        have hs1 : w.heap.size + 1 + 1 + 1 ≤ w1.heap.size := Nat.le_trans hsz hB1.size
        have hlen1 : ds.length + 1 ≤ 18 := by
          have h := hds.out
          rw [digs_pos hk0] at h
          have h2 := congrArg List.length h
          rw [List.length_append, List.length_cons] at h2
          omega
        clear hgrow hown hB hB1 hbk c0 c1 c2 f1
        obtain ⟨a', k', c', rfl⟩ := own_form hown'
        go_wp2
        refine ⟨⟨k / 10, .slice a' k' c', ds ++ [((k % 10 : Nat) : Int)], ?_, by omega, ?_, by simp; omega, ?_, ?_, ?_, ?_, ?_, by simp; omega, hB2.setCell (by simp) _⟩, ?_⟩
        · exact congrArg _ (by omega)
        · show _ = _
          rw [hds.out, digs_pos hk0, List.append_assoc]; rfl
        · have := ownsRow_setCell_below hown' (a := ⟨w.heap.size + 1 + 1, 1, none⟩) (by simp) (.slice a' k' c')
          simpa using this
        all_goals first | (go_simp; done) | skip
        simp only [intOf]; omega
set_option maxRecDepth 100000 in
set_option maxHeartbeats 1000000 in
theorem of_neg (m s : Int) (w : World) (h0 : m < 0) (h1 : -999999999999999999 ≤ m) :
    Calls Tryz.prog 118 #[.agg #[.int .i64 m, .int .i64 s]] w (IsNum true (digs m.natAbs) s w) := by
  have hlen0 := digs_len 18 m.natAbs (by omega)
  obtain ⟨i0, hi, hz0, hz1, hz2⟩ := info_parts info3
  have hm : m < 0 := h0
  have hm2 : 0 < -m := by omega
  have hm3 : 0 ≤ 0 - m := by omega
  go_enter Tryz.func118, Tryz.ntmps118
  go_wp2
  go_loopw [4] (fun mm wr => ∃ (k : Nat) (v : Value) (ds : List Int), mm = .int .i64 k ∧ (k : Int) ≤ 999999999999999999 ∧ Hid (digs m.natAbs = ds ++ digs k) ∧ ds.length ≤ 18 ∧ wr.ownsRow (w.heap.size + 1 + 1 + 1) 3 1 v ds.length (ds.map (Value.int .i64)) ∧
      wr.cell? ⟨w.heap.size + 1 + 1, 0, none⟩ = some (.bool true) ∧ wr.cell? ⟨w.heap.size + 1 + 1, 1, none⟩ = some v ∧ wr.cell? ⟨w.heap.size + 1 + 1, 2, none⟩ = some (.int .i64 s) ∧ wr.frozen? ⟨w.heap.size + 1 + 1, 1, none⟩ = false ∧ w.heap.size + 1 + 1 + 1 ≤ wr.heap.size ∧
      Below (w.heap.size + 1 + 1) ((w.alloc (.cells #[.int .i64 m, .int .i64 s] 47)).alloc (.cells #[.bool false, .slice none 0 0, .int .i64 0] 174)) wr) (fun mm _ => (intOf mm).toNat)
  case atStart =>
    refine ⟨m.natAbs, .slice none 0 0, [], ?_, by omega, rfl, by simp, World.ownsRow_nil _ _ _ _, ?_, ?_, ?_, ?_, by simp, ?_⟩
    · exact congrArg _ (by omega)
    all_goals first | (go_simp; done) | skip
    exact (Below.refl _ _).alloc (by simp) _
  case round =>
    obtain ⟨k, v, ds, rfl, hk, hds, hl, hown, c0, c1, c2, f1, hsz, hB⟩ := hrel
    by_cases hk0 : k = 0
    · subst hk0
      have r0 : wr.cell? ⟨w.heap.size + 1, 0, none⟩ = some (.bool false) := by rw [hB.cell (by simp)]; go_simp
      have r1 : wr.cell? ⟨w.heap.size + 1, 1, none⟩ = some (.slice none 0 0) := by rw [hB.cell (by simp)]; go_simp
      have r2 : wr.cell? ⟨w.heap.size + 1, 2, none⟩ = some (.int .i64 0) := by rw [hB.cell (by simp)]; go_simp
      have z0 : wr.frozen? ⟨w.heap.size + 1, 0, none⟩ = false := by rw [hB.frozen (by simp)]; go_simp
      have z1 : wr.frozen? ⟨w.heap.size + 1, 1, none⟩ = false := by rw [hB.frozen (by simp)]; go_simp
      have z2 : wr.frozen? ⟨w.heap.size + 1, 2, none⟩ = false := by rw [hB.frozen (by simp)]; go_simp
      obtain ⟨a, k, c, rfl⟩ := own_form hown
      go_wp2
      refine bodyPost_ret (v := .agg #[.bool true, .slice a k c, .int .i64 s]) ?_ rfl ⟨_, rfl, ?_, ?_⟩
      · simp [results, Tryz.results118, go_sem, r0, r1, r2]
      · have hds' : digs m.natAbs = ds := by have := hds.out; rw [digs_zero, List.append_nil] at this; exact this
        rw [hds']
        exact own_mono (ownsRow_setCell_below (ownsRow_setCell_below (ownsRow_setCell_below hown (Nat.lt_of_lt_of_le (Nat.lt_succ_self _) (Nat.le_succ _)) _) (Nat.lt_of_lt_of_le (Nat.lt_succ_self _) (Nat.le_succ _)) _) (Nat.lt_of_lt_of_le (Nat.lt_succ_self _) (Nat.le_succ _)) _) (by omega)
      · exact (((((Below.refl _ _).alloc (Nat.le_refl _) _).alloc (by simp) _).trans (hB.mono (by omega))).setCell (by simp) _ |>.setCell (by simp) _).setCell (by simp) _
    · have hk1 : 0 < (k : Int) := by omega
      have hlt : w.heap.size + 1 + 1 < wr.heap.size := by omega
      go_wp2_with (first | (at_builtin; refine wpList_append_own _ rfl _ _ 34 rfl (w.heap.size + 1 + 1 + 1) 3 i0 (.int .i64 0) 1 8 Tryz.underlying34 hi hz0 hz1 hz2 rfl (by decide) _ _ _ rfl (hown.alloc _) ⟨wr.heap.size, 0, none⟩ 1 1 [.int .i64 ((k : Int) % 10)] rfl rfl ?c1 ?c2 ?c3 ?c4 ?c5 ?_))
      case c1 =>
        intro j u hj
        match j, hj with
        | 0, hj => simp at hj; subst hj; simp [Addr.add]
      case c2 => intro u hu; simp at hu; subst hu; rfl
      case c3 => unfold maxLen; omega
      case c4 => omega
      case c5 => simp; omega
      · intro v' w1 hown' hgrow _
        have hbk : w1.heap[w.heap.size + 1 + 1]? = wr.heap[w.heap.size + 1 + 1]? := kept_block hgrow hlt (fun e => by have := (hown.lt _ e).1; omega)
        have g0 : w1.cell? ⟨w.heap.size + 1 + 1, 0, none⟩ = some (.bool true) := (World.cell?_of_block (w := wr) hbk).trans c0
        have g1 : w1.cell? ⟨w.heap.size + 1 + 1, 1, none⟩ = some v := (World.cell?_of_block (w := wr) hbk).trans c1
        have g3 : w1.cell? ⟨w.heap.size + 1 + 1, 2, none⟩ = some (.int .i64 s) := (World.cell?_of_block (w := wr) hbk).trans c2
        have g2 : w1.frozen? ⟨w.heap.size + 1 + 1, 1, none⟩ = false := (World.frozen?_of_block (w := wr) hbk).trans f1
        have hB1 : Below (w.heap.size + 1 + 1) wr w1 := ((Below.refl _ _).alloc (by omega) _).grown hgrow (by simp; omega) (fun k e => by have := (hown.lt _ e).1; omega)
        have hB2 := hB.trans hB1
        have hs1 : w.heap.size + 1 + 1 + 1 ≤ w1.heap.size := Nat.le_trans hsz hB1.size
        have hlen1 : ds.length + 1 ≤ 18 := by
          have h := hds.out
          rw [digs_pos hk0] at h
          have h2 := congrArg List.length h
          rw [List.length_append, List.length_cons] at h2
          omega
        clear hgrow hown hB hB1 hbk c0 c1 c2 f1
        obtain ⟨a', k', c', rfl⟩ := own_form hown'
        go_wp2
        refine ⟨⟨k / 10, .slice a' k' c', ds ++ [((k % 10 : Nat) : Int)], ?_, by omega, ?_, by simp; omega, ?_, ?_, ?_, ?_, ?_, by simp; omega, hB2.setCell (by simp) _⟩, ?_⟩
        · exact congrArg _ (by omega)
        · show _ = _
          rw [hds.out, digs_pos hk0, List.append_assoc]; rfl
        · have := ownsRow_setCell_below hown' (a := ⟨w.heap.size + 1 + 1, 1, none⟩) (by simp) (.slice a' k' c')
          simpa using this
        all_goals first | (go_simp; done) | skip
        simp only [intOf]; omega

theorem of_num (m s : Int) (w : World) (h : m.natAbs ≤ 999999999999999999) : Calls Tryz.prog 118 #[.agg #[.int .i64 m, .int .i64 s]] w (IsNum (decide (m < 0)) (digs m.natAbs) s w) := by
  by_cases h0 : m < 0
  · rw [decide_eq_true h0]; exact of_neg m s w h0 (by omega)
  · rw [decide_eq_false h0]; exact of_pos m s w (by omega) (by omega)
end Go.Proofs.YtdlmhienolmncaaGreat
/- The reference's digit, and rows that can be read. -/
namespace Go.Proofs.YtdlmhienolmncaaGreat
open Go.RowKit Dec

/-- A slice value that reads as this row of numbers. -/
def Reads (w : World) (v : Value) (ds : List Int) : Prop :=
  ∃ a c, v = .slice a ds.length c ∧ ds.length ≤ c ∧ (ds ≠ [] → ∃ g o, a = some ⟨g, o, none⟩ ∧ ∀ j d, ds[j]? = some d → w.cell? ⟨g, o + j, none⟩ = some (.int .i64 d))

def digitAt (ds : List Int) (i : Int) : Int := if i < 0 then 0 else ds.getD i.toNat 0

set_option maxRecDepth 100000 in
theorem digit_ok (v : Value) (ds : List Int) (i : Int) (w : World) (hv : Reads w v ds) (hl : ds.length ≤ 1000000) :
    Calls Tryz.prog 137 #[v, .int .i64 i] w fun e w' => e = .returned (.int .i64 (digitAt ds i)) ∧ w = w' := by
  obtain ⟨a, c, rfl, hc, hr⟩ := hv
  by_cases h0 : i < 0
  · have hd : digitAt ds i = 0 := if_pos h0
    rw [hd]
    go_enter Tryz.func137, Tryz.ntmps137
    go_wp2
    go_ret
    exact ⟨rfl, rfl⟩
  · obtain ⟨k, rfl⟩ : ∃ k : Nat, i = k := ⟨i.toNat, by omega⟩
    have hd : digitAt ds k = ds.getD k 0 := by unfold digitAt; rw [if_neg h0, Int.toNat_natCast]
    rw [hd]
    by_cases h1 : ds.length ≤ k
    · have hd2 : ds.getD k 0 = 0 := by simp [List.getD, List.getElem?_eq_none h1]
      rw [hd2]
      have h2 : (ds.length : Int) ≤ k := by omega
      go_enter Tryz.func137, Tryz.ntmps137
      go_wp2
      go_ret
      exact ⟨rfl, rfl⟩
    · obtain ⟨g, o, rfl, hcell⟩ := hr (by intro e; subst e; simp at h1)
      have hk : w.cell? ⟨g, o + k, none⟩ = some (.int .i64 (ds.getD k 0)) := by
        refine hcell k _ ?_
        rw [List.getD, List.getElem?_eq_getElem (by omega)]; rfl
      have h2 : (k : Int) < ds.length := by omega
      have h3 : ¬ (ds.length : Int) ≤ k := by omega
      go_enter Tryz.func137, Tryz.ntmps137
      go_wp2
      go_ret
      exact ⟨rfl, rfl⟩
end Go.Proofs.YtdlmhienolmncaaGreat
/- The walk of the reference's told. -/
namespace Go.Proofs.YtdlmhienolmncaaGreat
open Go.RowKit Dec

/-- The number of a row of digits, the lowest first. -/
def num : List Int → Nat
  | [] => 0
  | d :: l => d.toNat + 10 * num l

def Digs (ds : List Int) : Prop := ∀ d ∈ ds, 0 ≤ d ∧ d ≤ 9

theorem own_reads {w : World} {b : Nat} {v : Value} {ds : List Int} (h : w.ownsRow b 3 1 v ds.length (ds.map (Value.int .i64))) : Reads w v ds := by
  rcases h.2 with ⟨rfl, h0⟩ | ⟨g, c, cur, rfl, hb, hg, hc, hm, hs, ht⟩
  · obtain rfl : ds = [] := List.length_eq_zero_iff.1 h0
    exact ⟨none, 0, rfl, Nat.le_refl _, fun h => absurd rfl h⟩
  · refine ⟨_, c, rfl, hc, fun _ => ⟨g, 0, rfl, fun j d hj => ?_⟩⟩
    have := h.cells (g := g) rfl j (.int .i64 d) (by rw [List.getElem?_map, hj]; rfl)
    have ha : (⟨g, 0, none⟩ : Addr).add j = ⟨g, j, none⟩ := by unfold Addr.add; split <;> simp_all
    rw [ha] at this
    simpa using this

theorem reads_below {w w' : World} {v : Value} {ds : List Int} (h : Reads w v ds) (hb : Below w.heap.size w w') : Reads w' v ds := by
  obtain ⟨a, c, rfl, hc, hr⟩ := h
  refine ⟨a, c, rfl, hc, fun hne => ?_⟩
  obtain ⟨g, o, rfl, hcell⟩ := hr hne
  refine ⟨g, o, rfl, fun j d hj => ?_⟩
  have h1 := hcell j d hj
  have hlt : g < w.heap.size := by
    rcases Nat.lt_or_ge g w.heap.size with h | h
    · exact h
    · exfalso; simp [World.cell?, Array.getElem?_eq_none h] at h1
  rw [hb.cell (p := ⟨g, o + j, none⟩) hlt]; exact h1

/-- A row that can be appended: nil, or at an address. -/
def Row (w : World) (v : Value) (ds : List Int) : Prop :=
  (v = .slice none 0 0 ∧ ds = []) ∨ ∃ g o c, v = .slice (some ⟨g, o, none⟩) ds.length c ∧ ds.length ≤ c ∧ ∀ j d, ds[j]? = some d → w.cell? ⟨g, o + j, none⟩ = some (.int .i64 d)

theorem num_mod {d : Int} {l : List Int} (h : 0 ≤ d ∧ d ≤ 9) : num (d :: l) % 10 = d.toNat ∧ num (d :: l) / 10 = num l := by
  show (d.toNat + 10 * num l) % 10 = _ ∧ (d.toNat + 10 * num l) / 10 = _
  omega
theorem Digs.tail {ds : List Int} (h : Digs ds) : Digs ds.tail := fun d hd => h d (List.mem_of_mem_tail hd)
theorem strip_row {k : Nat} {ds : List Int} (hD : Digs ds) (h : digitAt ds 0 = 0) (hk : 0 < k) : strip k (num ds) = strip (k - 1) (num ds.tail) := by
  obtain ⟨k, rfl⟩ : ∃ q, k = q + 1 := ⟨k - 1, by omega⟩
  cases ds with
  | nil => exact strip_go k 0 rfl
  | cons d l =>
    obtain ⟨h1, h2⟩ := num_mod (l := l) (hD d (by simp))
    have h0 : d = 0 := h
    rw [strip_go _ _ (by rw [h1, h0]; rfl), h2]; rfl
theorem strip_end {k : Nat} {ds : List Int} (hD : Digs ds) (h : ¬ (0 < k ∧ digitAt ds 0 = 0)) : strip k (num ds) = (num ds, k) := by
  cases k with
  | zero => rfl
  | succ k =>
    cases ds with
    | nil => exact absurd ⟨Nat.succ_pos _, rfl⟩ h
    | cons d l =>
      have hd := hD d (by simp)
      obtain ⟨h1, h2⟩ := num_mod (l := l) hd
      have h0 : d ≠ 0 := fun e => h ⟨Nat.succ_pos _, e⟩
      exact strip_stop _ _ (by rw [h1]; omega)
theorem reads_tail {w : World} {g o c : Nat} {ds : List Int} (h : Reads w (.slice (some ⟨g, o, none⟩) ds.length c) ds) (hne : ds ≠ []) :
    Reads w (.slice (if c = 1 then some ⟨g, o, none⟩ else some ⟨g, o + 1, none⟩) (ds.length - 1) (c - 1)) ds.tail := by
  obtain ⟨a, c', e, hc, hr⟩ := h
  cases e
  obtain ⟨g', o', e, hcell⟩ := hr hne
  cases e
  cases ds with
  | nil => exact absurd rfl hne
  | cons d l =>
    simp only [List.length_cons] at hc ⊢
    refine ⟨_, _, rfl, by simp; omega, fun hl => ?_⟩
    have : l.length ≠ 0 := fun e => hl (List.length_eq_zero_iff.1 e)
    refine ⟨g, o + 1, if_neg (by omega), fun j x hj => ?_⟩
    have := hcell (j + 1) x hj
    rw [show o + 1 + j = o + (j + 1) by omega]; exact this
theorem reads_init {w : World} {a : Option Addr} {c : Nat} {ds : List Int} (h : Reads w (.slice a ds.length c) ds) : Reads w (.slice a (ds.length - 1) c) ds.dropLast := by
  obtain ⟨a', c', e, hc, hr⟩ := h
  cases e
  refine ⟨a, c, by rw [List.length_dropLast], by rw [List.length_dropLast]; omega, fun hne => ?_⟩
  obtain ⟨g, o, rfl, hcell⟩ := hr (by intro e; subst e; exact hne rfl)
  refine ⟨g, o, rfl, fun j x hj => hcell j x ?_⟩
  rw [List.dropLast_eq_take] at hj
  rw [List.getElem?_take] at hj
  split at hj
  · exact hj
  · cases hj
theorem num_append (a b : List Int) : num (a ++ b) = num a + 10 ^ a.length * num b := by
  induction a with
  | nil => simp [num]
  | cons d l ih => simp only [List.cons_append, num, ih, List.length_cons, Nat.pow_succ]; rw [Nat.mul_add, Nat.mul_comm (10 ^ _) 10, Nat.mul_assoc]; omega
theorem num_lt : ∀ {ds : List Int}, Digs ds → num ds < 10 ^ ds.length := by
  intro ds
  induction ds with
  | nil => intro _; exact Nat.one_pos
  | cons d l ih =>
    intro h
    have h1 := ih (fun x hx => h x (by simp [hx]))
    have h2 := h d (by simp)
    simp only [num, List.length_cons, Nat.pow_succ]
    omega
/-- A nought at the end is struck. -/
theorem num_init {ds : List Int} (hne : ds ≠ []) (h : ds.getD (ds.length - 1) 0 = 0) : num ds.dropLast = num ds := by
  have h1 := List.dropLast_concat_getLast hne
  have h2 : ds.getLast hne = 0 := by
    rw [List.getLast_eq_getElem]
    rw [List.getD, List.getElem?_eq_getElem (by have := List.length_pos_iff.2 hne; omega)] at h
    exact h
  have h3 := num_append ds.dropLast [ds.getLast hne]
  rw [h1, h2] at h3
  simp [num] at h3
  exact h3.symm
theorem num_ge {ds : List Int} (hD : Digs ds) (hne : ds ≠ []) (h : ds.getD (ds.length - 1) 0 ≠ 0) : 10 ^ (ds.length - 1) ≤ num ds := by
  have h1 := List.dropLast_concat_getLast hne
  have h2 : ds.getLast hne ≠ 0 := by
    rw [List.getLast_eq_getElem]
    rw [List.getD, List.getElem?_eq_getElem (by have := List.length_pos_iff.2 hne; omega)] at h
    exact h
  have h3 := num_append ds.dropLast [ds.getLast hne]
  rw [h1, List.length_dropLast] at h3
  have h4 := hD _ (List.getLast_mem hne)
  have h5 : 1 ≤ num [ds.getLast hne] := by show 1 ≤ (ds.getLast hne).toNat + 10 * 0; omega
  calc 10 ^ (ds.length - 1) = 10 ^ (ds.length - 1) * 1 := (Nat.mul_one _).symm
    _ ≤ 10 ^ (ds.length - 1) * num [ds.getLast hne] := Nat.mul_le_mul_left _ h5
    _ ≤ num ds := by omega
theorem Digs.init {ds : List Int} (h : Digs ds) : Digs ds.dropLast := fun d hd => h d (List.mem_of_mem_take (List.dropLast_eq_take ▸ hd))
theorem num_drop {ds : List Int} {p : Nat} (h : p < ds.length) : num (ds.drop p) = (ds.getD p 0).toNat + 10 * num (ds.drop (p + 1)) := by
  rw [List.drop_eq_getElem_cons h, List.getD, List.getElem?_eq_getElem h]; rfl
theorem Digs.drop {ds : List Int} (h : Digs ds) (k : Nat) : Digs (ds.drop k) := fun d hd => h d (List.mem_of_mem_drop hd)
theorem Digs.at {ds : List Int} (h : Digs ds) {p : Nat} (hp : p < ds.length) : 0 ≤ ds.getD p 0 ∧ ds.getD p 0 ≤ 9 := by
  rw [List.getD, List.getElem?_eq_getElem hp]; exact h _ (List.getElem_mem hp)
theorem num_bound {ds : List Int} (h : Digs ds) {k : Nat} (hk : ds.length ≤ k) : num ds < 10 ^ k := Nat.lt_of_lt_of_le (num_lt h) (Nat.pow_le_pow_right (by decide) hk)
theorem told_ok {b : Bool} {ds ds' d2 : List Int} {s k : Nat} {V : Int} (hV : V = if b = true then -(num ds : Int) else (num ds : Int)) (hst : strip s (num ds) = (num ds', k)) (hn : num d2 = num ds') (hD : Digs d2) (hl : d2.length ≤ 18) (hk : k ≤ 9) :
    Denotes V s (if b = true then -(num d2 : Int) else (num d2 : Int)) k 0 := by
  have hb := num_bound hD hl
  cases b
  · refine den_strip (n := num ds) (by rw [hV]; simp) ?_ (.inr ⟨by rw [hV]; simp, by simp⟩) (by rw [hst]) ?_ hk
    · rw [hst]; simpa using hn
    · simp; omega
  · refine den_strip (n := num ds) (by rw [hV]; simp) ?_ (.inl ⟨by rw [hV]; simp, by simp⟩) (by rw [hst]) ?_ hk
    · rw [hst]; simpa using hn
    · simp; omega
theorem told_over {b : Bool} {ds ds' d2 : List Int} {s k : Nat} {V : Int} (hV : V = if b = true then -(num ds : Int) else (num ds : Int)) (hst : strip s (num ds) = (num ds', k)) (hn : num d2 = num ds') (hD : Digs d2) (hend : d2.length = 0 ∨ d2.getD (d2.length - 1) 0 ≠ 0)
    (h : 18 < d2.length ∨ 9 < k) : Denotes V s 0 0 5 := by
  refine den_over (n := num ds) (by rw [hV]; cases b <;> simp) ?_
  rw [hst]
  rcases h with h | h
  · left
    have hne : d2 ≠ [] := by intro e; subst e; simp at h
    have h1 := num_ge hD hne (hend.resolve_left (by omega))
    have h2 : 10 ^ 18 ≤ 10 ^ (d2.length - 1) := Nat.pow_le_pow_right (by decide) (by omega)
    show 999999999999999999 < num ds'
    omega
  · exact .inr h
def lenOf : Value → Nat | .slice _ n _ => n | _ => 0

theorem src_cells {w w' : World} {g o : Nat} {ds : List Int} (h : ∀ j d, ds[j]? = some d → w.cell? ⟨g, o + j, none⟩ = some (.int .i64 d)) (hb : Below w.heap.size w w') :
    ∀ j u, (ds.map (Value.int .i64))[j]? = some u → w'.cell? ((⟨g, o, none⟩ : Addr).add j) = some u := by
  intro j u hj
  rw [List.getElem?_map] at hj
  cases hd : ds[j]? with
  | none => rw [hd] at hj; cases hj
  | some d =>
    rw [hd] at hj
    cases hj
    have h1 := h j d hd
    have ha : (⟨g, o, none⟩ : Addr).add j = ⟨g, o + j, none⟩ := by unfold Addr.add; split <;> simp_all
    have hlt : g < w.heap.size := by
      rcases Nat.lt_or_ge g w.heap.size with h | h
      · exact h
      · exfalso; simp [World.cell?, Array.getElem?_eq_none h] at h1
    rw [ha, hb.cell (p := ⟨g, o + j, none⟩) hlt]; exact h1

end Go.Proofs.YtdlmhienolmncaaGreat
/- The reference's Make: the walk. -/
namespace Go.Proofs.YtdlmhienolmncaaGreat
open Go.RowKit Dec

theorem num_digs : ∀ (u : Nat), num (digs u) = u ∧ Digs (digs u) := by
  intro u
  induction u using Nat.strongRecOn with
  | _ u ih =>
    by_cases h : u = 0
    · subst h; rw [digs_zero]; exact ⟨rfl, fun d hd => by cases hd⟩
    · obtain ⟨h1, h2⟩ := ih (u / 10) (by omega)
      rw [digs_pos h]
      refine ⟨?_, fun d hd => ?_⟩
      · show ((u % 10 : Nat) : Int).toNat + 10 * num (digs (u / 10)) = u
        rw [h1]; omega
      · rcases List.mem_cons.1 hd with rfl | hd
        · omega
        · exact h2 d hd

theorem own_row {w : World} {b : Nat} {v : Value} {ds : List Int} (h : w.ownsRow b 3 1 v ds.length (ds.map (Value.int .i64))) : Row w v ds := by
  rcases h.2 with ⟨rfl, h0⟩ | ⟨g, c, cur, rfl, hb, hg, hc, hm, hs, ht⟩
  · obtain rfl : ds = [] := List.length_eq_zero_iff.1 h0
    exact .inl ⟨rfl, rfl⟩
  · refine .inr ⟨g, 0, c, rfl, hc, fun j d hj => ?_⟩
    have := h.cells (g := g) rfl j (.int .i64 d) (by rw [List.getElem?_map, hj]; rfl)
    have ha : (⟨g, 0, none⟩ : Addr).add j = ⟨g, j, none⟩ := by unfold Addr.add; split <;> simp_all
    rw [ha] at this
    simpa using this
theorem row_reads {w : World} {v : Value} {ds : List Int} (h : Row w v ds) : Reads w v ds := by
  rcases h with ⟨rfl, rfl⟩ | ⟨g, o, c, rfl, hc, hr⟩
  · exact ⟨none, 0, rfl, Nat.le_refl _, fun h => absurd rfl h⟩
  · exact ⟨_, c, rfl, hc, fun _ => ⟨g, o, rfl, hr⟩⟩
theorem row_below {w w' : World} {v : Value} {ds : List Int} (h : Row w v ds) (hb : Below w.heap.size w w') : Row w' v ds := by
  rcases h with ⟨rfl, rfl⟩ | ⟨g, o, c, rfl, hc, hr⟩
  · exact .inl ⟨rfl, rfl⟩
  · refine .inr ⟨g, o, c, rfl, hc, fun j d hj => ?_⟩
    have h1 := hr j d hj
    have hlt : g < w.heap.size := by
      rcases Nat.lt_or_ge g w.heap.size with h | h
      · exact h
      · exfalso; simp [World.cell?, Array.getElem?_eq_none h] at h1
    rw [hb.cell (p := ⟨g, o + j, none⟩) hlt]; exact h1

end Go.Proofs.YtdlmhienolmncaaGreat

/- The reference's less: the walk. -/
namespace Go.Proofs.YtdlmhienolmncaaGreat
open Go.RowKit Dec

theorem num_split (ds : List Int) (p : Nat) : num ds = num (ds.take p) + 10 ^ p * num (ds.drop p) := by
  rcases Nat.le_total p ds.length with h | h
  · have := num_append (ds.take p) (ds.drop p)
    rw [List.take_append_drop, List.length_take, Nat.min_eq_left h] at this
    exact this
  · rw [List.take_of_length_le h, List.drop_of_length_le h]; simp [num]
theorem num_take_lt {ds : List Int} (h : Digs ds) (p : Nat) : num (ds.take p) < 10 ^ p :=
  num_bound (fun d hd => h d (List.mem_of_mem_take hd)) (by rw [List.length_take]; exact Nat.min_le_left _ _)
theorem digitAt_nat (ds : List Int) (p : Nat) : digitAt ds p = ds.getD p 0 := by
  unfold digitAt; rw [if_neg (by omega), Int.toNat_natCast]
theorem digitAt_le {ds : List Int} (h : Digs ds) (p : Nat) : 0 ≤ digitAt ds p ∧ digitAt ds p ≤ 9 := by
  rw [digitAt_nat]
  rcases Nat.lt_or_ge p ds.length with hp | hp
  · exact h.at hp
  · rw [List.getD, List.getElem?_eq_none hp]; decide
theorem num_digit (ds : List Int) (p : Nat) : num (ds.drop p) = (digitAt ds p).toNat + 10 * num (ds.drop (p + 1)) := by
  rw [digitAt_nat]
  rcases Nat.lt_or_ge p ds.length with hp | hp
  · exact num_drop hp
  · rw [List.drop_of_length_le hp, List.drop_of_length_le (Nat.le_succ_of_le hp), List.getD, List.getElem?_eq_none hp]; rfl

/-- The first digit from above that differs tells. -/
theorem less_at {a b : List Int} (ha : Digs a) (hb : Digs b) {p : Nat} (he : num (a.drop (p + 1)) = num (b.drop (p + 1))) (hne : digitAt a p ≠ digitAt b p) :
    (digitAt a p < digitAt b p ↔ num a < num b) := by
  have h1 := num_split a p
  have h2 := num_split b p
  have h3 := num_take_lt ha p
  have h4 := num_take_lt hb p
  have h5 := num_digit a p
  have h6 := num_digit b p
  have h7 := digitAt_le ha p
  have h8 := digitAt_le hb p
  rcases Int.lt_or_gt_of_ne hne with h | h
  · have hx : num (a.drop p) + 1 ≤ num (b.drop p) := by omega
    have hy := Nat.mul_le_mul_left (10 ^ p) hx
    rw [Nat.mul_add] at hy
    constructor
    · intro _; omega
    · intro _; exact h
  · have hx : num (b.drop p) + 1 ≤ num (a.drop p) := by omega
    have hy := Nat.mul_le_mul_left (10 ^ p) hx
    rw [Nat.mul_add] at hy
    constructor
    · intro h'; omega
    · intro h'; omega

set_option maxRecDepth 100000 in
set_option maxHeartbeats 1000000 in
theorem less_any (va vb : Value) (a b : List Int) (w : World) (ha : Reads w va a) (hb : Reads w vb b) (hda : Digs a) (hdb : Digs b) (la : a.length ≤ 1000) (lb : b.length ≤ 1000) :
    Calls Tryz.prog 120 #[va, vb] w fun e w' => e = .returned (.bool (decide (num a < num b))) ∧ w = w' := by
  have HA := Lib.hid ha
  have HB := Lib.hid hb
  have HDA := Lib.hid hda
  have HDB := Lib.hid hdb
  obtain ⟨aa, ca, rfl, hca, -⟩ := ha
  obtain ⟨ab, cb, rfl, hcb, -⟩ := hb
  clear hda hdb
  go_enter Tryz.func120, Tryz.ntmps120
  go_wp2
  go_loop [5] (fun i => ∃ (I : Int) (j : Nat), i = .int .i64 I ∧ I + 1 = j ∧ j ≤ 1000 ∧ Hid (num (a.drop j) = num (b.drop j))) (fun i => (intOf i + 1).toNat)
  case atStart =>
    refine ⟨_, max a.length b.length, rfl, by omega, by omega, ?_⟩
    show _ = _
    rw [List.drop_of_length_le (Nat.le_max_left _ _), List.drop_of_length_le (Nat.le_max_right _ _)]
  case round =>
    obtain ⟨I, j, rfl, hI, hj, hn⟩ := hrel
    by_cases hj0 : j = 0
    · subst hj0
      obtain rfl : I = -1 := by omega
      have hd : Hid (decide (num a < num b) = false) := decide_eq_false (by have h : num a = num b := hn.out; omega)
      go_wp2
      go_ret
      rw [hd.out]
      exact ⟨rfl, rfl⟩
    · obtain ⟨p, rfl⟩ : ∃ p, j = p + 1 := ⟨j - 1, by omega⟩
      obtain rfl : I = p := by omega
      by_cases hXY : digitAt a p = digitAt b p
      · have hn' : Hid (num (a.drop p) = num (b.drop p)) := by show _ = _; rw [num_digit a p, num_digit b p, hXY, hn.out]
        clear hn
        go_wp2_with (first | (go_at_call 137; with_reducible refine (digit_ok (.slice aa a.length ca) a p w HA.out (by omega)).mono ?_; rintro e w' ⟨rfl, rfl⟩) | (go_at_call 137; with_reducible refine (digit_ok (.slice ab b.length cb) b p w HB.out (by omega)).mono ?_; rintro e w' ⟨rfl, rfl⟩))
        refine ⟨⟨_, p, rfl, by omega, by omega, hn'⟩, ?_⟩
        simp only [intOf]; omega
      · have hd : Hid (decide (num a < num b) = decide (digitAt a p < digitAt b p)) := decide_eq_decide.2 (less_at HDA.out HDB.out hn.out hXY).symm
        clear hn
        go_wp2_with (first | (go_at_call 137; with_reducible refine (digit_ok (.slice aa a.length ca) a p w HA.out (by omega)).mono ?_; rintro e w' ⟨rfl, rfl⟩) | (go_at_call 137; with_reducible refine (digit_ok (.slice ab b.length cb) b p w HB.out (by omega)).mono ?_; rintro e w' ⟨rfl, rfl⟩))
        go_ret
        rw [hd.out]
        exact ⟨rfl, rfl⟩
end Go.Proofs.YtdlmhienolmncaaGreat
/- The reference's lift: the walk. -/
namespace Go.Proofs.YtdlmhienolmncaaGreat
open Go.RowKit Dec

def cellNat (o : Option Value) : Nat := match o with | some (.int _ n) => n.toNat | _ => 0

/-- A number that a call answers: a row of its own. -/
def IsRow (b : Bool) (ds : List Int) (s : Int) (w : World) (e : Ending) (w' : World) : Prop :=
  ∃ v, e = .returned (.agg #[.bool b, v, .int .i64 s]) ∧ w'.ownsRow w.heap.size 3 1 v ds.length (ds.map (Value.int .i64)) ∧ Below w.heap.size w w'

set_option maxRecDepth 100000 in
set_option maxHeartbeats 1000000 in
theorem lift_any (b : Bool) (v : Value) (ds : List Int) (s t : Nat) (w : World) (hv : Row w v ds) (hl : ds.length ≤ 1000) (hs : s ≤ 1000) (ht : t ≤ 1000) :
    Calls Tryz.prog 119 #[.agg #[.bool b, v, .int .i64 s], .int .i64 t] w (IsRow b (List.replicate (t - s) 0 ++ ds) (max s t : Nat) w) := by
  obtain ⟨i0, hi, hz0, hz1, hz2⟩ := info_parts info3
  have HV := Lib.hid hv
  have hform : ∃ a n c, v = .slice a n c := by
    rcases hv with ⟨rfl, -⟩ | ⟨g, o, c, rfl, -, -⟩
    · exact ⟨_, _, _, rfl⟩
    · exact ⟨_, _, _, rfl⟩
  obtain ⟨a0, n0, c0, rfl⟩ := hform
  clear hv
  go_enter Tryz.func119, Tryz.ntmps119
  go_wp2
  go_loopw [22] (fun _ wr => ∃ (k : Nat) (v : Value), (s + k : Nat) ≤ max s t ∧ wr.ownsRow (w.heap.size + 1 + 1 + 1) 3 1 v k ((List.replicate k (0 : Int)).map (Value.int .i64)) ∧
      wr.cell? ⟨w.heap.size + 1 + 1, 0, none⟩ = some (.bool b) ∧ wr.cell? ⟨w.heap.size + 1 + 1, 1, none⟩ = some v ∧ wr.cell? ⟨w.heap.size + 1 + 1, 2, none⟩ = some (.int .i64 ((s : Int) + k)) ∧ wr.frozen? ⟨w.heap.size + 1 + 1, 1, none⟩ = false ∧ wr.frozen? ⟨w.heap.size + 1 + 1, 2, none⟩ = false ∧ w.heap.size + 1 + 1 + 1 ≤ wr.heap.size ∧
      Below (w.heap.size + 1 + 1) ((w.alloc (.cells #[.bool b, .slice a0 n0 c0, .int .i64 s] 174)).alloc (.cells #[.bool false, .slice none 0 0, .int .i64 0] 174)) wr) (fun _ wr => t - cellNat (wr.cell? ⟨w.heap.size + 1 + 1, 2, none⟩))
  case atStart =>
    refine ⟨0, .slice none 0 0, Nat.le_max_left _ _, World.ownsRow_nil _ _ _ _, ?_, ?_, ?_, ?_, ?_, by simp, ?_⟩
    all_goals first | (go_simp; done) | skip
    exact (Below.refl _ _).alloc (by simp) _
  case round =>
    obtain ⟨k, v, hk, hown, c0', c1', c2', f1, f2, hsz, hB⟩ := hrel
    have hlt : w.heap.size + 1 + 1 < wr.heap.size := by omega
    by_cases hgo : s + k < t
    · have hgo1 : ((s + k : Nat) : Int) < t := by omega
      go_wp2_with (first | (at_builtin; refine wpList_append_own _ rfl _ _ 34 rfl (w.heap.size + 1 + 1 + 1) 3 i0 (.int .i64 0) 1 8 Tryz.underlying34 hi hz0 hz1 hz2 rfl (by decide) _ _ _ rfl (hown.alloc _) ⟨wr.heap.size, 0, none⟩ 1 1 [.int .i64 0] rfl rfl ?c1 ?c2 ?c3 ?c4 ?c5 ?_))
      case c1 =>
        intro j u hj
        match j, hj with
        | 0, hj => simp at hj; subst hj; simp [Addr.add]
      case c2 => intro u hu; simp at hu; subst hu; rfl
      case c3 => unfold maxLen; omega
      case c4 => omega
      case c5 => simp; omega
      · intro v' w1 hown' hgrow _
        have hbk : w1.heap[w.heap.size + 1 + 1]? = wr.heap[w.heap.size + 1 + 1]? := kept_block hgrow hlt (fun e => by have := (hown.lt _ e).1; omega)
        have g0 : w1.cell? ⟨w.heap.size + 1 + 1, 0, none⟩ = some (.bool b) := (World.cell?_of_block (w := wr) hbk).trans c0'
        have g1 : w1.cell? ⟨w.heap.size + 1 + 1, 1, none⟩ = some v := (World.cell?_of_block (w := wr) hbk).trans c1'
        have g3 : w1.cell? ⟨w.heap.size + 1 + 1, 2, none⟩ = some (.int .i64 ((s : Int) + k)) := (World.cell?_of_block (w := wr) hbk).trans c2'
        have g2 : w1.frozen? ⟨w.heap.size + 1 + 1, 1, none⟩ = false := (World.frozen?_of_block (w := wr) hbk).trans f1
        have g4 : w1.frozen? ⟨w.heap.size + 1 + 1, 2, none⟩ = false := (World.frozen?_of_block (w := wr) hbk).trans f2
        have hB1 : Below (w.heap.size + 1 + 1) wr w1 := ((Below.refl _ _).alloc (by omega) _).grown hgrow (by simp; omega) (fun k e => by have := (hown.lt _ e).1; omega)
        have hB2 := Lib.hid (hB.trans hB1)
        have hs1 : w.heap.size + 1 + 1 + 1 ≤ w1.heap.size := Nat.le_trans hsz hB1.size
        have HC := Lib.hid c2'
        clear hgrow hown hB hB1 hbk c0' c1' c2' f1 f2
        obtain ⟨a', k', c', rfl⟩ := own_form hown'
        have HO := Lib.hid hown'
        clear hown'
        go_wp2
        refine ⟨⟨k + 1, .slice a' k' c', by omega, ?_, ?_, ?_, ?_, ?_, ?_, by simp; omega, (hB2.out.setCell (by simp) _).setCell (by simp) _⟩, ?_⟩
        · have h := ownsRow_setCell_below (ownsRow_setCell_below HO.out (a := ⟨w.heap.size + 1 + 1, 1, none⟩) (by simp) (.slice a' k' c')) (a := ⟨w.heap.size + 1 + 1, 2, none⟩) (by simp) (.int .i64 ((s : Int) + k + 1))
          rw [List.replicate_succ', List.map_append]
          simpa using h
        all_goals first | (go_simp; done) | skip
        · have : (s : Int) + k + 1 = s + (k + 1 : Nat) := by omega
          rw [← this]; go_simp
        · rw [HC.out]
          go_simp
          simp only [cellNat]
          omega
    · have hkq : Hid (k = t - s) := by show _ = _; omega
      have hst : Hid ((s : Int) + k = (max s t : Nat)) := by show _ = _; omega
      have hgo1 : ¬ ((s : Int) + k) < t := by omega
      have n1 : wr.cell? ⟨w.heap.size, 1, none⟩ = some (.slice a0 n0 c0) := by rw [hB.cell (by simp; omega)]; go_simp
      have r0 : wr.cell? ⟨w.heap.size + 1, 0, none⟩ = some (.bool false) := by rw [hB.cell (by simp)]; go_simp
      have r1 : wr.cell? ⟨w.heap.size + 1, 1, none⟩ = some (.slice none 0 0) := by rw [hB.cell (by simp)]; go_simp
      have r2 : wr.cell? ⟨w.heap.size + 1, 2, none⟩ = some (.int .i64 0) := by rw [hB.cell (by simp)]; go_simp
      have z0 : wr.frozen? ⟨w.heap.size + 1, 0, none⟩ = false := by rw [hB.frozen (by simp)]; go_simp
      have z1 : wr.frozen? ⟨w.heap.size + 1, 1, none⟩ = false := by rw [hB.frozen (by simp)]; go_simp
      have z2 : wr.frozen? ⟨w.heap.size + 1, 2, none⟩ = false := by rw [hB.frozen (by simp)]; go_simp
      rcases HV.out with ⟨hnil, hds⟩ | ⟨g, o, c, hsl, hc, hr⟩
      · cases hnil
        subst hds
        obtain ⟨a', k', c', rfl⟩ := own_form hown
        have HB := Lib.hid hB
        have HO := Lib.hid hown
        clear hB hgo
        go_wp2_with (first | (at_builtin; refine wpList_append_own_none rfl _ _ 34 rfl (w.heap.size + 1 + 1 + 1) 3 i0 1 Tryz.underlying34 hi (.slice a' k' c') k _ rfl HO.out rfl ?_))
        refine bodyPost_ret (v := .agg #[.bool b, .slice a' k' c', .int .i64 ((s : Int) + k)]) ?_ rfl ⟨_, by rw [hst.out], ?_, ?_⟩
        · simp [results, Tryz.results119, go_sem, r0, r1, r2]
        · have h := ownsRow_setCell_below (ownsRow_setCell_below (ownsRow_setCell_below (ownsRow_setCell_below HO.out (a := ⟨w.heap.size + 1 + 1, 1, none⟩) (by simp) (.slice a' k' c')) (a := ⟨w.heap.size + 1, 0, none⟩) (by simp) (.bool b)) (a := ⟨w.heap.size + 1, 1, none⟩) (by simp) (.slice a' k' c')) (a := ⟨w.heap.size + 1, 2, none⟩) (by simp) (.int .i64 ((s : Int) + k))
          rw [← hkq.out]
          exact own_mono (b := w.heap.size + 1 + 1 + 1) (by simpa using h) (by omega)
        · exact ((((((Below.refl _ _).alloc (Nat.le_refl _) _).alloc (by simp) _).trans (HB.out.mono (by omega))).setCell (by simp; omega) _ |>.setCell (by simp) _).setCell (by simp) _).setCell (by simp) _
      · cases hsl
        have hcells := src_cells hr (((Below.refl _ _).alloc (Nat.le_refl _) _).alloc (by simp) _ |>.trans (hB.mono (by omega)))
        go_wp2_with (first | (at_builtin; refine wpList_append_own _ rfl _ _ 34 rfl (w.heap.size + 1 + 1 + 1) 3 i0 (.int .i64 0) 1 8 Tryz.underlying34 hi hz0 hz1 hz2 rfl (by decide) _ _ _ rfl hown ⟨g, o, none⟩ ds.length c0 (ds.map (Value.int .i64)) rfl (by simp) hcells ?c2 ?c3 ?c4 ?c5 ?_))
        case c2 => intro u hu; first | rfl | (obtain ⟨d, -, rfl⟩ := List.mem_map.1 hu; rfl)
        case c3 => unfold maxLen; omega
        case c4 => omega
        · intro v' w1 hown' hgrow _
          clear hcells
          have hkb : ∀ b, b < w.heap.size + 1 + 1 + 1 → w1.heap[b]? = wr.heap[b]? := fun b hb => hgrow.block b (by omega) (fun e => by have := (hown.lt _ e.symm).1; omega)
          have g0 : w1.cell? ⟨w.heap.size + 1 + 1, 0, none⟩ = some (.bool b) := (World.cell?_of_block (w := wr) (hkb _ (by simp))).trans c0'
          have g1 : w1.cell? ⟨w.heap.size + 1 + 1, 1, none⟩ = some v := (World.cell?_of_block (w := wr) (hkb _ (by simp))).trans c1'
          have g3 : w1.cell? ⟨w.heap.size + 1 + 1, 2, none⟩ = some (.int .i64 ((s : Int) + k)) := (World.cell?_of_block (w := wr) (hkb _ (by simp))).trans c2'
          have g2 : w1.frozen? ⟨w.heap.size + 1 + 1, 1, none⟩ = false := (World.frozen?_of_block (w := wr) (hkb _ (by simp))).trans f1
          have r0' : w1.cell? ⟨w.heap.size + 1, 0, none⟩ = some (.bool false) := (World.cell?_of_block (w := wr) (hkb _ (by simp))).trans r0
          have r1' : w1.cell? ⟨w.heap.size + 1, 1, none⟩ = some (.slice none 0 0) := (World.cell?_of_block (w := wr) (hkb _ (by simp))).trans r1
          have r2' : w1.cell? ⟨w.heap.size + 1, 2, none⟩ = some (.int .i64 0) := (World.cell?_of_block (w := wr) (hkb _ (by simp))).trans r2
          have z0' : w1.frozen? ⟨w.heap.size + 1, 0, none⟩ = false := (World.frozen?_of_block (w := wr) (hkb _ (by simp))).trans z0
          have z1' : w1.frozen? ⟨w.heap.size + 1, 1, none⟩ = false := (World.frozen?_of_block (w := wr) (hkb _ (by simp))).trans z1
          have z2' : w1.frozen? ⟨w.heap.size + 1, 2, none⟩ = false := (World.frozen?_of_block (w := wr) (hkb _ (by simp))).trans z2
          have hB1 : Below (w.heap.size + 1 + 1) wr w1 := (Below.refl _ _).grown hgrow (by omega) (fun k e => by have := (hown.lt _ e).1; omega)
          have HB := Lib.hid (hB.trans hB1)
          obtain ⟨a', k', c', rfl⟩ := own_form hown'
          have HO := Lib.hid hown'
          clear hown' hown hgrow hkb hB hB1 c0' c1' c2' f1 f2 r0 r1 r2 z0 z1 z2 n1
          go_wp2
          refine bodyPost_ret (v := .agg #[.bool b, .slice a' k' c', .int .i64 ((s : Int) + k)]) ?_ rfl ⟨_, by rw [hst.out], ?_, ?_⟩
          · simp [results, Tryz.results119, go_sem, r0', r1', r2']
          · have h := ownsRow_setCell_below (ownsRow_setCell_below (ownsRow_setCell_below (ownsRow_setCell_below HO.out (a := ⟨w.heap.size + 1 + 1, 1, none⟩) (by simp) (.slice a' k' c')) (a := ⟨w.heap.size + 1, 0, none⟩) (by simp) (.bool b)) (a := ⟨w.heap.size + 1, 1, none⟩) (by simp) (.slice a' k' c')) (a := ⟨w.heap.size + 1, 2, none⟩) (by simp) (.int .i64 ((s : Int) + k))
            rw [← hkq.out]
            exact own_mono (b := w.heap.size + 1 + 1 + 1) (by simpa using h) (by omega)
          · exact ((((((Below.refl _ _).alloc (Nat.le_refl _) _).alloc (by simp) _).trans (HB.out.mono (by omega))).setCell (by simp; omega) _ |>.setCell (by simp) _).setCell (by simp) _).setCell (by simp) _
end Go.Proofs.YtdlmhienolmncaaGreat
/- The reference's Right and Neg: the walks. -/
namespace Go.Proofs.YtdlmhienolmncaaGreat
open Go.RowKit Dec

theorem ret_bool {a b : Bool} (h : a = b) : Ending.returned (.bool a) = .returned (.bool b) := by rw [h]
theorem tm10 (m : Int) : m.tmod 10 = 0 ↔ m % 10 = 0 := by rw [← Int.dvd_iff_tmod_eq_zero, ← Int.dvd_iff_emod_eq_zero]

set_option maxRecDepth 100000 in
theorem right_any (m s : Int) (w : World) : Calls Tryz.prog 52 #[.agg #[.int .i64 m, .int .i64 s]] w fun e w' => e = .returned (.bool (decide (Valid m s))) ∧ Below w.heap.size w w' := by
  obtain ⟨B, hB⟩ : ∃ B, B = decide (Valid m s) := ⟨_, rfl⟩
  rw [← hB]
  have H := Lib.hid hB
  clear hB
  go_enter Tryz.func52, Tryz.ntmps52
  go_wp2
  all_goals go_ret
  all_goals refine ⟨?_, (Below.refl _ _).alloc (Nat.le_refl _) _⟩
  all_goals rw [H.out]
  all_goals refine ret_bool ?_
  all_goals rw [Bool.eq_iff_iff, decide_eq_true_iff]
  all_goals simp [Valid, tm10]
  all_goals omega

end Go.Proofs.YtdlmhienolmncaaGreat

/- A number that lies in a variable of the reference's, its digits in a row of their own. -/
namespace Go.Proofs.YtdlmhienolmncaaGreat
open Go.RowKit Dec

theorem own_slice' {w : World} {base : Nat} {e : TypeId} {size : Nat} {v : Value} {n : Nat} {xs : List Value} (h : w.ownsRow base e size v n xs) : ∃ a c, v = .slice a n c := by
  obtain ⟨_, h⟩ := h
  rcases h with ⟨rfl, rfl⟩ | ⟨g, cap, cur, rfl, _⟩
  · exact ⟨none, 0, rfl⟩
  · exact ⟨_, cap, rfl⟩

abbrev ivd (ds : List Int) : List Value := ds.map (Value.int .i64)
/-- Block P holds a number: its sign, its digits (the lowest first) in a row of the program's own, how many stand behind the point. -/
def NV (w : World) (P : Nat) (b : Bool) (ds : List Int) (s : Int) (v : Value) (base : Nat) : Prop :=
  Whole w P 174 #[.bool b, v, .int .i64 s] ∧ w.ownsRow base 3 1 v ds.length (ds.map (Value.int .i64))
section
variable {w w' : World} {P : Nat} {b : Bool} {ds : List Int} {s : Int} {v : Value} {base : Nat}
theorem NV.later (h : NV w P b ds s v base) (hb : Below w.heap.size w w') : NV w' P b ds s v base :=
  ⟨h.1.here hb, own_frame h.2 (Fr.of_below hb) (fun g hg e => by have := (own_lt h.2 hg).2.1; omega)⟩
theorem NV.made {v : Value} (h : w.ownsRow base 3 1 v ds.length (ds.map (Value.int .i64))) : NV (w.alloc (.cells #[.bool b, v, .int .i64 s] 174)) w.heap.size b ds s v base :=
  ⟨Whole.made _ _ _, h.alloc _⟩
theorem NV.old (h : NV w P b ds s v base) (o : Obj) : NV (w.alloc o) P b ds s v base := h.later ((Below.refl _ _).alloc (Nat.le_refl _) o)
theorem NV.cells (h : NV w P b ds s v base) : w.cell? ⟨P, 0, none⟩ = some (.bool b) ∧ w.cell? ⟨P, 1, none⟩ = some v ∧ w.cell? ⟨P, 2, none⟩ = some (.int .i64 s) ∧ (∀ i, w.frozen? ⟨P, i, none⟩ = false) ∧ P < w.heap.size :=
  ⟨h.1.reads 0, h.1.reads 1, h.1.reads 2, h.1.thawed, h.1.lt⟩
theorem own_off {xs : List Value} {n : Nat} {cs : Array Value} (h : w.ownsRow base 3 1 v n xs) (hP : Whole w P 174 cs) (x y z : Value) : (((w.setCell ⟨P, 0, none⟩ x).setCell ⟨P, 1, none⟩ y).setCell ⟨P, 2, none⟩ z).ownsRow base 3 1 v n xs :=
  own_frame h ((((Fr.refl (fun k => k = P) w).setB 0 x).setB 1 y).setB 2 z) (fun g hg e => by
    obtain ⟨_, _, cs', hw⟩ := own_lt h hg
    exact hw.apart hP (by decide) e)
/-- Behind a store into it. -/
theorem NV.store (h : NV w P b ds s v base) {b' : Bool} {ds' : List Int} {s' : Int} {v' : Value} {base' : Nat} (ho : w.ownsRow base' 3 1 v' ds'.length (ds'.map (Value.int .i64))) :
    NV (((w.setCell ⟨P, 0, none⟩ (.bool b')).setCell ⟨P, 1, none⟩ v').setCell ⟨P, 2, none⟩ (.int .i64 s')) P b' ds' s' v' base' := by
  refine ⟨?_, own_off ho h.1 _ _ _⟩
  have := ((h.1.set 0 (.bool b')).set 1 v').set 2 (.int .i64 s')
  simpa using this
/-- Behind a store into another one. -/
theorem NV.aside (h : NV w P b ds s v base) {P' : Nat} {cs : Array Value} (hP : Whole w P' 174 cs) (hne : P ≠ P') (x y z : Value) :
    NV (((w.setCell ⟨P', 0, none⟩ x).setCell ⟨P', 1, none⟩ y).setCell ⟨P', 2, none⟩ z) P b ds s v base :=
  ⟨((h.1.away (p := ⟨P', 0, none⟩) hne x).away (p := ⟨P', 1, none⟩) hne y).away (p := ⟨P', 2, none⟩) hne z, own_off h.2 hP _ _ _⟩
theorem NV.row (h : NV w P b ds s v base) : Row w v ds := own_row h.2
theorem NV.reads (h : NV w P b ds s v base) : Reads w v ds := row_reads h.row
theorem NV.form (h : NV w P b ds s v base) : ∃ a c, v = .slice a ds.length c := own_slice' h.2
end
theorem whole_away3 {w : World} {g P : Nat} {T : TypeId} {cs : Array Value} (h : Whole w g T cs) (hne : g ≠ P) (x y z : Value) : Whole (((w.setCell ⟨P, 0, none⟩ x).setCell ⟨P, 1, none⟩ y).setCell ⟨P, 2, none⟩ z) g T cs :=
  ((h.away (p := ⟨P, 0, none⟩) hne x).away (p := ⟨P, 1, none⟩) hne y).away (p := ⟨P, 2, none⟩) hne z
theorem below_set3 {w w' : World} {B P : Nat} (h : Below B w w') (hB : B ≤ P) (x y z : Value) : Below B w (((w'.setCell ⟨P, 0, none⟩ x).setCell ⟨P, 1, none⟩ y).setCell ⟨P, 2, none⟩ z) :=
  ((h.setCell (p := ⟨P, 0, none⟩) hB x).setCell (p := ⟨P, 1, none⟩) hB y).setCell (p := ⟨P, 2, none⟩) hB z
/-- The digits of a decimal's number, lifted by k. -/
def lifted (k u : Nat) : List Int := List.replicate k 0 ++ digs u
theorem digs_rep (k : Nat) : Digs (List.replicate k 0) := fun d hd => by
  have := List.eq_of_mem_replicate hd
  omega
theorem num_rep (k : Nat) : num (List.replicate k 0) = 0 := by
  induction k with
  | zero => rfl
  | succ k ih => rw [List.replicate_succ]; show (0 : Int).toNat + 10 * num (List.replicate k 0) = 0; rw [ih]; rfl
theorem lifted_num (k u : Nat) : num (lifted k u) = 10 ^ k * u := by
  unfold lifted
  rw [num_append, num_rep, (num_digs u).1, List.length_replicate, Nat.zero_add]
theorem lifted_digs (k u : Nat) : Digs (lifted k u) := fun d hd => by
  rcases List.mem_append.1 hd with e | e
  · exact digs_rep k d e
  · exact (num_digs u).2 d e
theorem lift_is (b : Bool) (v : Value) (u s t : Nat) (w : World) (hv : Row w v (digs u)) (hu : u ≤ 999999999999999999) (hs : s ≤ 1000) (ht : t ≤ 1000) :
    Calls Tryz.prog 119 #[.agg #[.bool b, v, .int .i64 s], .int .i64 t] w (IsRow b (lifted (t - s) u) (max s t : Nat) w) :=
  lift_any b v (digs u) s t w hv (by have := digs_len 18 u (by omega); omega) hs ht
theorem lifted_len (k u : Nat) (hu : u ≤ 999999999999999999) : (lifted k u).length ≤ k + 18 := by
  unfold lifted
  rw [List.length_append, List.length_replicate]
  have := digs_len 18 u (by omega)
  omega
end Go.Proofs.YtdlmhienolmncaaGreat

