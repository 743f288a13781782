/- The reference's lift: the walk. -/
import Derived.Test.YtpdjooeogpidhaaRefMake
import Derived.Laws.AppendOwnNone
namespace Go.Proofs.Ytpdjooeogpidhaa
open Go.RowKit Dec

def cellNat (o : Option Value) : Nat := match o with | some (.int _ n) => n.toNat | _ => 0

/-- A number that a call answers: a row of its own. -/
def IsRow (b : Bool) (ds : List Int) (s : Int) (w : World) (e : Ending) (w' : World) : Prop :=
  ∃ v, e = .returned (.agg #[.bool b, v, .int .i64 s]) ∧ w'.ownsRow w.heap.size 3 1 v ds.length (ds.map (Value.int .i64)) ∧ Below w.heap.size w w'

set_option maxRecDepth 100000 in
set_option maxHeartbeats 1000000 in
theorem lift_any (b : Bool) (v : Value) (ds : List Int) (s t : Nat) (w : World) (hv : Row w v ds) (hl : ds.length ≤ 1000) (hs : s ≤ 1000) (ht : t ≤ 1000) :
    Calls Try.prog 64 #[.agg #[.bool b, v, .int .i64 s], .int .i64 t] w (IsRow b (List.replicate (t - s) 0 ++ ds) (max s t : Nat) w) := by
  obtain ⟨i0, hi, hz0, hz1, hz2⟩ := info_parts info3
  have HV := Lib.hid hv
  have hform : ∃ a n c, v = .slice a n c := by
    rcases hv with ⟨rfl, -⟩ | ⟨g, o, c, rfl, -, -⟩
    · exact ⟨_, _, _, rfl⟩
    · exact ⟨_, _, _, rfl⟩
  obtain ⟨a0, n0, c0, rfl⟩ := hform
  clear hv
  go_enter Try.func64, Try.ntmps64
  go_wp2
  go_loopw [22] (fun _ wr => ∃ (k : Nat) (v : Value), (s + k : Nat) ≤ max s t ∧ wr.ownsRow (w.heap.size + 1 + 1 + 1) 3 1 v k ((List.replicate k (0 : Int)).map (Value.int .i64)) ∧
      wr.cell? ⟨w.heap.size + 1 + 1, 0, none⟩ = some (.bool b) ∧ wr.cell? ⟨w.heap.size + 1 + 1, 1, none⟩ = some v ∧ wr.cell? ⟨w.heap.size + 1 + 1, 2, none⟩ = some (.int .i64 ((s : Int) + k)) ∧ wr.frozen? ⟨w.heap.size + 1 + 1, 1, none⟩ = false ∧ wr.frozen? ⟨w.heap.size + 1 + 1, 2, none⟩ = false ∧ w.heap.size + 1 + 1 + 1 ≤ wr.heap.size ∧
      Below (w.heap.size + 1 + 1) ((w.alloc (.cells #[.bool b, .slice a0 n0 c0, .int .i64 s] 90)).alloc (.cells #[.bool false, .slice none 0 0, .int .i64 0] 90)) wr) (fun _ wr => t - cellNat (wr.cell? ⟨w.heap.size + 1 + 1, 2, none⟩))
  case atStart =>
    refine ⟨0, .slice none 0 0, Nat.le_max_left _ _, World.ownsRow_nil _ _ _ _, ?_, ?_, ?_, ?_, ?_, by simp, ?_⟩
    all_goals first | (go_simp; done) | skip
    exact (Below.refl _ _).alloc (by simp) _
  case round =>
    obtain ⟨k, v, hk, hown, c0', c1', c2', f1, f2, hsz, hB⟩ := hrel
    have hlt : w.heap.size + 1 + 1 < wr.heap.size := by omega
    by_cases hgo : s + k < t
    · have hgo1 : ((s + k : Nat) : Int) < t := by omega
      go_wp2_with (first | (at_builtin; refine wpList_append_own _ rfl _ _ 88 rfl (w.heap.size + 1 + 1 + 1) 3 i0 (.int .i64 0) 1 8 Try.underlying88 hi hz0 hz1 hz2 rfl (by decide) _ _ _ rfl (hown.alloc _) ⟨wr.heap.size, 0, none⟩ 1 1 [.int .i64 0] rfl rfl ?c1 ?c2 ?c3 ?c4 ?c5 ?_))
      case c1 =>
        intro j u hj
        match j, hj with
        | 0, hj => simp at hj; subst hj; simp [Addr.add]
      case c2 => intro u hu; simp at hu; subst hu; rfl
      case c3 => unfold maxLen; omega
      case c4 => omega
      case c5 => simp; omega
      · intro v' w1 hown' hgrow _
        have hbk : w1.heap[w.heap.size + 1 + 1]? = wr.heap[w.heap.size + 1 + 1]? := kept_block hgrow hlt (fun e => by have := (hown.lt _ e).1; omega)
        have g0 : w1.cell? ⟨w.heap.size + 1 + 1, 0, none⟩ = some (.bool b) := (World.cell?_of_block (w := wr) hbk).trans c0'
        have g1 : w1.cell? ⟨w.heap.size + 1 + 1, 1, none⟩ = some v := (World.cell?_of_block (w := wr) hbk).trans c1'
        have g3 : w1.cell? ⟨w.heap.size + 1 + 1, 2, none⟩ = some (.int .i64 ((s : Int) + k)) := (World.cell?_of_block (w := wr) hbk).trans c2'
        have g2 : w1.frozen? ⟨w.heap.size + 1 + 1, 1, none⟩ = false := (World.frozen?_of_block (w := wr) hbk).trans f1
        have g4 : w1.frozen? ⟨w.heap.size + 1 + 1, 2, none⟩ = false := (World.frozen?_of_block (w := wr) hbk).trans f2
        have hB1 : Below (w.heap.size + 1 + 1) wr w1 := ((Below.refl _ _).alloc (by omega) _).grown hgrow (by simp; omega) (fun k e => by have := (hown.lt _ e).1; omega)
        have hB2 := Lib.hid (hB.trans hB1)
        have hs1 : w.heap.size + 1 + 1 + 1 ≤ w1.heap.size := Nat.le_trans hsz hB1.size
        have HC := Lib.hid c2'
        clear hgrow hown hB hB1 hbk c0' c1' c2' f1 f2
        obtain ⟨a', k', c', rfl⟩ := own_form hown'
        have HO := Lib.hid hown'
        clear hown'
        go_wp2
        refine ⟨⟨k + 1, .slice a' k' c', by omega, ?_, ?_, ?_, ?_, ?_, ?_, by simp; omega, (hB2.out.setCell (by simp) _).setCell (by simp) _⟩, ?_⟩
        · have h := ownsRow_setCell_below (ownsRow_setCell_below HO.out (a := ⟨w.heap.size + 1 + 1, 1, none⟩) (by simp) (.slice a' k' c')) (a := ⟨w.heap.size + 1 + 1, 2, none⟩) (by simp) (.int .i64 ((s : Int) + k + 1))
          rw [List.replicate_succ', List.map_append]
          simpa using h
        all_goals first | (go_simp; done) | skip
        · have : (s : Int) + k + 1 = s + (k + 1 : Nat) := by omega
          rw [← this]; go_simp
        · rw [HC.out]
          go_simp
          simp only [cellNat]
          omega
    · have hkq : Hid (k = t - s) := by show _ = _; omega
      have hst : Hid ((s : Int) + k = (max s t : Nat)) := by show _ = _; omega
      have hgo1 : ¬ ((s : Int) + k) < t := by omega
      have n1 : wr.cell? ⟨w.heap.size, 1, none⟩ = some (.slice a0 n0 c0) := by rw [hB.cell (by simp; omega)]; go_simp
      have r0 : wr.cell? ⟨w.heap.size + 1, 0, none⟩ = some (.bool false) := by rw [hB.cell (by simp)]; go_simp
      have r1 : wr.cell? ⟨w.heap.size + 1, 1, none⟩ = some (.slice none 0 0) := by rw [hB.cell (by simp)]; go_simp
      have r2 : wr.cell? ⟨w.heap.size + 1, 2, none⟩ = some (.int .i64 0) := by rw [hB.cell (by simp)]; go_simp
      have z0 : wr.frozen? ⟨w.heap.size + 1, 0, none⟩ = false := by rw [hB.frozen (by simp)]; go_simp
      have z1 : wr.frozen? ⟨w.heap.size + 1, 1, none⟩ = false := by rw [hB.frozen (by simp)]; go_simp
      have z2 : wr.frozen? ⟨w.heap.size + 1, 2, none⟩ = false := by rw [hB.frozen (by simp)]; go_simp
      rcases HV.out with ⟨hnil, hds⟩ | ⟨g, o, c, hsl, hc, hr⟩
      · cases hnil
        subst hds
        obtain ⟨a', k', c', rfl⟩ := own_form hown
        have HB := Lib.hid hB
        have HO := Lib.hid hown
        clear hB hgo
        go_wp2_with (first | (at_builtin; refine wpList_append_own_none rfl _ _ 88 rfl (w.heap.size + 1 + 1 + 1) 3 i0 1 Try.underlying88 hi (.slice a' k' c') k _ rfl HO.out rfl ?_))
        refine bodyPost_ret (v := .agg #[.bool b, .slice a' k' c', .int .i64 ((s : Int) + k)]) ?_ rfl ⟨_, by rw [hst.out], ?_, ?_⟩
        · simp [results, Try.results64, go_sem, r0, r1, r2]
        · have h := ownsRow_setCell_below (ownsRow_setCell_below (ownsRow_setCell_below (ownsRow_setCell_below HO.out (a := ⟨w.heap.size + 1 + 1, 1, none⟩) (by simp) (.slice a' k' c')) (a := ⟨w.heap.size + 1, 0, none⟩) (by simp) (.bool b)) (a := ⟨w.heap.size + 1, 1, none⟩) (by simp) (.slice a' k' c')) (a := ⟨w.heap.size + 1, 2, none⟩) (by simp) (.int .i64 ((s : Int) + k))
          rw [← hkq.out]
          exact own_mono (b := w.heap.size + 1 + 1 + 1) (by simpa using h) (by omega)
        · exact ((((((Below.refl _ _).alloc (Nat.le_refl _) _).alloc (by simp) _).trans (HB.out.mono (by omega))).setCell (by simp; omega) _ |>.setCell (by simp) _).setCell (by simp) _).setCell (by simp) _
      · cases hsl
        have hcells := src_cells hr (((Below.refl _ _).alloc (Nat.le_refl _) _).alloc (by simp) _ |>.trans (hB.mono (by omega)))
        go_wp2_with (first | (at_builtin; refine wpList_append_own _ rfl _ _ 88 rfl (w.heap.size + 1 + 1 + 1) 3 i0 (.int .i64 0) 1 8 Try.underlying88 hi hz0 hz1 hz2 rfl (by decide) _ _ _ rfl hown ⟨g, o, none⟩ ds.length c0 (ds.map (Value.int .i64)) rfl (by simp) hcells ?c2 ?c3 ?c4 ?c5 ?_))
        case c2 => intro u hu; first | rfl | (obtain ⟨d, -, rfl⟩ := List.mem_map.1 hu; rfl)
        case c3 => unfold maxLen; omega
        case c4 => omega
        · intro v' w1 hown' hgrow _
          clear hcells
          have hkb : ∀ b, b < w.heap.size + 1 + 1 + 1 → w1.heap[b]? = wr.heap[b]? := fun b hb => hgrow.block b (by omega) (fun e => by have := (hown.lt _ e.symm).1; omega)
          have g0 : w1.cell? ⟨w.heap.size + 1 + 1, 0, none⟩ = some (.bool b) := (World.cell?_of_block (w := wr) (hkb _ (by simp))).trans c0'
          have g1 : w1.cell? ⟨w.heap.size + 1 + 1, 1, none⟩ = some v := (World.cell?_of_block (w := wr) (hkb _ (by simp))).trans c1'
          have g3 : w1.cell? ⟨w.heap.size + 1 + 1, 2, none⟩ = some (.int .i64 ((s : Int) + k)) := (World.cell?_of_block (w := wr) (hkb _ (by simp))).trans c2'
          have g2 : w1.frozen? ⟨w.heap.size + 1 + 1, 1, none⟩ = false := (World.frozen?_of_block (w := wr) (hkb _ (by simp))).trans f1
          have r0' : w1.cell? ⟨w.heap.size + 1, 0, none⟩ = some (.bool false) := (World.cell?_of_block (w := wr) (hkb _ (by simp))).trans r0
          have r1' : w1.cell? ⟨w.heap.size + 1, 1, none⟩ = some (.slice none 0 0) := (World.cell?_of_block (w := wr) (hkb _ (by simp))).trans r1
          have r2' : w1.cell? ⟨w.heap.size + 1, 2, none⟩ = some (.int .i64 0) := (World.cell?_of_block (w := wr) (hkb _ (by simp))).trans r2
          have z0' : w1.frozen? ⟨w.heap.size + 1, 0, none⟩ = false := (World.frozen?_of_block (w := wr) (hkb _ (by simp))).trans z0
          have z1' : w1.frozen? ⟨w.heap.size + 1, 1, none⟩ = false := (World.frozen?_of_block (w := wr) (hkb _ (by simp))).trans z1
          have z2' : w1.frozen? ⟨w.heap.size + 1, 2, none⟩ = false := (World.frozen?_of_block (w := wr) (hkb _ (by simp))).trans z2
          have hB1 : Below (w.heap.size + 1 + 1) wr w1 := (Below.refl _ _).grown hgrow (by omega) (fun k e => by have := (hown.lt _ e).1; omega)
          have HB := Lib.hid (hB.trans hB1)
          obtain ⟨a', k', c', rfl⟩ := own_form hown'
          have HO := Lib.hid hown'
          clear hown' hown hgrow hkb hB hB1 c0' c1' c2' f1 f2 r0 r1 r2 z0 z1 z2 n1
          go_wp2
          refine bodyPost_ret (v := .agg #[.bool b, .slice a' k' c', .int .i64 ((s : Int) + k)]) ?_ rfl ⟨_, by rw [hst.out], ?_, ?_⟩
          · simp [results, Try.results64, go_sem, r0', r1', r2']
          · have h := ownsRow_setCell_below (ownsRow_setCell_below (ownsRow_setCell_below (ownsRow_setCell_below HO.out (a := ⟨w.heap.size + 1 + 1, 1, none⟩) (by simp) (.slice a' k' c')) (a := ⟨w.heap.size + 1, 0, none⟩) (by simp) (.bool b)) (a := ⟨w.heap.size + 1, 1, none⟩) (by simp) (.slice a' k' c')) (a := ⟨w.heap.size + 1, 2, none⟩) (by simp) (.int .i64 ((s : Int) + k))
            rw [← hkq.out]
            exact own_mono (b := w.heap.size + 1 + 1 + 1) (by simpa using h) (by omega)
          · exact ((((((Below.refl _ _).alloc (Nat.le_refl _) _).alloc (by simp) _).trans (HB.out.mono (by omega))).setCell (by simp; omega) _ |>.setCell (by simp) _).setCell (by simp) _).setCell (by simp) _
end Go.Proofs.Ytpdjooeogpidhaa
