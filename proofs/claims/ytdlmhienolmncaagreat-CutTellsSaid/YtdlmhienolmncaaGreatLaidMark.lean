/- Marks, boxes, fonts by their names among the arguments: opened. -/
import Derived.Test.YtdlmhienolmncaaGreatLaidGen
import Derived.Test.YtdlmhienolmncaaGreatTree
import Derived.Test.YtdlmhienolmncaaGreatLaidFont
namespace Go.Proofs.YtdlmhienolmncaaGreat
open Go.ChangeShapes Go.WideShapes Go.ChangeAt Go.RowKit Go.Joins Go.Deep Dec

set_option maxRecDepth 100000 in
theorem cDecM : Tryz.prog.cellsOf 47 = 2 := by kernel_rfl
set_option maxRecDepth 100000 in
theorem cMatM : Tryz.prog.cellsOf 52 = 12 := by kernel_rfl
set_option maxRecDepth 100000 in
theorem cBoxM : Tryz.prog.cellsOf 49 = 8 := by kernel_rfl
set_option maxRecDepth 100000 in
theorem cMark : Tryz.prog.cellsOf 55 = 25 := by kernel_rfl
set_option maxRecDepth 100000 in
theorem cOp : Tryz.prog.cellsOf 108 = 2 := by kernel_rfl
set_option maxRecDepth 100000 in
theorem cNamed : Tryz.prog.cellsOf 66 = 4 := by kernel_rfl
set_option maxRecDepth 100000 in
theorem cOps : Tryz.prog.cellsOf 53 = 1 := by kernel_rfl
set_option maxRecDepth 100000 in
theorem cGlyphs : Tryz.prog.cellsOf 62 = 1 := by kernel_rfl
section
variable {H : Type} {enc : TypeId × Value → H} {W : World} {base : Nat} {held : Bool}
set_option maxRecDepth 100000 in
theorem dec_inM {n : Nat} {cs : List Value} {y : DataW H × List MemPlace} (hl : cs.length = 2) (h : DataW.trod enc Tryz.prog W base (fun _ => true) held n 47 cs = some y) :
    ∃ d : DV, cs = [.int .i64 d.m, .int .i64 d.s] := by
  match cs, hl with
  | [c0, c1], _ =>
    obtain ⟨xs, k, -, hx, -, hlen, hg⟩ := DataW.trod_struct Tryz.underlying47 h
    match xs, hlen with
    | [y0, y1], _ =>
      have g0 := hg 0 _ rfl
      have g1 := hg 1 _ rfl
      simp [cIntO] at g0 g1
      obtain ⟨a, e0, -, -⟩ := DataW.trod_int Tryz.underlying3 g0
      obtain ⟨b, e1, -, -⟩ := DataW.trod_int Tryz.underlying3 g1
      simp at e0 e1
      exact ⟨⟨a, b⟩, by rw [e0, e1]⟩
set_option maxRecDepth 100000 in
theorem bx_inM {n : Nat} {cs : List Value} {y : DataW H × List MemPlace} (hl : cs.length = 8) (h : DataW.trod enc Tryz.prog W base (fun _ => true) held n 49 cs = some y) :
    ∃ x : BV, cs = bxV x := by
  obtain ⟨xs, k, -, hx, -, hlen, hg⟩ := DataW.trod_struct Tryz.underlying49 h
  match xs, hlen with
  | [y0, y1, y2, y3], _ =>
    have g0 := hg 0 _ rfl
    have g1 := hg 1 _ rfl
    have g2 := hg 2 _ rfl
    have g3 := hg 3 _ rfl
    simp [cDecM] at g0 g1 g2 g3
    obtain ⟨x0, e0⟩ := dec_inM (by simp [hl]) g0
    obtain ⟨x1, e1⟩ := dec_inM (by simp [hl]) g1
    obtain ⟨x2, e2⟩ := dec_inM (by simp [hl]) g2
    obtain ⟨x3, e3⟩ := dec_inM (by simp [hl]) g3
    refine ⟨⟨x0, x1, x2, x3⟩, ?_⟩
    have t : cs = cs.take 2 ++ ((cs.drop 2).take 2 ++ ((cs.drop 4).take 2 ++ (cs.drop 6).take 2)) := by
      match cs, hl with
      | [c0, c1, c2, c3, c4, c5, c6, c7], _ => rfl
    rw [t, e0, e1, e2, e3]
    rfl
set_option maxRecDepth 100000 in
theorem mat_inM {n : Nat} {cs : List Value} {y : DataW H × List MemPlace} (hl : cs.length = 12) (h : DataW.trod enc Tryz.prog W base (fun _ => true) held n 52 cs = some y) :
    ∃ x : MV, cs = [.int .i64 x.a.m, .int .i64 x.a.s, .int .i64 x.b.m, .int .i64 x.b.s, .int .i64 x.c.m, .int .i64 x.c.s, .int .i64 x.d.m, .int .i64 x.d.s, .int .i64 x.e.m, .int .i64 x.e.s, .int .i64 x.f.m, .int .i64 x.f.s] := by
  obtain ⟨xs, k, -, hx, -, hlen, hg⟩ := DataW.trod_struct Tryz.underlying52 h
  match xs, hlen with
  | [y0, y1, y2, y3, y4, y5], _ =>
    have g0 := hg 0 _ rfl
    have g1 := hg 1 _ rfl
    have g2 := hg 2 _ rfl
    have g3 := hg 3 _ rfl
    have g4 := hg 4 _ rfl
    have g5 := hg 5 _ rfl
    simp [cDecM] at g0 g1 g2 g3 g4 g5
    obtain ⟨x0, e0⟩ := dec_inM (by simp [hl]) g0
    obtain ⟨x1, e1⟩ := dec_inM (by simp [hl]) g1
    obtain ⟨x2, e2⟩ := dec_inM (by simp [hl]) g2
    obtain ⟨x3, e3⟩ := dec_inM (by simp [hl]) g3
    obtain ⟨x4, e4⟩ := dec_inM (by simp [hl]) g4
    obtain ⟨x5, e5⟩ := dec_inM (by simp [hl]) g5
    refine ⟨⟨x0, x1, x2, x3, x4, x5⟩, ?_⟩
    have t : cs = cs.take 2 ++ ((cs.drop 2).take 2 ++ ((cs.drop 4).take 2 ++ ((cs.drop 6).take 2 ++ ((cs.drop 8).take 2 ++ (cs.drop 10).take 2)))) := by
      match cs, hl with
      | [c0, c1, c2, c3, c4, c5, c6, c7, c8, c9, c10, c11], _ => rfl
    rw [t, e0, e1, e2, e3, e4, e5]
    rfl
set_option maxRecDepth 100000 in
/-- A slice of objects. -/
theorem open_objs {fuel : Nat} {cs : List Value} {x : DataW H × List MemPlace} (h : DataW.trod enc Tryz.prog W base (fun _ => true) held fuel 106 cs = some x) :
    ∃ (A : Option Addr) (n c : Nat) (l : List OV), cs = [.slice A n c] ∧ ObjsAt W A n c l := by
  obtain ⟨A, n, c, l, e, hr, hp, -⟩ := open_rows (α := {cs : List Value // cs.length = 8}) Subtype.val 8 (by decide) (fun r => r.2) (fun r => ∃ x : OV, ObjIs W x r.1) Tryz.underlying106 cObj (fun f cs' y _ hl hy => by
    obtain ⟨o, ho⟩ := obj_in _ (Nat.le_refl _) hl hy
    exact ⟨⟨cs', hl⟩, rfl, o, ho⟩) h
  obtain ⟨xs, hx1, hx2⟩ := pick_row l hp
  refine ⟨A, n, c, xs, e, _, hr, by rw [List.length_map, hx1], fun i x cs hxi hci => ?_⟩
  rw [List.getElem?_map] at hci
  cases hq : l[i]? with
  | none => rw [hq] at hci; cases hci
  | some r =>
    rw [hq] at hci
    injection hci with hci
    subst hci
    exact hx2 i x r hxi hq
set_option maxRecDepth 100000 in
theorem op_in {n : Nat} {cs : List Value} {y : DataW H × List MemPlace} (hl : cs.length = 2) (h : DataW.trod enc Tryz.prog W base (fun _ => true) held n 108 cs = some y) : ∃ x : OpT, OpIs W x cs := by
  match cs, hl with
  | [c0, c1], _ =>
    obtain ⟨xs, k, -, hx, -, hlen, hg⟩ := DataW.trod_struct Tryz.underlying108 h
    match xs, hlen with
    | [y0, y1], _ =>
      have g0 := hg 0 _ rfl
      have g1 := hg 1 _ rfl
      simp [cStrO, cObjsO] at g0 g1
      obtain ⟨t, e0, -, ht⟩ := DataW.trod_string Tryz.underlying9 g0
      obtain ⟨A, m, c, l, e1, ho⟩ := open_objs g1
      simp at e0 e1
      unfold maxLen at ht
      exact ⟨⟨t, l⟩, A, m, c, by rw [e0, e1], ht, ho⟩
set_option maxRecDepth 100000 in
theorem open_ops {fuel : Nat} {cs : List Value} {x : DataW H × List MemPlace} (h : DataW.trod enc Tryz.prog W base (fun _ => true) held fuel 53 cs = some x) :
    ∃ (A : Option Addr) (n c : Nat) (l : List OpT), cs = [.slice A n c] ∧ OpsAt W A n c l := by
  obtain ⟨A, n, c, l, e, hr, hp, -⟩ := open_rows (α := {cs : List Value // cs.length = 2}) Subtype.val 2 (by decide) (fun r => r.2) (fun r => ∃ x : OpT, OpIs W x r.1) Tryz.underlying53 cOp (fun f cs' y _ hl hy => by
    obtain ⟨o, ho⟩ := op_in hl hy
    exact ⟨⟨cs', hl⟩, rfl, o, ho⟩) h
  obtain ⟨xs, hx1, hx2⟩ := pick_row l hp
  refine ⟨A, n, c, xs, e, _, hr, by rw [List.length_map, hx1], fun i x cs hxi hci => ?_⟩
  rw [List.getElem?_map] at hci
  cases hq : l[i]? with
  | none => rw [hq] at hci; cases hci
  | some r =>
    rw [hq] at hci
    injection hci with hci
    subst hci
    exact hx2 i x r hxi hq
set_option maxRecDepth 100000 in
theorem mark_in {n : Nat} {cs : List Value} {y : DataW H × List MemPlace} (hl : cs.length = 25) (h : DataW.trod enc Tryz.prog W base (fun _ => true) held n 55 cs = some y) : ∃ x : Mk, cs = mkV x ∧ MkOk W x := by
  obtain ⟨xs, k, -, hx, -, hlen, hg⟩ := DataW.trod_struct Tryz.underlying55 h
  match xs, hlen with
  | [y0, y1, y2, y3, y4, y5, y6], _ =>
    have g0 := hg 0 _ rfl
    have g1 := hg 1 _ rfl
    have g2 := hg 2 _ rfl
    have g3 := hg 3 _ rfl
    have g4 := hg 4 _ rfl
    have g5 := hg 5 _ rfl
    have g6 := hg 6 _ rfl
    simp [cIntO, cMatM, cStrO, cOps, cBoxM] at g0 g1 g2 g3 g4 g5 g6
    obtain ⟨kd, e0, -, -⟩ := DataW.trod_int Tryz.underlying3 g0
    obtain ⟨m, e1⟩ := mat_inM (by simp [hl]) g1
    obtain ⟨t, e2, -, ht⟩ := DataW.trod_string Tryz.underlying9 g2
    obtain ⟨cd, e3, -, -⟩ := DataW.trod_int Tryz.underlying3 g3
    obtain ⟨A, n4, c4, ops, e4, ho⟩ := open_ops g4
    obtain ⟨A5, n5, c5, st, e5, hs⟩ := open_ops g5
    obtain ⟨b, e6⟩ := bx_inM (by simp [hl]) g6
    unfold maxLen at ht
    refine ⟨⟨kd, m, t, cd, ⟨A, n4, c4⟩, ⟨A5, n5, c5⟩, b⟩, ?_, ht, ⟨ops, ho⟩, st, hs⟩
    have key : cs = cs.take 1 ++ ((cs.drop 1).take 12 ++ ((cs.drop 13).take 1 ++ ((cs.drop 14).take 1 ++ ((cs.drop 15).take 1 ++ ((cs.drop 16).take 1 ++ (cs.drop 17).take 8))))) := by
      have e7 : cs.drop 17 = (cs.drop 17).take 8 := (List.take_of_length_le (by simp [hl])).symm
      rw [← e7]
      have st : ∀ a b : Nat, cs.drop a = (cs.drop a).take b ++ cs.drop (a + b) := fun a b => by
        rw [← List.drop_drop, List.take_append_drop]
      have h16 := st 16 1
      have h15 := st 15 1
      have h14 := st 14 1
      have h13 := st 13 1
      have h1 := st 1 12
      have h0 := st 0 1
      rw [← h16, ← h15, ← h14, ← h13, ← h1]
      exact h0
    rw [key, e0, List.drop_one, e1, e2, e3, e4, e5, e6]
    rfl
set_option maxRecDepth 100000 in
/-- A slice of marks among the arguments. -/
theorem open_marks {b0 : Nat} {v : Value} {d : DataW H} {p : List MemPlace} (hv : Value.okWide Tryz.prog W .any b0 22 v) (h : DataW.Trod enc Tryz.prog W base (fun _ => true) held 22 v d p) :
    ∃ (A : Option Addr) (n c : Nat) (l : List Mk), v = .slice A n c ∧ MarksAt W A n c l ∧ (A = none → n = 0 ∧ c = 0) := by
  obtain ⟨a, n, c, rfl⟩ := okWide_slice Tryz.underlying22 hv
  obtain ⟨fuel, hf⟩ := h
  obtain ⟨A, n', c', l, e, hr, hp, hz⟩ := open_rows mkV 25 (by decide) mkV_len (MkOk W) Tryz.underlying22 cMark (fun f cs' y _ hl hy => mark_in hl hy) hf
  simp [Value.cells] at e
  obtain ⟨rfl, rfl, rfl⟩ := e
  exact ⟨a, n, c, l, rfl, ⟨hr, hp⟩, hz⟩
set_option maxRecDepth 100000 in
/-- A slice of boxes among the arguments. -/
theorem open_boxes {b0 : Nat} {v : Value} {d : DataW H} {p : List MemPlace} (hv : Value.okWide Tryz.prog W .any b0 23 v) (h : DataW.Trod enc Tryz.prog W base (fun _ => true) held 23 v d p) :
    ∃ (A : Option Addr) (n c : Nat) (l : List BV), v = .slice A n c ∧ BxsAt W A n c l ∧ (A = none → n = 0 ∧ c = 0) := by
  obtain ⟨a, n, c, rfl⟩ := okWide_slice Tryz.underlying23 hv
  obtain ⟨fuel, hf⟩ := h
  obtain ⟨A, n', c', l, e, hr, -, hz⟩ := open_rows bxV 8 (by decide) bxV_len (fun _ => True) Tryz.underlying23 cBoxM (fun f cs' y _ hl hy => by
    obtain ⟨x, hx⟩ := bx_inM hl hy
    exact ⟨x, hx, trivial⟩) hf
  simp [Value.cells] at e
  obtain ⟨rfl, rfl, rfl⟩ := e
  exact ⟨a, n, c, l, rfl, hr, hz⟩
set_option maxRecDepth 100000 in
theorem named_in {n : Nat} {cs : List Value} {y : DataW H × List MemPlace} (hl : cs.length = 4) (h : DataW.trod enc Tryz.prog W base (fun _ => true) held n 66 cs = some y) : ∃ x : Nm, cs = nmV x ∧ NmOk W x := by
  match cs, hl with
  | [c0, c1, c2, c3], _ =>
    obtain ⟨xs, k, -, hx, -, hlen, hg⟩ := DataW.trod_struct Tryz.underlying66 h
    match xs, hlen with
    | [y0, y1], _ =>
      have g0 := hg 0 _ rfl
      have g1 := hg 1 _ rfl
      simp [cStrO, cFont] at g0 g1
      obtain ⟨t, e0, -, ht⟩ := DataW.trod_string Tryz.underlying9 g0
      obtain ⟨zs, k', -, hy, -, hlen', hg'⟩ := DataW.trod_struct Tryz.underlying64 g1
      match zs, hlen' with
      | [z0, z1, z2], _ =>
        have d0 := hg' 0 _ rfl
        have d1 := hg' 1 _ rfl
        have d2 := hg' 2 _ rfl
        simp [cBoolO, cGlyphs, cIntO] at d0 d1 d2
        obtain ⟨wd, e1, -⟩ := DataW.trod_bool Tryz.underlying4 d0
        obtain ⟨A, m, c, gs, e2, hgs⟩ := open_glyphs d1
        obtain ⟨ot, e3, -, -⟩ := DataW.trod_int Tryz.underlying3 d2
        simp at e0 e1 e2 e3
        unfold maxLen at ht
        exact ⟨⟨t, wd, ⟨A, m, c⟩, ot, gs⟩, by rw [e0, e1, e2, e3]; rfl, ht, hgs⟩
set_option maxRecDepth 100000 in
/-- A slice of fonts by their names among the arguments. -/
theorem open_named {b0 : Nat} {v : Value} {d : DataW H} {p : List MemPlace} (hv : Value.okWide Tryz.prog W .any b0 24 v) (h : DataW.Trod enc Tryz.prog W base (fun _ => true) held 24 v d p) :
    ∃ (A : Option Addr) (n c : Nat) (l : List Nm), v = .slice A n c ∧ NmsAt W A n c l ∧ (A = none → n = 0 ∧ c = 0) := by
  obtain ⟨a, n, c, rfl⟩ := okWide_slice Tryz.underlying24 hv
  obtain ⟨fuel, hf⟩ := h
  obtain ⟨A, n', c', l, e, hr, hp, hz⟩ := open_rows nmV 4 (by decide) nmV_len (NmOk W) Tryz.underlying24 cNamed (fun f cs' y _ hl hy => named_in hl hy) hf
  simp [Value.cells] at e
  obtain ⟨rfl, rfl, rfl⟩ := e
  exact ⟨a, n, c, l, rfl, ⟨hr, hp⟩, hz⟩
end
end Go.Proofs.YtdlmhienolmncaaGreat
