/- Ops, marks, fonts by their names: their cells; slices of them. -/
import Derived.Test.YtdlmhienolmncaaGreatRowG
import Derived.Test.YtdlmhienolmncaaGreatLaidObj
import Derived.Test.YtdlmhienolmncaaGreatMatMath
import Derived.Test.YtdlmhienolmncaaGreatBoxMath
import Derived.Test.YtdlmhienolmncaaGreatFontB
namespace Go.Proofs.YtdlmhienolmncaaGreat
open Go.RowKit Dec

/-- A slice of records that are these. -/
def RowOf {α : Type} (w : World) (A : Option Addr) (n c z : Nat) (Is : α → List Value → Prop) (l : List α) : Prop :=
  ∃ cl, RowAt w A n c z cl ∧ cl.length = l.length ∧ ∀ (i : Nat) (x : α) (cs : List Value), l[i]? = some x → cl[i]? = some cs → Is x cs
theorem RowOf.below {α : Type} {w w' : World} {A : Option Addr} {n c z : Nat} {Is Is' : α → List Value → Prop} {l : List α} (h : RowOf w A n c z Is l) (hg : Below w.heap.size w w') (hi : ∀ x cs, Is x cs → Is' x cs) : RowOf w' A n c z Is' l := by
  obtain ⟨cl, h1, h2, h3⟩ := h
  exact ⟨cl, h1.below hg, h2, fun i x cs hx hc => hi x cs (h3 i x cs hx hc)⟩
theorem RowOf.len {α : Type} {w : World} {A : Option Addr} {n c z : Nat} {Is : α → List Value → Prop} {l : List α} (h : RowOf w A n c z Is l) : l.length = n := by
  obtain ⟨cl, h1, h2, -⟩ := h
  exact h2.symm.trans h1.len
theorem RowOf.cap {α : Type} {w : World} {A : Option Addr} {n c z : Nat} {Is : α → List Value → Prop} {l : List α} (h : RowOf w A n c z Is l) : n ≤ c ∧ c ≤ 9223372036854775807 := by
  obtain ⟨cl, h1, -, -⟩ := h
  exact ⟨h1.cap, h1.top⟩
theorem RowOf.get {α : Type} {w : World} {A : Option Addr} {n c z : Nat} {Is : α → List Value → Prop} {l : List α} (h : RowOf w A n c z Is l) {i : Nat} {x : α} (hx : l[i]? = some x) :
    ∃ (R o : Nat) (cs : List Value), A = some ⟨R, o, none⟩ ∧ R < w.heap.size ∧ Is x cs ∧ ∀ (j : Nat) (u : Value), cs[j]? = some u → w.cell? ⟨R, o + i * z + j, none⟩ = some u := by
  obtain ⟨cl, h1, h2, h3⟩ := h
  have hi := (List.getElem?_eq_some_iff.1 hx).1
  have hl := h1.len
  obtain ⟨R, o, e, hR, hk⟩ := h1.at_ (by omega)
  obtain ⟨cs, hc⟩ : ∃ cs, cl[i]? = some cs := ⟨_, List.getElem?_eq_getElem (by omega)⟩
  exact ⟨R, o, cs, e, hR, h3 i x cs hx hc, fun j u hu => hk i cs hc j u hu⟩
theorem pick_row {α β : Type} {Q : β → α → Prop} : ∀ (l : List α), (∀ r ∈ l, ∃ x, Q x r) → ∃ xs : List β, xs.length = l.length ∧ ∀ (i : Nat) (x : β) (r : α), xs[i]? = some x → l[i]? = some r → Q x r
  | [], _ => ⟨[], rfl, fun i x r h => by simp at h⟩
  | a :: l, h => by
    obtain ⟨x0, h0⟩ := h a (List.mem_cons_self ..)
    obtain ⟨xs, hl, hx⟩ := pick_row l (fun r hr => h r (List.mem_cons_of_mem _ hr))
    refine ⟨x0 :: xs, by simp [hl], fun i x r hx1 hr => ?_⟩
    cases i with
    | zero =>
      simp at hx1 hr
      subst hx1 hr
      exact h0
    | succ i => exact hx i x r (by simpa using hx1) (by simpa using hr)
/-- Objects in a row. -/
def ObjsAt (w : World) (A : Option Addr) (n c : Nat) (l : List OV) : Prop := RowOf w A n c 8 (ObjIs w) l
theorem ObjsAt.below {w w' : World} {A : Option Addr} {n c : Nat} {l : List OV} (h : ObjsAt w A n c l) (hg : Below w.heap.size w w') : ObjsAt w' A n c l := RowOf.below h hg (fun _ _ h => h.later hg)
structure OpT where
  name : ByteArray
  args : List OV
/-- An op's two cells. -/
def OpIs (w : World) (x : OpT) (cs : List Value) : Prop := ∃ (A : Option Addr) (n c : Nat), cs = [.string x.name, .slice A n c] ∧ x.name.size ≤ 9223372036854775807 ∧ ObjsAt w A n c x.args
theorem OpIs.later {w w' : World} {x : OpT} {cs : List Value} (h : OpIs w x cs) (hg : Below w.heap.size w w') : OpIs w' x cs := by
  obtain ⟨A, n, c, e, hs, h⟩ := h
  exact ⟨A, n, c, e, hs, h.below hg⟩
def OpsAt (w : World) (A : Option Addr) (n c : Nat) (l : List OpT) : Prop := RowOf w A n c 2 (OpIs w) l
theorem OpsAt.below {w w' : World} {A : Option Addr} {n c : Nat} {l : List OpT} (h : OpsAt w A n c l) (hg : Below w.heap.size w w') : OpsAt w' A n c l := RowOf.below h hg (fun _ _ h => h.later hg)
/-- A slice. -/
structure Sl where
  A : Option Addr
  n : Nat
  c : Nat
abbrev Sl.v (s : Sl) : Value := .slice s.A s.n s.c
/-- A mark, as its cells tell it. -/
structure Mk where
  kind : Int
  m : MV
  name : ByteArray
  code : Int
  ops : Sl
  st : Sl
  box : BV
/-- A mark's 25 cells. -/
def mkV (x : Mk) : List Value := [.int .i64 x.kind, .int .i64 x.m.a.m, .int .i64 x.m.a.s, .int .i64 x.m.b.m, .int .i64 x.m.b.s, .int .i64 x.m.c.m, .int .i64 x.m.c.s, .int .i64 x.m.d.m, .int .i64 x.m.d.s, .int .i64 x.m.e.m, .int .i64 x.m.e.s, .int .i64 x.m.f.m, .int .i64 x.m.f.s, .string x.name, .int .i64 x.code, .slice x.ops.A x.ops.n x.ops.c, .slice x.st.A x.st.n x.st.c, .int .i64 x.box.x0.m, .int .i64 x.box.x0.s, .int .i64 x.box.y0.m, .int .i64 x.box.y0.s, .int .i64 x.box.x1.m, .int .i64 x.box.x1.s, .int .i64 x.box.y1.m, .int .i64 x.box.y1.s]
theorem mkV_len (x : Mk) : (mkV x).length = 25 := rfl
def MkOk (w : World) (x : Mk) : Prop := x.name.size ≤ 9223372036854775807 ∧ (∃ ops, OpsAt w x.ops.A x.ops.n x.ops.c ops) ∧ ∃ st, OpsAt w x.st.A x.st.n x.st.c st
theorem MkOk.later {w w' : World} {x : Mk} (h : MkOk w x) (hg : Below w.heap.size w w') : MkOk w' x := by
  obtain ⟨h0, ⟨o, ho⟩, s, hs⟩ := h
  exact ⟨h0, ⟨o, ho.below hg⟩, s, hs.below hg⟩
structure MarksAt (w : World) (A : Option Addr) (n c : Nat) (l : List Mk) : Prop where
  row : RowAt w A n c 25 (l.map mkV)
  ok : ∀ x ∈ l, MkOk w x
theorem MarksAt.below {w w' : World} {A : Option Addr} {n c : Nat} {l : List Mk} (h : MarksAt w A n c l) (hg : Below w.heap.size w w') : MarksAt w' A n c l := ⟨h.row.below hg, fun x hx => (h.ok x hx).later hg⟩
theorem MarksAt.len {w : World} {A : Option Addr} {n c : Nat} {l : List Mk} (h : MarksAt w A n c l) : l.length = n := by have := h.row.len; rwa [List.length_map] at this
/-- The cells of a mark in a row. -/
def MkAt (w : World) (R o : Nat) (x : Mk) : Prop := ∀ j u, (mkV x)[j]? = some u → w.cell? ⟨R, o + j, none⟩ = some u
theorem MarksAt.get {w : World} {A : Option Addr} {n c : Nat} {l : List Mk} (h : MarksAt w A n c l) {i : Nat} {x : Mk} (hx : l[i]? = some x) : ∃ R o, A = some ⟨R, o, none⟩ ∧ R < w.heap.size ∧ MkAt w R (o + i * 25) x ∧ MkOk w x := by
  have hi := (List.getElem?_eq_some_iff.1 hx).1
  have hl := h.len
  obtain ⟨R, o, e, hR, hk⟩ := h.row.at_ (by omega)
  exact ⟨R, o, e, hR, fun j u hu => hk i (mkV x) (by rw [List.getElem?_map, hx]; rfl) j u hu, h.ok x (List.mem_of_getElem? hx)⟩
/-- A font by its name, as its cells tell it, and its glyphs. -/
structure Nm where
  name : ByteArray
  wd : Bool
  s : Sl
  ot : Int
  gs : List Gl
def nmV (x : Nm) : List Value := [.string x.name, .bool x.wd, .slice x.s.A x.s.n x.s.c, .int .i64 x.ot]
theorem nmV_len (x : Nm) : (nmV x).length = 4 := rfl
def NmOk (w : World) (x : Nm) : Prop := x.name.size ≤ 9223372036854775807 ∧ Glyphs w x.s.A x.s.n x.s.c x.gs
theorem NmOk.later {w w' : World} {x : Nm} (h : NmOk w x) (hg : Below w.heap.size w w') : NmOk w' x := ⟨h.1, h.2.below hg⟩
structure NmsAt (w : World) (A : Option Addr) (n c : Nat) (l : List Nm) : Prop where
  row : RowAt w A n c 4 (l.map nmV)
  ok : ∀ x ∈ l, NmOk w x
theorem NmsAt.below {w w' : World} {A : Option Addr} {n c : Nat} {l : List Nm} (h : NmsAt w A n c l) (hg : Below w.heap.size w w') : NmsAt w' A n c l := ⟨h.row.below hg, fun x hx => (h.ok x hx).later hg⟩
theorem NmsAt.len {w : World} {A : Option Addr} {n c : Nat} {l : List Nm} (h : NmsAt w A n c l) : l.length = n := by have := h.row.len; rwa [List.length_map] at this
theorem NmsAt.get {w : World} {A : Option Addr} {n c : Nat} {l : List Nm} (h : NmsAt w A n c l) {i : Nat} {x : Nm} (hx : l[i]? = some x) : ∃ R o, A = some ⟨R, o, none⟩ ∧ R < w.heap.size ∧
    (w.cell? ⟨R, o + i * 4, none⟩ = some (.string x.name) ∧ w.cell? ⟨R, o + i * 4 + 1, none⟩ = some (.bool x.wd) ∧ w.cell? ⟨R, o + i * 4 + 2, none⟩ = some (.slice x.s.A x.s.n x.s.c) ∧ w.cell? ⟨R, o + i * 4 + 3, none⟩ = some (.int .i64 x.ot)) ∧ NmOk w x := by
  have hi := (List.getElem?_eq_some_iff.1 hx).1
  have hl := h.len
  obtain ⟨R, o, e, hR, hk⟩ := h.row.at_ (by omega)
  have hk2 := fun j u hu => hk i (nmV x) (by rw [List.getElem?_map, hx]; rfl) j u hu
  exact ⟨R, o, e, hR, ⟨hk2 0 _ rfl, hk2 1 _ rfl, hk2 2 _ rfl, hk2 3 _ rfl⟩, h.ok x (List.mem_of_getElem? hx)⟩
/-- A slice of boxes, nil let in. -/
def bxV (b : BV) : List Value := [.int .i64 b.x0.m, .int .i64 b.x0.s, .int .i64 b.y0.m, .int .i64 b.y0.s, .int .i64 b.x1.m, .int .i64 b.x1.s, .int .i64 b.y1.m, .int .i64 b.y1.s]
theorem bxV_len (b : BV) : (bxV b).length = 8 := rfl
def BxsAt (w : World) (A : Option Addr) (n c : Nat) (l : List BV) : Prop := RowAt w A n c 8 (l.map bxV)
theorem BxsAt.below {w w' : World} {A : Option Addr} {n c : Nat} {l : List BV} (h : BxsAt w A n c l) (hg : Below w.heap.size w w') : BxsAt w' A n c l := RowAt.below h hg
theorem BxsAt.len {w : World} {A : Option Addr} {n c : Nat} {l : List BV} (h : BxsAt w A n c l) : l.length = n := by have := RowAt.len h; rwa [List.length_map] at this
theorem BxsAt.get {w : World} {A : Option Addr} {n c : Nat} {l : List BV} (h : BxsAt w A n c l) {i : Nat} {b : BV} (hx : l[i]? = some b) : ∃ R o, A = some ⟨R, o, none⟩ ∧ R < w.heap.size ∧
    (w.cell? ⟨R, o + i * 8, none⟩ = some (.int .i64 b.x0.m) ∧ w.cell? ⟨R, o + i * 8 + 1, none⟩ = some (.int .i64 b.x0.s) ∧ w.cell? ⟨R, o + i * 8 + 2, none⟩ = some (.int .i64 b.y0.m) ∧ w.cell? ⟨R, o + i * 8 + 3, none⟩ = some (.int .i64 b.y0.s) ∧ w.cell? ⟨R, o + i * 8 + 4, none⟩ = some (.int .i64 b.x1.m) ∧ w.cell? ⟨R, o + i * 8 + 5, none⟩ = some (.int .i64 b.x1.s) ∧ w.cell? ⟨R, o + i * 8 + 6, none⟩ = some (.int .i64 b.y1.m) ∧ w.cell? ⟨R, o + i * 8 + 7, none⟩ = some (.int .i64 b.y1.s)) := by
  have hi := (List.getElem?_eq_some_iff.1 hx).1
  have hl := h.len
  obtain ⟨R, o, e, hR, hk⟩ := RowAt.at_ h (by omega)
  have hk2 := fun j u hu => hk i (bxV b) (by rw [List.getElem?_map, hx]; rfl) j u hu
  exact ⟨R, o, e, hR, hk2 0 _ rfl, hk2 1 _ rfl, hk2 2 _ rfl, hk2 3 _ rfl, hk2 4 _ rfl, hk2 5 _ rfl, hk2 6 _ rfl, hk2 7 _ rfl⟩
end Go.Proofs.YtdlmhienolmncaaGreat
