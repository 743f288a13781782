/- A law that answers true and leaves its arguments as they were, in inflate's seat, whose rows list two variables: what is the same of every such law; a start that fits. -/
import Derived.Test.YtnjdnldoopgcpaaDoorCards
import Derived.Test.YtnjdnldoopgcpaaDoorTie
import Derived.Test.YtnjdnldoopgcpaaDoorInfN
import Derived.ProofKit
import Derived.OpenShut
import Derived.Deep.DeepHandedRow
import Derived.Deep.Slices
import Derived.Carry
import Derived.Lib.LaidTab
import Derived.Lay
import Derived.MakeChecks
import Derived.Lib.SmallJoins
namespace Go.Proofs.YtnjdnldoopgcpaaDoor
open Go.ChangeShapes Go.WideShapes Go.ChangeAt Go.RowKit Go.Joins Go.Deep

theorem own : ownKnob Tryd.prog.godebug = none := by kernel_rfl

/-- The listed variables, as each row of this seat lists them. -/
def listed : List (String × DataW Unit) := [("erasure/inflate.repeats", Rows.laid_erasure_inflate_repeats), ("erasure/inflate.order", Rows.laid_erasure_inflate_order)]
def ordI : List Int := [16, 17, 18, 0, 8, 7, 9, 6, 10, 5, 11, 4, 12, 3, 13, 2, 14, 1, 15]
theorem ord_eq : (Rows.laid_erasure_inflate_order : DataW Unit) = Lib.tabData .i64 ordI := by kernel_rfl
theorem gOrd : Tryd.prog.globalNamed "erasure/inflate.order" = some 0 := by kernel_rfl
theorem tOrd : (Tryd.prog.globals[0]?).map (·.type) = some 148 := by kernel_rfl
theorem gRep : Tryd.prog.globalNamed "erasure/inflate.repeats" = some 1 := by kernel_rfl
theorem tRep : (Tryd.prog.globals[1]?).map (·.type) = some 150 := by kernel_rfl
theorem cOrd : Tryd.prog.cellsOf 148 = 19 := by kernel_rfl
theorem cRep : Tryd.prog.cellsOf 150 = 6 := by kernel_rfl
theorem cRow : Tryd.prog.cellsOf 149 = 2 := by kernel_rfl
theorem cInt : Tryd.prog.cellsOf 3 = 1 := by kernel_rfl
/-- An array of pairs that reads as the table holds its numbers. -/
theorem rep_cells {w : World} {base : Nat} {sp : Nat → Bool} {held : Bool} {fuel : Nat} {cs : List Value} {p : List MemPlace} {enc : TypeId × Value → Unit}
    (h : DataW.trod enc Tryd.prog w base sp held fuel 150 cs = some (Rows.laid_erasure_inflate_repeats, p)) :
    ∀ (i : Nat) (a b : Int), [((2 : Int), (3 : Int)), (3, 3), (7, 11)][i]? = some (a, b) → cs[i * 2]? = some (.int .i64 a) ∧ cs[i * 2 + 1]? = some (.int .i64 b) := by
  intro i a b hi
  cases fuel with
  | zero => simp [DataW.trod] at h
  | succ fuel =>
    simp only [DataW.trod, Tryd.underlying150, cRow, cRep] at h
    split at h
    · rename_i hl
      obtain ⟨xs, hm, hx⟩ := Option.map_eq_some_iff.1 h
      have hxs : xs.map (·.1) = [(2 : Int), 3, 7].zipWith (fun a b => (DataW.agg [.lit (.int .i64 a), .lit (.int .i64 b)] : DataW Unit)) [3, 3, 11] := by
        have := congrArg Prod.fst hx
        simpa [Rows.laid_erasure_inflate_repeats] using this
      have hi3 : i < 3 := by
        have := (List.getElem?_eq_some_iff.1 hi).1
        simpa using this
      obtain ⟨y, hy, hf⟩ := Lib.mapM_at hm i i (by simp [hi3])
      have hy1 : y.1 = DataW.agg [.lit (.int .i64 a), .lit (.int .i64 b)] := by
        have h2 : (xs.map (·.1))[i]? = some y.1 := by rw [List.getElem?_map, hy]; rfl
        rw [hxs] at h2
        obtain rfl | rfl | rfl : i = 0 ∨ i = 1 ∨ i = 2 := by omega
        all_goals
          simp at hi h2
          obtain ⟨rfl, rfl⟩ := hi
          exact h2.symm
      obtain ⟨zs, n, -, hz, -, hzl, hat⟩ := DataW.trod_struct Tryd.underlying149 hf
      have hzs : zs.map (·.1) = [DataW.lit (.int .i64 a), .lit (.int .i64 b)] := by
        rw [hz] at hy1
        injection hy1
      have h0 := hat 0 _ rfl
      have h1 := hat 1 _ rfl
      match zs, hzs with
      | [u, v], hzs =>
        simp at hzs
        obtain ⟨n0, e0, f0, -⟩ := DataW.trod_int Tryd.underlying3 (h0.trans rfl)
        obtain ⟨n1, e1, f1, -⟩ := DataW.trod_int Tryd.underlying3 (h1.trans rfl)
        have g0 : n0 = a := by
          have e := hzs.1
          rw [f0] at e
          simpa using e
        have g1 : n1 = b := by
          have e := hzs.2
          rw [f1] at e
          simpa using e
        subst g0 g1
        have k0 := congrArg (·[0]?) e0
        have k1 := congrArg (·[0]?) e1
        simp [List.getElem?_take, List.getElem?_drop] at k0 k1
        exact ⟨k0.2, k1.2⟩
    · cases h
theorem var_of {w : World} {name : String} {d : DataW Unit} : ∀ {l : List (String × DataW Unit)} {ps : List MemPlace}, DataW.LaidVars Tryd.prog w l ps → (name, d) ∈ l →
    ∃ g t cs fuel p, Tryd.prog.globalNamed name = some g ∧ (Tryd.prog.globals[g]?).map (·.type) = some t ∧ w.var? Tryd.prog name = some cs ∧ DataW.trod (fun _ => ()) Tryd.prog w 0 (fun _ => true) false fuel t cs.toList = some (d, p)
  | [], _, _, hm => by cases hm
  | (n', d') :: r, ps, h, hm => by
    obtain ⟨g', t', cs, fuel, p, q, hg', ht', hvar, hd, h5, _⟩ := h
    rcases List.mem_cons.1 hm with e1 | e1
    · cases e1
      exact ⟨g', t', cs, fuel, p, hg', ht', hvar, hd⟩
    · exact var_of h5 e1
theorem ready {W : World} (hL : laidMetH Tryd.prog listed W) (_ : W.ShapedOpen Tryd.prog) : Env W := by
  rw [MakeChecks.laidMetH_plain _ _ _ (by kernel_rfl)] at hL
  obtain ⟨ps, hv, _⟩ := hL
  obtain ⟨g, t, cs, fuel, p, hg, ht, hvar, hd⟩ := var_of (name := "erasure/inflate.order") (d := Rows.laid_erasure_inflate_order) hv (by unfold listed; simp)
  obtain rfl := Option.some.inj (gOrd.symm.trans hg)
  obtain rfl := Option.some.inj (tOrd.symm.trans ht)
  rw [ord_eq] at hd
  have ho := Lib.cells_of_tab Tryd.underlying148 Tryd.underlying3 cInt cOrd hd
  obtain ⟨g, t, ds, fuel, p, hg, ht, hvar2, hd⟩ := var_of (name := "erasure/inflate.repeats") (d := Rows.laid_erasure_inflate_repeats) hv (by unfold listed; simp)
  obtain rfl := Option.some.inj (gRep.symm.trans hg)
  obtain rfl := Option.some.inj (tRep.symm.trans ht)
  have hr := rep_cells hd
  have hcs : cs = (ordI.map fun z => Value.int .i64 z).toArray := by rw [← ho]
  have hord : ∀ (i v : Nat), orderT[i]? = some v → ordI[i]? = some (v : Int) := fun i v h => by
    have e : ordI = orderT.map Int.ofNat := rfl
    rw [e, List.getElem?_map, h]
    rfl
  refine ⟨?_, fun i v h => ?_, fun s h1 h2 => ?_⟩
  · have := World.var?_cell gRep hvar2 0
    obtain ⟨h1, -⟩ := hr 0 2 3 rfl
    rw [Nat.zero_mul, Array.getElem?_toList] at h1
    rw [h1] at this
    have hlt : (1 : Nat) < W.heap.size := by
      unfold World.cell? at this
      simp only at this
      by_cases hh : (1 : Nat) < W.heap.size
      · exact hh
      · rw [Array.getElem?_eq_none (by omega)] at this
        cases this
    exact hlt
  · rw [World.var?_cell gOrd hvar i, hcs, List.getElem?_toArray, List.getElem?_map, hord i v h]
    rfl
  · rw [World.var?_cell gRep hvar2, World.var?_cell gRep hvar2, ← Array.getElem?_toList, ← Array.getElem?_toList]
    obtain rfl | rfl | rfl : s = 16 ∨ s = 17 ∨ s = 18 := by omega
    · exact hr 0 2 3 rfl
    · exact hr 1 3 3 rfl
    · exact hr 2 7 11 rfl

/-- A start that lays the listed variables. -/
noncomputable def start (os : Os) : World := World.laidAll Tryd.prog os listed
theorem start_met (os : Os) (args : Array Value) : laidMetH Tryd.prog listed ((start os).forCall (fun _ _ => 0) ⟨#[], args, []⟩).memory := by
  rw [MakeChecks.laidMetH_plain _ _ _ (by kernel_rfl)]
  exact laidMet_laidAll _ (by kernel_rfl) (by kernel_rfl)
theorem start_shaped (os : Os) (args : Array Value) : ((start os).forCall (fun _ _ => 0) ⟨#[], args, []⟩).Shaped Tryd.prog :=
  World.shaped_of_ZipB (by kernel_rfl) (by kernel_rfl)

theorem start_fits {H : Type} {enc : TypeId × Value → H} {os : Os} {f : FuncId} {fn : Func} {s : OpenSpec} {conds : List PathCond} {apart : Bool} {laid : List (String × DataW Unit)} (args : Array Value)
    (hok : Input.okWideB Tryd.prog ((start os).forCall (fun _ _ => 0) ⟨#[], args, []⟩) f ⟨#[], args, []⟩ = true)
    (hrow : s.preRow enc Tryd.prog fn conds apart laid ((start os).forCall (fun _ _ => 0) ⟨#[], args, []⟩).memory args) :
    ∃ (w : World) (tape : Tape) (i : Input), w.os = os ∧ (w.forCall tape i).Shaped Tryd.prog ∧ i.vars = [] ∧ Input.okWide Tryd.prog (w.forCall tape i) .any w.heap.size f i ∧
      s.preRow enc Tryd.prog fn conds apart laid (w.forCall tape i).memory i.args ∧ ({} : Assume).holds Tryd.prog (lone (Frame.enter Tryd.prog f i.args .normal) [] (w.forCall tape i)) :=
  ⟨start os, fun _ _ => 0, ⟨#[], args, []⟩, World.laidAll_os _ _ _, start_shaped os args, (Input.okWide_of_okWideB (base := 0) hok).1, (Input.okWide_of_okWideB hok).2, hrow, by
    simp only [Assume.holds]
    exact ⟨by simp, by simp, fun _ => Modest.zero, by simp, by simp⟩⟩
section
variable {H : Type} {enc : TypeId × Value → H}
theorem laidOut : laidOutB Tryd.prog = true := by kernel_rfl
/-- A type whose values are read without an end. -/
def readsB (P : Program) (t : TypeId) : Bool := P.readableRec t && decide (t < P.types.size)
theorem trodAll_below {P : Program} (hlo : laidOutB P = true) {W W' : World} (hb : Below W.heap.size W W') : ∀ {ts : List TypeId} {vs : List Value} {ds : List (DataW H)} {ps : List MemPlace}, ts.all (readsB P) = true →
    DataW.TrodAll enc P W 0 (fun _ => true) true ts vs ds ps → (∀ x ∈ ps, x.block < W.heap.size) → DataW.TrodAll enc P W' 0 (fun b => decide (b < W.heap.size)) true ts vs ds ps
  | [], [], [], _, _, h, _ => h
  | t :: ts, v :: vs, d :: ds, ps, hr, h, hlt => by
    obtain ⟨p, q, h1, h2, rfl⟩ := h
    simp only [List.all_cons, Bool.and_eq_true] at hr
    obtain ⟨hr1, hr2⟩ := hr
    simp only [readsB, Bool.and_eq_true, decide_eq_true_eq] at hr1
    exact ⟨p, q, Below.trod hlo hr1.1 hr1.2 h1 hb (fun x hx => hlt x (List.mem_append_left _ hx)), trodAll_below hlo hb hr2 h2 (fun x hx => hlt x (List.mem_append_right _ hx)), rfl⟩
  | [], _ :: _, _, _, _, h, _ => by cases h
  | [], [], _ :: _, _, _, h, _ => by cases h
  | _ :: _, [], _, _, _, h, _ => by cases h
  | _ :: _, _ :: _, [], _, _, h, _ => by cases h
end
section
variable {H : Type} {enc : TypeId × Value → H} {W : World} {base : Nat} {spare : Nat → Bool} {held : Bool}
theorem addr_in {w : World} {a : Addr} {v : Value} (h : w.cell? a = some v) : a.spot = none := by
  unfold World.cell? at h
  cases hs : a.spot with
  | none => rfl
  | some s =>
    rw [hs] at h
    split at h
    · simp at h
    · cases h
theorem addr_add {a : Addr} (hs : a.spot = none) (n : Nat) : a.add n = ⟨a.block, a.off + n, none⟩ := by
  obtain ⟨b, o, s⟩ := a
  obtain rfl : s = none := hs
  unfold Addr.add
  split
  · subst n; rfl
  · rfl
end
end Go.Proofs.YtnjdnldoopgcpaaDoor
