/- Objects among the arguments: a tree. -/
import Derived.Test.YtdlmhienolmncaaGreatMem
import Derived.Test.YtdlmhienolmncaaGreatRows
import Derived.ProofKit
import Derived.OpenShut
import Derived.Deep.DeepHandedRow
import Derived.Deep.Slices
import Derived.Carry
import Derived.Lib.LaidTab
import Derived.Lay
import Derived.MakeChecks
import Derived.Lib.SmallJoins
namespace Go.Proofs.YtdlmhienolmncaaGreat
open Go.ChangeShapes Go.WideShapes Go.ChangeAt Go.RowKit Go.Joins Go.Deep

theorem oaddr_in {w : World} {a : Addr} {v : Value} (h : w.cell? a = some v) : a.spot = none := by
  unfold World.cell? at h
  cases hs : a.spot with
  | none => rfl
  | some s =>
    rw [hs] at h
    split at h
    · simp at h
    · cases h
theorem oaddr_add {a : Addr} (hs : a.spot = none) (n : Nat) : a.add n = ⟨a.block, a.off + n, none⟩ := by
  obtain ⟨b, o, s⟩ := a
  obtain rfl : s = none := hs
  unfold Addr.add
  split
  · subst n; rfl
  · rfl
theorem cObj : Tryz.prog.cellsOf 112 = 8 := by kernel_rfl
theorem cDecO : Tryz.prog.cellsOf 47 = 2 := by kernel_rfl
theorem cIntO : Tryz.prog.cellsOf 3 = 1 := by kernel_rfl
theorem cBoolO : Tryz.prog.cellsOf 4 = 1 := by kernel_rfl
theorem cStrO : Tryz.prog.cellsOf 9 = 1 := by kernel_rfl
theorem cStrsO : Tryz.prog.cellsOf 110 = 1 := by kernel_rfl
theorem cObjsO : Tryz.prog.cellsOf 106 = 1 := by kernel_rfl
/-- A row of texts. -/
structure StrsAt (w : World) (A : Option Addr) (n c : Nat) (l : List ByteArray) : Prop where
  len : l.length = n
  cap : n ≤ c
  top : c ≤ 9223372036854775807
  text : ∀ x ∈ l, x.size ≤ 9223372036854775807
  at_ : 0 < n → ∃ R o, A = some ⟨R, o, none⟩ ∧ R < w.heap.size ∧ ∀ (i : Nat) (x : ByteArray), l[i]? = some x → w.cell? ⟨R, o + i, none⟩ = some (.string x)
theorem StrsAt.below {w w' : World} {A : Option Addr} {n c : Nat} {l : List ByteArray} (h : StrsAt w A n c l) (hg : Below w.heap.size w w') : StrsAt w' A n c l :=
  ⟨h.len, h.cap, h.top, h.text, fun hn => by
    obtain ⟨R, o, e, hR, hc⟩ := h.at_ hn
    exact ⟨R, o, e, Nat.lt_of_lt_of_le hR hg.size, fun i x hx => (hg.cell (p := ⟨R, o + i, none⟩) hR).trans (hc i x hx)⟩⟩
/-- An object, without the places where its parts lie. -/
inductive OV where
  | mk (kind : Int) (b : Bool) (m s : Int) (text : ByteArray) (parts : List OV) (keys : List ByteArray) (ref : Int)
/-- An object's eight cells in a world. -/
inductive ObjIs (w : World) : OV → List Value → Prop where
  | mk {k : Int} {b : Bool} {m s : Int} {t : ByteArray} {parts : List OV} {keys : List ByteArray} {r : Int} {A : Option Addr} {n c : Nat} {A2 : Option Addr} {n2 c2 : Nat} (R o : Nat) (F : Nat → List Value)
      (ht : t.size ≤ 9223372036854775807) (hk : StrsAt w A2 n2 c2 keys) (hlen : parts.length = n) (hcap : n ≤ c) (htop : c ≤ 9223372036854775807) (hnil : A = none → n = 0 ∧ c = 0)
      (hA : 0 < n → A = some ⟨R, o, none⟩ ∧ R < w.heap.size) (hF : ∀ (i : Nat) (x : OV), parts[i]? = some x → ∀ (j : Nat) (u : Value), (F i)[j]? = some u → w.cell? ⟨R, o + i * 8 + j, none⟩ = some u)
      (hin : ∀ (i : Nat) (x : OV), parts[i]? = some x → ObjIs w x (F i)) :
      ObjIs w (.mk k b m s t parts keys r) [.int .i64 k, .bool b, .int .i64 m, .int .i64 s, .string t, .slice A n c, .slice A2 n2 c2, .int .i64 r]
theorem ObjIs.later {w w' : World} {x : OV} {cs : List Value} (h : ObjIs w x cs) (hg : Below w.heap.size w w') : ObjIs w' x cs := by
  induction h with
  | mk R o F ht hk hlen hcap htop hnil hA hF hin ih =>
    refine .mk R o F ht (hk.below hg) hlen hcap htop hnil (fun hn => ⟨(hA hn).1, Nat.lt_of_lt_of_le (hA hn).2 hg.size⟩) (fun i x hx j u hu => ?_) ih
    have hn := (List.getElem?_eq_some_iff.1 hx).1
    exact (hg.cell (p := ⟨R, o + i * 8 + j, none⟩) (hA (by omega)).2).trans (hF i x hx j u hu)
theorem ObjIs.len {w : World} {x : OV} {cs : List Value} (h : ObjIs w x cs) : cs.length = 8 := by
  cases h; rfl
section
variable {H : Type} {enc : TypeId × Value → H} {W : World} {base : Nat} {held : Bool}
set_option maxRecDepth 100000 in
theorem open_strs {fuel : Nat} {cs : List Value} {x : DataW H × List MemPlace} (h : DataW.trod enc Tryz.prog W base (fun _ => true) held fuel 110 cs = some x) :
    ∃ (A : Option Addr) (n c : Nat) (l : List ByteArray), cs = [.slice A n c] ∧ StrsAt W A n c l := by
  rcases open_slice Tryz.underlying110 h with ⟨hc, -⟩ | ⟨a', n, c, m, k, D, Pl, hc, hb, hl, hm, hmm, -, hi⟩
  · exact ⟨none, 0, 0, [], hc, ⟨rfl, by omega, by omega, fun g h => by simp at h, fun h => absurd h (by omega)⟩⟩
  · unfold maxLen at hm
    have key : ∀ i, i < n → ∃ x : ByteArray, W.cell? (a'.add i) = some (.string x) ∧ x.size ≤ 9223372036854775807 := fun i hin => by
      obtain ⟨cs', h1, h2⟩ := hi i (by rw [hmm]; simp; omega)
      rw [cStrO] at h1
      obtain ⟨-, hlen, hat⟩ := World.cells?_some h1
      obtain ⟨z, hz, -, hw⟩ := DataW.trod_string Tryz.underlying9 h2
      subst hz
      have e := hat 0 (by omega)
      have e1 : (a'.add (i * 1)).add 0 = a'.add i := by rw [Nat.mul_one]; simp [Addr.add]
      rw [e1] at e
      unfold maxLen at hw
      exact ⟨z, e, hw⟩
    by_cases hn : n = 0
    · subst hn
      exact ⟨some a', 0, c, [], hc, ⟨rfl, by omega, by omega, fun g h => by simp at h, fun h => absurd h (by omega)⟩⟩
    · obtain ⟨x0, e0, -⟩ := key 0 (by omega)
      have e0' : W.cell? a' = some (.string x0) := by
        have : a'.add 0 = a' := by unfold Addr.add; rfl
        rw [this] at e0; exact e0
      have hs := oaddr_in e0'
      haveI : Inhabited ByteArray := ⟨⟨#[]⟩⟩
      obtain ⟨F, hF⟩ := choose_lt key
      refine ⟨some a', n, c, (List.range n).map F, hc, ⟨by simp, hl, by omega, fun g hg => ?_, fun _ => ⟨a'.block, a'.off, ?_, World.block_lt_of_cell? _ _ e0', fun i g hg => ?_⟩⟩⟩
      · obtain ⟨j, hj, rfl⟩ := List.mem_map.1 hg
        exact (hF j (List.mem_range.1 hj)).2
      · obtain ⟨b, o, s⟩ := a'
        obtain rfl : s = none := hs
        rfl
      · have hin : i < n := by
          have := (List.getElem?_eq_some_iff.1 hg).1
          simpa using this
        simp [List.getElem?_range hin] at hg
        subst hg
        have := (hF i hin).1
        rw [oaddr_add hs] at this
        exact this
set_option maxRecDepth 100000 in
theorem obj_in : ∀ (N : Nat) {fuel : Nat} {cs : List Value} {d : DataW H} {p : List MemPlace}, SizeOf.sizeOf d ≤ N → cs.length = 8 → DataW.trod enc Tryz.prog W base (fun _ => true) held fuel 112 cs = some (d, p) → ∃ x : OV, ObjIs W x cs
  | N, fuel, cs, d, p, hN, hl, h => by
    match cs, hl with
    | [c0, c1, c2, c3, c4, c5, c6, c7], _ =>
      obtain ⟨xs, k, -, hx, -, hlen, hg⟩ := DataW.trod_struct Tryz.underlying112 h
      match xs, hlen with
      | [y0, y1, y2, y3, y4, y5, y6], _ =>
        have g0 := hg 0 _ rfl
        have g1 := hg 1 _ rfl
        have g2 := hg 2 _ rfl
        have g3 := hg 3 _ rfl
        have g4 := hg 4 _ rfl
        have g5 := hg 5 _ rfl
        have g6 := hg 6 _ rfl
        simp [cIntO, cBoolO, cDecO, cStrO, cStrsO, cObjsO] at g0 g1 g2 g3 g4 g5 g6
        obtain ⟨kd, e0, -, -⟩ := DataW.trod_int Tryz.underlying3 g0
        obtain ⟨b, e1, -⟩ := DataW.trod_bool Tryz.underlying4 g1
        obtain ⟨zs, k', -, hy, -, hlen', hg'⟩ := DataW.trod_struct Tryz.underlying47 g2
        match zs, hlen' with
        | [z0, z1], _ =>
          have d0 := hg' 0 _ rfl
          have d1 := hg' 1 _ rfl
          simp [cIntO] at d0 d1
          obtain ⟨m, e2, -, -⟩ := DataW.trod_int Tryz.underlying3 d0
          obtain ⟨s, e3, -, -⟩ := DataW.trod_int Tryz.underlying3 d1
          obtain ⟨t, e4, -, ht⟩ := DataW.trod_string Tryz.underlying9 g3
          obtain ⟨A2, n2, c2', keys, e6, hk⟩ := open_strs g5
          obtain ⟨r, e7, -, -⟩ := DataW.trod_int Tryz.underlying3 g6
          simp at e0 e1 e2 e3 e4 e6 e7
          unfold maxLen at ht
          subst e0 e1 e2 e3 e4 e6 e7
          have hsz : SizeOf.sizeOf y4.1 < SizeOf.sizeOf d := by
            injection hx with hx1 hx2
            rw [hx1]
            have : y4.1 ∈ [y0, y1, y2, y3, y4, y5, y6].map (·.1) := by simp
            have := List.sizeOf_lt_of_mem this
            simp only [DataW.agg.sizeOf_spec]
            omega
          rcases open_slice Tryz.underlying106 g4 with ⟨hc, -⟩ | ⟨a', n, c, m', k2, D, Pl, hc, hb, hl2, hm, hmm, hxx, hi⟩
          · simp at hc
            subst hc
            exact ⟨.mk kd b m s t [] keys r, .mk 0 0 (fun _ => []) ht hk rfl (by omega) (by omega) (fun _ => ⟨rfl, rfl⟩) (fun h => absurd h (by omega)) (fun i x hx => by simp at hx) (fun i x hx => by simp at hx)⟩
          · simp at hc
            subst hc
            unfold maxLen at hm
            have key : ∀ i, i < n → ∃ x : OV × List Value, (∀ j u, x.2[j]? = some u → W.cell? ((a'.add (i * 8)).add j) = some u) ∧ ObjIs W x.1 x.2 := fun i hin => by
              obtain ⟨cs', h1, h2⟩ := hi i (by rw [hmm]; simp; omega)
              rw [cObj] at h1
              obtain ⟨-, hlen3, hat⟩ := World.cells?_some h1
              have hDi : SizeOf.sizeOf (D i) < SizeOf.sizeOf y4.1 := by
                rw [hxx]
                have : D i ∈ (List.range n).map D := List.mem_map.2 ⟨i, List.mem_range.2 hin, rfl⟩
                have := List.sizeOf_lt_of_mem this
                simp only [DataW.slice.sizeOf_spec]
                omega
              obtain ⟨x, hx3⟩ := obj_in (N - 1) (by omega) hlen3 h2
              refine ⟨(x, cs'), fun j u hu => ?_, hx3⟩
              have hj : j < cs'.length := (List.getElem?_eq_some_iff.1 hu).1
              exact (hat j (by rw [← hlen3]; exact hj)).trans hu
            by_cases hn : n = 0
            · subst hn
              exact ⟨.mk kd b m s t [] keys r, .mk 0 0 (fun _ => []) ht hk rfl (by omega) (by omega) (fun h => by cases h) (fun h => absurd h (by omega)) (fun i x hx => by simp at hx) (fun i x hx => by simp at hx)⟩
            · obtain ⟨x0, e0, hx0⟩ := key 0 (by omega)
              have hl0 := hx0.len
              obtain ⟨u0, hu0⟩ : ∃ u, x0.2[0]? = some u := ⟨_, List.getElem?_eq_getElem (by omega)⟩
              have e0' : W.cell? a' = some u0 := by
                have := e0 0 u0 hu0
                rw [show (0 : Nat) * 8 = 0 from rfl] at this
                have e : (a'.add 0).add 0 = a' := by unfold Addr.add; rfl
                rwa [e] at this
              have hs := oaddr_in e0'
              haveI : Inhabited (OV × List Value) := ⟨x0⟩
              obtain ⟨F, hF⟩ := choose_lt key
              have hget : ∀ (i : Nat) (x : OV), ((List.range n).map fun i => (F i).1)[i]? = some x → i < n ∧ (F i).1 = x := fun i x hx => by
                have hin : i < n := by
                  have := (List.getElem?_eq_some_iff.1 hx).1
                  simpa using this
                simp [List.getElem?_range hin] at hx
                exact ⟨hin, hx⟩
              refine ⟨.mk kd b m s t ((List.range n).map fun i => (F i).1) keys r, .mk a'.block a'.off (fun i => (F i).2) ht hk (by simp) hl2 (by omega) (fun h => by cases h) (fun _ => ⟨?_, World.block_lt_of_cell? _ _ e0'⟩) (fun i x hx j u hu => ?_) (fun i x hx => ?_)⟩
              · obtain ⟨b, o, s⟩ := a'
                obtain rfl : s = none := hs
                rfl
              · obtain ⟨hin, rfl⟩ := hget i x hx
                have := (hF i hin).1 j u hu
                rw [oaddr_add hs, oaddr_add rfl] at this
                exact this
              · obtain ⟨hin, rfl⟩ := hget i x hx
                exact (hF i hin).2
  termination_by N => N
  decreasing_by omega
set_option maxRecDepth 100000 in
theorem open_obj {b0 : Nat} {v : Value} {d : DataW H} {p : List MemPlace} (hv : Value.okWide Tryz.prog W .any b0 112 v) (h : DataW.Trod enc Tryz.prog W base (fun _ => true) held 112 v d p) :
    ∃ (x : OV) (cs : List Value), v = .agg cs.toArray ∧ ObjIs W x cs := by
  obtain ⟨cs, rfl, hsz⟩ := okWide_struct Tryz.underlying112 hv
  obtain ⟨l⟩ := cs
  obtain ⟨fuel, hf⟩ := h
  obtain ⟨x, hx⟩ := obj_in _ (Nat.le_refl _) (hsz.trans cObj) hf
  exact ⟨x, l, rfl, hx⟩
end
end Go.Proofs.YtdlmhienolmncaaGreat
