/- The reference's Map, Then and Step at any arguments. -/
import Derived.Test.YtpdjooeogpidhaaRefThenOk
import Derived.Test.YtpdjooeogpidhaaRefMapOk
import Derived.Test.YtpdjooeogpidhaaRefStepOk
import Derived.Test.YtpdjooeogpidhaaMatStep
import Derived.Test.YtpdjooeogpidhaaMatMapB
import Derived.Test.YtpdjooeogpidhaaMatThenAny
namespace Go.Proofs.Ytpdjooeogpidhaa
open Go.RowKit Dec

theorem refmap_any (m : MV) (p r : PV) (E : Int) (w : World) (h : MapIs m p r E) :
    Calls Try.prog 6 #[m.val, p.val] w (IsP r E w) := by
  rcases h with ⟨hm, hp, x, y, ex, ey, hx, hy, h⟩ | ⟨h, rfl, rfl⟩
  · refine (refmap_ok m p x y ex ey w hm hp hx hy).mono fun e w' ⟨he, hb⟩ => ⟨?_, hb⟩
    rcases h with ⟨h1, rfl, rfl⟩ | ⟨h1, h2, rfl, rfl⟩ | ⟨h1, h2, rfl, rfl⟩
    · rcases he with ⟨k, _, _⟩ | ⟨_, rfl⟩
      · omega
      · rfl
    · rcases he with ⟨_, k, _⟩ | ⟨_, rfl⟩
      · omega
      · rfl
    · rcases he with ⟨_, _, rfl⟩ | ⟨k, _⟩
      · rfl
      · omega
  · exact (refmap_bad m p w h).mono fun e w' ⟨he, hb⟩ => ⟨he, hb⟩
theorem refthen_any (m n r : MV) (E : Int) (w : World) (h : ThenIs m n r E) :
    Calls Try.prog 8 #[m.val, n.val] w (IsM r E w) := by
  rcases h with ⟨hm, hn, q, e1, e2, e3, e4, e5, e6, h1, h2, h3, h4, h5, h6, h⟩ | ⟨h, rfl, rfl⟩
  · refine (refthen_ok m n q e1 e2 e3 e4 e5 e6 w hm hn h1 h2 h3 h4 h5 h6).mono fun e w' ⟨he, hb⟩ => ⟨?_, hb⟩
    rcases h with ⟨k1, k2, k3, k4, k5, k6, rfl, rfl⟩ | ⟨k, rfl, rfl⟩
    · rcases he with ⟨_, _, _, _, _, _, rfl⟩ | ⟨j, _⟩
      · rfl
      · exact absurd ⟨k1, k2, k3, k4, k5, k6⟩ j
    · rcases he with ⟨j1, j2, j3, j4, j5, j6, _⟩ | ⟨_, rfl⟩
      · exact absurd ⟨j1, j2, j3, j4, j5, j6⟩ k
      · rfl
  · by_cases hm : m.Ok
    · exact (refthen_bad2 m n w hm (fun k => h ⟨hm, k⟩)).mono fun e w' ⟨he, hb⟩ => ⟨he, hb⟩
    · exact (refthen_bad1 m n w hm).mono fun e w' ⟨he, hb⟩ => ⟨he, hb⟩
theorem refstep_any (x y : DV) (r : MV) (E : Int) (w : World) (h : StepIs x y r E) :
    Calls Try.prog 10 #[.agg #[.int .i64 x.m, .int .i64 x.s], .agg #[.int .i64 y.m, .int .i64 y.s]] w (IsM r E w) := by
  rcases h with ⟨hx, hy, rfl, rfl⟩ | ⟨h, rfl, rfl⟩
  · exact (refstep_ok x y w hx hy).mono fun e w' ⟨he, hb⟩ => ⟨he, hb⟩
  · by_cases hx : x.Ok
    · exact (refstep_bad2 x y w hx (fun k => h ⟨hx, k⟩)).mono fun e w' ⟨he, hb⟩ => ⟨he, hb⟩
    · exact (refstep_bad1 x y w hx).mono fun e w' ⟨he, hb⟩ => ⟨he, hb⟩
theorem StepIs.total (x y : DV) : ∃ r E, StepIs x y r E := by
  by_cases h : x.Ok ∧ y.Ok
  · exact ⟨_, _, .inl ⟨h.1, h.2, rfl, rfl⟩⟩
  · exact ⟨_, _, .inr ⟨h, rfl, rfl⟩⟩
theorem mcheck_said (m : MV) (w : World) : Calls Try.prog 12 #[m.val] w fun e w' => ∃ E : Int, (E == 0) = decide m.Ok ∧ e = .returned (.int .i64 E) ∧ Below w.heap.size w w' := by
  by_cases hv : m.Ok
  · exact (mcheck_any m w 0 (.inl ⟨hv, rfl⟩)).mono fun e w' ⟨he, hb⟩ => ⟨0, by rw [decide_eq_true hv]; rfl, he, hb⟩
  · exact (mcheck_any m w 1 (.inr ⟨hv, rfl⟩)).mono fun e w' ⟨he, hb⟩ => ⟨1, by rw [decide_eq_false hv]; rfl, he, hb⟩

/-- Blocks that are known cell for cell. -/
def Ws (w W : World) (L : List (Nat × TypeId × Array Value)) : Prop := Below w.heap.size w W ∧ ∀ x ∈ L, Whole W x.1 x.2.1 x.2.2
theorem Ws.start (w : World) : Ws w w [] := ⟨Below.refl _ _, fun x hx => by cases hx⟩
theorem Ws.here {w W W' : World} {L : List (Nat × TypeId × Array Value)} (h : Ws w W L) (hb : Below W.heap.size W W') : Ws w W' L :=
  ⟨h.1.trans (hb.mono h.1.size), fun x hx => (h.2 x hx).here hb⟩
theorem Ws.add {w W : World} {L : List (Nat × TypeId × Array Value)} (h : Ws w W L) (T : TypeId) (cs : Array Value) : Ws w (W.alloc (.cells cs T)) ((W.heap.size, T, cs) :: L) :=
  ⟨h.1.alloc h.1.size _, fun x hx => by
    rcases List.mem_cons.1 hx with rfl | hx
    · exact Whole.made _ _ _
    · exact (h.2 x hx).old _⟩
theorem Ws.drew {w W : World} {L : List (Nat × TypeId × Array Value)} (h : Ws w W L) : Ws w W.drew L := ⟨h.1.drew, fun x hx => (h.2 x hx).here (Below.refl _ _).drew⟩
theorem Ws.get {w W : World} {L : List (Nat × TypeId × Array Value)} (h : Ws w W L) {x : Nat × TypeId × Array Value} (hx : x ∈ L) : Whole W x.1 x.2.1 x.2.2 := h.2 x hx
end Go.Proofs.Ytpdjooeogpidhaa
