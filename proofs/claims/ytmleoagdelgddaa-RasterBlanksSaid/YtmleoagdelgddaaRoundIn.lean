/- A region that draws its order, within a round: the plain layer's walk over its orders serves. No program stands in it. -/
import Derived.Test.YtmleoagdelgddaaStillIn
import Derived.Orders
namespace Go.Proofs.Ytmleoagdelgddaa

theorem rows_wide {n : Nat} {P : Program} {row : String} {args : Array Value} {w : World} {R : Value → World → Prop} (h : Rows P row args w R) : RowsIn Fence.wide n P row args w R :=
  fun c cs _ => let ⟨v, w', r, s⟩ := h c cs; ⟨v, w', r, stepsIn_wide.2 s⟩
theorem rows_round (l : Nat) {n : Nat} {P : Program} {row : String} {args : Array Value} {w : World} {R : Value → World → Prop} (h : Rows P row args w R) : RowsIn (Fence.wide.inRound l) n P row args w R := rows_wide h
section
variable {n : Nat} {P : Program} {ops : Array Oper} {Q : Exit → Act → World → Prop} {md : Region.Mode}
/-- An operation's plain walk, in a round. -/
theorem oper_round (l : Nat) {o : Oper} {a : Act} {w : World} {K : Act → World → Prop} (hd : ∀ c, o.op ≠ .defer c) (h : o.wp P a w K Q) : o.wpIn (Fence.wide.inRound l) n P a w K Q := by
  unfold Oper.wp at h
  refine ⟨fun f _ => trivial, ?_⟩
  rw [semAt_plain _ hd]
  generalize (execOp a.eval o).run P w = r at *
  cases r with
  | ok x w' =>
    cases x <;> simp only [Oper.upon] at h <;> simp only [Oper.uponIn]
    case enter f args => exact ⟨(fun e => by cases e), (open_round l).calls h⟩
    case row row args => exact ⟨(fun e => by cases e), rows_round l h⟩
    all_goals exact h
  | halt x w' => cases x <;> simp only [Oper.upon] at h <;> simp only [Oper.uponIn] <;> exact h
theorem op_round (l : Nat) (hnd : noDeferB ops = true) (hQ : ¬ LetsOut Q) {i : Nat} {K : Act → World → Prop} {a : Act} {w : World} (h : wpOp P ops Q i K a w) : wpOpIn (Fence.wide.inRound l) n P ops Q i K a w := by
  unfold wpOp at h
  unfold wpOpIn
  cases ho : ops[i]? with
  | none => simp only [ho] at h ⊢; exact h
  | some o =>
    simp only [ho] at h ⊢
    by_cases hw : Region.wanted o (yielded ops a.tmps) = true
    · rw [if_pos hw] at h ⊢
      rcases h with h | h
      · exact oper_round l (noDeferB_spec hnd ho) h
      · exact absurd h.2 hQ
    · rw [if_neg hw] at h ⊢
      exact ⟨fun f _ => trivial, h⟩
theorem any_round (l : Nat) (hnd : noDeferB ops = true) (hQ : ¬ LetsOut Q) : ∀ (f : Nat) (listed : Array Bool) (a : Act) (w : World), wpAny P md ops Q f listed a w → wpAnyIn (Fence.wide.inRound l) n P md ops Q f listed a w
  | 0, _, _, _, h => h
  | f + 1, _, _, _, h => ⟨h.1, fun i hi => wpOpIn_mono (fun a w h' => any_round l hnd hQ f _ a w h') (op_round l hnd hQ (h.2 i hi))⟩
/-- The region's plain walk, in a round. -/
theorem region_round (l : Nat) (hnd : noDeferB ops = true) (hQ : ¬ LetsOut Q) {id : Nat} {a : Act} {w : World} (hm : P.follows .mixedOrders = true) (h : wpAny P .any ops Q ops.size (Array.replicate ops.size false) a w.drew) :
    (Code.region id ops true).wpIn (Fence.wide.inRound l) n P Q a w :=
  wpIn_region_any hm (any_round l hnd hQ _ _ _ _ h)
/-- The same, where the region ends as it should. -/
theorem region_round2 (l : Nat) {id : Nat} {a : Act} {w : World} (hnd : noDeferB ops = true) (hm : P.follows .mixedOrders = true) (h : wpAny P .any ops (fun e a w => e = .normal ∧ Q .normal a w) ops.size (Array.replicate ops.size false) a w.drew) :
    (Code.region id ops true).wpIn (Fence.wide.inRound l) n P Q a w :=
  Code.wpIn_mono (fun e a w q => by obtain ⟨rfl, q⟩ := q; exact q) (region_round l hnd (fun ⟨_, _, h⟩ => by cases h.1) hm h)
theorem region_round_lit (l : Nat) {id : Nat} {a : Act} {w : World} {os : List Oper} (hnd : noDeferB os.toArray = true) (hm : P.follows .mixedOrders = true) (h : wpAny P .any os.toArray (fun e a w => e = .normal ∧ Q .normal a w) os.toArray.size (Array.replicate os.toArray.size false) a w.drew) :
    (Code.region id os.toArray true).wpIn (Fence.wide.inRound l) n P Q a w := region_round2 l hnd hm h
end
end Go.Proofs.Ytmleoagdelgddaa
