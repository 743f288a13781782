/- A region that draws its order, within a round: the plain layer's walk over its orders serves. No program stands in it. -/
import Derived.Test.YtmleoagdelgddaaStillIn
import Derived.Orders
import Derived.Test.YtmleoagdelgddaaRasBk
namespace Go.Proofs.Ytmleoagdelgddaa

theorem rows_wide {n : Nat} {P : Program} {row : String} {args : Array Value} {w : World} {R : Value → World → Prop} (h : Rows P row args w R) : RowsIn Fence.wide n P row args w R :=
  fun c cs _ => let ⟨v, w', r, s⟩ := h c cs; ⟨v, w', r, stepsIn_wide.2 s⟩
theorem rows_round (l : Nat) {n : Nat} {P : Program} {row : String} {args : Array Value} {w : World} {R : Value → World → Prop} (h : Rows P row args w R) : RowsIn (Fence.wide.inRound l) n P row args w R := rows_wide h
section
variable {n : Nat} {P : Program} {ops : Array Oper} {Q : Exit → Act → World → Prop} {md : Region.Mode}
/-- An operation's plain walk, in a round. -/
theorem oper_round (l : Nat) {o : Oper} {a : Act} {w : World} {K : Act → World → Prop} (hd : ∀ c, o.op ≠ .defer c) (h : o.wp P a w K Q) : o.wpIn (Fence.wide.inRound l) n P a w K Q := by
  unfold Oper.wp at h
  refine ⟨fun f _ => trivial, ?_⟩
  rw [semAt_plain _ hd]
  generalize (execOp a.eval o).run P w = r at *
  cases r with
  | ok x w' =>
    cases x <;> simp only [Oper.upon] at h <;> simp only [Oper.uponIn]
    case enter f args => exact ⟨(fun e => by cases e), (open_round l).calls h⟩
    case row row args => exact ⟨(fun e => by cases e), rows_round l h⟩
    all_goals exact h
  | halt x w' => cases x <;> simp only [Oper.upon] at h <;> simp only [Oper.uponIn] <;> exact h
theorem op_round (l : Nat) (hnd : noDeferB ops = true) (hQ : ¬ LetsOut Q) {i : Nat} {K : Act → World → Prop} {a : Act} {w : World} (h : wpOp P ops Q i K a w) : wpOpIn (Fence.wide.inRound l) n P ops Q i K a w := by
  unfold wpOp at h
  unfold wpOpIn
  cases ho : ops[i]? with
  | none => simp only [ho] at h ⊢; exact h
  | some o =>
    simp only [ho] at h ⊢
    by_cases hw : Region.wanted o (yielded ops a.tmps) = true
    · rw [if_pos hw] at h ⊢
      rcases h with h | h
      · exact oper_round l (noDeferB_spec hnd ho) h
      · exact absurd h.2 hQ
    · rw [if_neg hw] at h ⊢
      exact ⟨fun f _ => trivial, h⟩
theorem any_round (l : Nat) (hnd : noDeferB ops = true) (hQ : ¬ LetsOut Q) : ∀ (f : Nat) (listed : Array Bool) (a : Act) (w : World), wpAny P md ops Q f listed a w → wpAnyIn (Fence.wide.inRound l) n P md ops Q f listed a w
  | 0, _, _, _, h => h
  | f + 1, _, _, _, h => ⟨h.1, fun i hi => wpOpIn_mono (fun a w h' => any_round l hnd hQ f _ a w h') (op_round l hnd hQ (h.2 i hi))⟩
/-- The region's plain walk, in a round. -/
theorem region_round (l : Nat) (hnd : noDeferB ops = true) (hQ : ¬ LetsOut Q) {id : Nat} {a : Act} {w : World} (hm : P.follows .mixedOrders = true) (h : wpAny P .any ops Q ops.size (Array.replicate ops.size false) a w.drew) :
    (Code.region id ops true).wpIn (Fence.wide.inRound l) n P Q a w :=
  wpIn_region_any hm (any_round l hnd hQ _ _ _ _ h)
/-- The same, where the region ends as it should. -/
theorem region_round2 (l : Nat) {id : Nat} {a : Act} {w : World} (hnd : noDeferB ops = true) (hm : P.follows .mixedOrders = true) (h : wpAny P .any ops (fun e a w => e = .normal ∧ Q .normal a w) ops.size (Array.replicate ops.size false) a w.drew) :
    (Code.region id ops true).wpIn (Fence.wide.inRound l) n P Q a w :=
  Code.wpIn_mono (fun e a w q => by obtain ⟨rfl, q⟩ := q; exact q) (region_round l hnd (fun ⟨_, _, h⟩ => by cases h.1) hm h)
theorem region_round_lit (l : Nat) {id : Nat} {a : Act} {w : World} {os : List Oper} (hnd : noDeferB os.toArray = true) (hm : P.follows .mixedOrders = true) (h : wpAny P .any os.toArray (fun e a w => e = .normal ∧ Q .normal a w) os.toArray.size (Array.replicate os.toArray.size false) a w.drew) :
    (Code.region id os.toArray true).wpIn (Fence.wide.inRound l) n P Q a w := region_round2 l hnd hm h
end
end Go.Proofs.Ytmleoagdelgddaa
/- raster: Blank at a sound image. Written by gen_blank.py. -/
namespace Go.Proofs.Ytmleoagdelgddaa
open Go.RowKit Dec
attribute [local go_sem] Oper.semAt_some
set_option linter.unusedSimpArgs false

/-- A row that is filled by f: m rounds of N. -/
def fillF (f : Nat → Nat) (N m : Nat) : List Nat := (List.range m).map f ++ List.replicate (N - m) 0
theorem fillF_len (f : Nat → Nat) {N m : Nat} (h : m ≤ N) : (fillF f N m).length = N := by unfold fillF; simp; omega
theorem fillF_step (f : Nat → Nat) {N m : Nat} (h : m < N) : (fillF f N m).set m (f m) = fillF f N (m + 1) := by
  unfold fillF
  rw [List.set_append_right _ _ (by simp), show N - m = (N - (m + 1)) + 1 by omega, List.replicate_succ]
  simp [List.range_succ]
theorem fillF_skip (f : Nat → Nat) {N m : Nat} (h : m < N) (h0 : f m = 0) : fillF f N m = fillF f N (m + 1) := by
  unfold fillF
  rw [show N - m = (N - (m + 1)) + 1 by omega, List.replicate_succ, List.range_succ, List.map_append, List.append_assoc]
  simp [h0]
theorem fillF_done (f : Nat → Nat) (N : Nat) : fillF f N N = (List.range N).map f := by unfold fillF; simp
/-- A sample, or nought where its pixel is covered. -/
def msk (cl : List Bool) (C : Nat) (f : Nat → Nat) (i : Nat) : Nat := if cl.getD (i / C) false then 0 else f i
theorem smp_lt {bs : List Nat} {B : Nat} (S P i : Nat) (hb : ∀ x ∈ bs, x < 256) (hB : B = 16 ∨ B ≤ 8) : smp bs B S P i < 2 ^ B := by
  have hx : ∀ k, bs.getD k 0 < 256 := fun k => by
    by_cases h : k < bs.length
    · rw [List.getD_eq_getElem?_getD, List.getElem?_eq_getElem h]
      exact hb _ (List.getElem_mem _)
    · rw [List.getD_eq_getElem?_getD, List.getElem?_eq_none (by omega)]
      show 0 < 256
      omega
  unfold smp
  dsimp only
  split
  · rename_i e
    subst e
    have h1 := hx (i / P * S + i % P * 16 / 8)
    have h2 := hx (i / P * S + i % P * 16 / 8 + 1)
    show _ < 65536
    omega
  · exact Nat.mod_lt _ (Nat.two_pow_pos _)
/-- What lies where the samples are to come. -/
structure BRow (w : World) (D R N : Nat) (im : Array Value) (cv : Value) (l : List Nat) (v : World) : Prop where
  s : SRow w w.heap.size D R N im l v
  cb : Whole v (w.heap.size + 1) 26 #[cv]
  res : Whole v (w.heap.size + 1 + 1) 24 #[.int .i64 0, .int .i64 0, .int .i64 0, .int .i64 0, .slice none 0 0]
section
variable {w v v' : World} {D R N m : Nat} {im : Array Value} {cv : Value} {l : List Nat}
theorem BRow.kept (h : BRow w D R N im cv l v) (k : Kept w.heap.size (fun _ => False) v v') : BRow w D R N im cv l v' := ⟨h.s.kept k, k.whole h.cb (fun e => e), k.whole h.res (fun e => e)⟩
theorem BRow.later (h : BRow w D R N im cv l v) (k : Below v.heap.size v v') : BRow w D R N im cv l v' := ⟨h.s.later k, h.cb.here k, h.res.here k⟩
theorem BRow.fr (h : BRow w D R N im cv l v) (hf : Fr (fun _ => False) v v') : BRow w D R N im cv l v' := h.later ⟨hf.os, hf.tape, hf.output, hf.size, fun i hi => hf.block i hi (fun e => e)⟩
theorem BRow.put (h : BRow w D R N im cv l v) (x : Nat) : BRow w D R N im cv (l.set m x) (v.setCell ⟨R, m, none⟩ (.int .i64 (x : Int))) :=
  ⟨h.s.put x, h.cb.away (p := ⟨R, m, none⟩) (h.cb.apart h.s.row (by decide)) _, h.res.away (p := ⟨R, m, none⟩) (h.res.apart h.s.row (by decide)) _⟩
theorem whole_pu {g E : Nat} {T : TypeId} {cs : Array Value} {o : Obj} (h : Whole v g T cs) (o' : Obj) (ho : v.heap[E]? = some o) (hc : o.isCells = false) : Whole (v.putObj E o') g T cs := by
  have hne : g ≠ E := fun e => by
    subst e
    have e2 := ho.symm.trans (show v.heap[g]? = some (.cells _ T (0, 0)) from h)
    injection e2 with e2
    subst e2
    cases hc
  exact (World.putObj_heap_other hne).trans h
theorem BRow.pu {E : Nat} {o : Obj} (h : BRow w D R N im cv l v) (hE : w.heap.size ≤ E) (o' : Obj) (ho : v.heap[E]? = some o) (hc : o.isCells = false) : BRow w D R N im cv l (v.putObj E o') :=
  ⟨⟨below_pu o' h.s.below hE, ⟨h.s.low.1, by simpa using h.s.low.2.1, h.s.low.2.2⟩, whole_pu h.s.im o' ho hc, whole_pu h.s.box o' ho hc, whole_pu h.s.row o' ho hc, h.s.len⟩, whole_pu h.cb o' ho hc, whole_pu h.res o' ho hc⟩
end
theorem five_heap (w : World) (g k : Nat) (h : k ≠ g) (a b c d e : Value) : (((((w.setCell ⟨g, 0, none⟩ a).setCell ⟨g, 1, none⟩ b).setCell ⟨g, 2, none⟩ c).setCell ⟨g, 3, none⟩ d).setCell ⟨g, 4, none⟩ e).heap[k]? = w.heap[k]? := by
  rw [Below.heap_setCell _ _ _ _ h, Below.heap_setCell _ _ _ _ h, Below.heap_setCell _ _ _ _ h, Below.heap_setCell _ _ _ _ h, Below.heap_setCell _ _ _ _ h]
theorem start_blank (w : World) (x y z u v : Value) (cv : Value) : Whole (((w.alloc (.cells #[x, y, z, u, v] 24)).alloc (.cells #[cv] 26)).alloc (.cells #[.int .i64 0, .int .i64 0, .int .i64 0, .int .i64 0, .slice none 0 0] 24)) w.heap.size 24 #[x, y, z, u, v] ∧
    Whole (((w.alloc (.cells #[x, y, z, u, v] 24)).alloc (.cells #[cv] 26)).alloc (.cells #[.int .i64 0, .int .i64 0, .int .i64 0, .int .i64 0, .slice none 0 0] 24)) (w.heap.size + 1) 26 #[cv] ∧
    Whole (((w.alloc (.cells #[x, y, z, u, v] 24)).alloc (.cells #[cv] 26)).alloc (.cells #[.int .i64 0, .int .i64 0, .int .i64 0, .int .i64 0, .slice none 0 0] 24)) (w.heap.size + 1 + 1) 24 #[.int .i64 0, .int .i64 0, .int .i64 0, .int .i64 0, .slice none 0 0] ∧
    Below w.heap.size w (((w.alloc (.cells #[x, y, z, u, v] 24)).alloc (.cells #[cv] 26)).alloc (.cells #[.int .i64 0, .int .i64 0, .int .i64 0, .int .i64 0, .slice none 0 0] 24)) := by
  have h1 := Whole.made (w.alloc (.cells #[x, y, z, u, v] 24)) 26 #[cv]
  have h2 := Whole.made ((w.alloc (.cells #[x, y, z, u, v] 24)).alloc (.cells #[cv] 26)) 24 #[.int .i64 0, .int .i64 0, .int .i64 0, .int .i64 0, .slice none 0 0]
  simp only [World.size_alloc] at h1 h2
  exact ⟨((Whole.made w _ _).old _).old _, h1.old _, h2, (((Below.refl _ _).alloc (Nat.le_refl _) _).alloc (by simp) _).alloc (by simp; omega) _⟩
theorem blank_start {w V : World} {D R N W H B C n c : Nat} {A : Option Addr} {cv : Value} {bs l : List Nat} (h : BRow w D R N #[.int .i64 (W : Int), .int .i64 (H : Int), .int .i64 (B : Int), .int .i64 (C : Int), .slice A n c] cv l V) (hA : Bytes w A n c bs) :
    BRow w D R N #[.int .i64 (W : Int), .int .i64 (H : Int), .int .i64 (B : Int), .int .i64 (C : Int), .slice A n c] cv l (V.alloc (.cells #[.int .i64 (W : Int), .int .i64 (H : Int), .int .i64 (B : Int), .int .i64 (C : Int), .slice A n c] 24)) ∧ TIm V.heap.size w.heap.size W H B C A n c bs (V.alloc (.cells #[.int .i64 (W : Int), .int .i64 (H : Int), .int .i64 (B : Int), .int .i64 (C : Int), .slice A n c] 24)) ∧ R < V.heap.size :=
  ⟨h.later ((Below.refl _ _).alloc (Nat.le_refl _) _), (samples_start h.s hA).2.1, (samples_start h.s hA).2.2⟩
set_option maxRecDepth 100000 in
set_option maxHeartbeats 4000000 in
theorem blank_good (W H B C P S N : Nat) (A : Option Addr) (n c : Nat) (bs : List Nat) (A2 : Option Addr) (c2 : Nat) (cl : List Bool) (w : World) (hA : Bytes w A n c bs) (h2 : BoolsAt w A2 (W * H) c2 cl) (hF : fmtB (W : Int) (H : Int) (B : Int) (C : Int) = true) (hf : FmtN (W : Int) (H : Int) (B : Int) (C : Int) W H B C P S) (hN : H * P = N) (hn : n = H * S) :
    Calls Try.prog 14 #[.agg #[.int .i64 (W : Int), .int .i64 (H : Int), .int .i64 (B : Int), .int .i64 (C : Int), .slice A n c], .slice A2 (W * H) c2] w (PackGo W H B C P S N ((List.range N).map fun i => ((msk cl C (smp bs B S P) i : Nat) : Int)) w) := by
  have hk : chkB (W : Int) (H : Int) (B : Int) (C : Int) n = true := by rw [hn]; exact hf.chk hF
  have HC := Lib.hid (fun w => rcheck_any (W : Int) (H : Int) (B : Int) (C : Int) A n c w)
  rw [hk] at HC
  have hP := hf.p
  have hP2 := hf.p2
  have hN2 : N ≤ 262144 := by rw [← hN]; exact hf.n2
  have HPR := Lib.hid (fun w => perRow_any (W : Int) (H : Int) (B : Int) (C : Int) A n c (P : Int) w (by rw [← Int.natCast_mul, hP, IntKind.wrap_i64]; omega))
  have e1 : IntKind.i64.wrap ((H : Int) * (P : Int)) = (N : Int) := by rw [← Int.natCast_mul, hN, IntKind.wrap_i64]; omega
  obtain ⟨Q, hQ⟩ : ∃ Q, W * H = Q := ⟨_, rfl⟩
  have hQ9 : Q ≤ 65536 := by rw [← hQ]; exact hf.wh
  have e2 : IntKind.i64.wrap ((W : Int) * (H : Int)) = (Q : Int) := by rw [← Int.natCast_mul, hQ, IntKind.wrap_i64]; omega
  have hC0 := hf.c0
  have hQN : N = Q * C := by rw [← hN, ← hP, ← hQ, Nat.mul_comm W H, Nat.mul_assoc]
  obtain ⟨Z, hZ⟩ : ∃ Z, (nvs (List.replicate N 0)).toArray = Z := ⟨_, rfl⟩
  have hmk : ∀ V : World, (Instr.makeSlice 25 (.int .i64 (N : Int)) (.int .i64 (N : Int))).run Try.prog V = .ok (.slice (some ⟨V.heap.size, 0, none⟩) N N) (V.alloc (.cells Z 3)) := fun V => hZ ▸ make_ints N (by omega) V
  rw [hQ] at h2 ⊢
  obtain ⟨hI, hC1, hO, hB0⟩ := start_blank w (.int .i64 (W : Int)) (.int .i64 (H : Int)) (.int .i64 (B : Int)) (.int .i64 (C : Int)) (.slice A n c) (.slice A2 Q c2)
  have HW := Lib.hid (And.intro hI (And.intro hC1 hO))
  have HV := Lib.hid hB0
  have HX := Lib.hid hA
  have HBL := Lib.hid h2
  have HFF := Lib.hid hF
  have HPS := Lib.hid (And.intro hP (And.intro hf.s (And.intro hf.p0 (And.intro hf.b (And.intro hn hN)))))
  have HFN := Lib.hid hf
  have HPG : Hid (∀ A3 w, IntsAt w A3 N N ((List.range N).map fun i => ((msk cl C (smp bs B S P) i : Nat) : Int)) → Calls Try.prog 12 #[.agg #[.int .i64 (W : Int), .int .i64 (H : Int), .int .i64 (B : Int), .int .i64 (C : Int), .slice A n c], .slice A3 N N] w (PackGo W H B C P S N ((List.range N).map fun i => ((msk cl C (smp bs B S P) i : Nat) : Int)) w)) := Lib.hid (fun A3 w h => by
    refine (pack_go W H B C P S N A n c A3 N _ w hF hf.p hf.p2 hf.p0 hf.b hf.s (by have := hf.pb; omega) (by have := hf.hs; omega) hN hN2 h).mono ?_
    rintro e w' (⟨-, h⟩ | ⟨k, -⟩)
    · exact h
    · refine absurd (fun v hv => ?_) k
      obtain ⟨i, -, rfl⟩ := List.mem_map.1 hv
      have : msk cl C (smp bs B S P) i < 2 ^ B := by
        unfold msk
        split
        · exact Nat.two_pow_pos _
        · exact smp_lt S P i hA.byte (by have := hf.b; omega)
      exact ⟨by omega, by omega⟩)
  have HQN := Lib.hid hQN
  clear hk hA hP hF hf hn hN h2 hQ hI hC1 hO hB0 hQN
  refine (callsIn_wide (n := 3)).1 ?_
  refine callsIn_of_wp_marks Try.func14 rfl trivial ?_ rfl
  simp only [Try.ntmps14, List.size_toArray, List.length_cons, List.length_nil, Nat.reduceAdd, Nat.reduceSub, Array.replicate_succ, Array.replicate_zero, List.push_toArray, List.append_toArray, List.nil_append, List.cons_append]
  gi_wp2_with (refine ⟨trivial, ?_⟩; gi_at_call 17; refine (callsIn_wide.2 (HC.out _)).mono ?_; rintro e w1 ⟨rfl, hb1⟩; obtain ⟨i1, i2, i3⟩ := five_facts (HW.out.1.here hb1); have cc := (HW.out.2.1.here hb1).reads 0; have lc := (HW.out.2.1.here hb1).lt)
  have hI1 := Lib.hid (HW.out.1.here hb1)
  have hC1 := Lib.hid (HW.out.2.1.here hb1)
  have hO1 := Lib.hid (HW.out.2.2.here hb1)
  have HB1 := Lib.hid (HV.out.trans (hb1.mono HV.out.size))
  clear hb1
  have lI := hI1.out.lt
  have HK := Below.refl w1.heap.size w1
  have hkz := HK.size
  clear i1 i2 i3
  refine wpIn_wide.2 ?_
  go_region_held3 (fun v => v.cell? ⟨w.heap.size, 0, none⟩ = some (.int .i64 (W : Int)) ∧ v.cell? ⟨w.heap.size, 1, none⟩ = some (.int .i64 (H : Int)) ∧ v.cell? ⟨w.heap.size, 2, none⟩ = some (.int .i64 (B : Int)) ∧ v.cell? ⟨w.heap.size, 3, none⟩ = some (.int .i64 (C : Int)) ∧ v.cell? ⟨w.heap.size, 4, none⟩ = some (.slice A n c))
    (with_reducible refine img_cells (hI1.out.here ?_); (repeat (first | with_reducible exact HK | with_reducible refine Below.drew ?_ | (with_reducible refine Below.alloc ?_ ?_ _; rotate_left; focus (first | exact hkz | exact Nat.le_refl _ | omega | (simp; omega))) | (with_reducible refine Below.setCell ?_ ?_ _; rotate_left; focus (first | exact Nat.le_refl _ | exact hkz | omega | (simp; omega) | (simp; done))))))
    (first
      | (go_at_call 27; (with_reducible refine (HPR.out _).mono ?_); rintro x v ⟨rfl, kk⟩; have HK := (Below.drew HK).trans (kk.mono (Below.drew HK).size); have hkz := HK.size)
      | (go_at_call 27; (with_reducible refine (HPR.out _).mono ?_); rintro x v ⟨rfl, kk⟩; have kk := undrew2 kk; have hD := (Whole.made w1 25 #[.slice none 0 0]).here kk; have HK := (HK.alloc HK.size _).trans (kk.mono (by simp)); have rD := hD.reads 0; have fD := hD.thawed; have lD := hD.lt; have hkz := HK.size))
  · have hs0 := (srow_a (N := N) (l := List.replicate N 0) HB1.out (Nat.le_refl _) hI1.out HK (by simp))
    have hs : BRow w _ _ N #[.int .i64 (W : Int), .int .i64 (H : Int), .int .i64 (B : Int), .int .i64 (C : Int), .slice A n c] (.slice A2 Q c2) (List.replicate N 0) _ := ⟨hs0, ((hC1.out.here HK).old _).old _, ((hO1.out.here HK).old _).old _⟩
    rw [hZ] at hs
    clear hs0
    have cI := img_cells hs.s.im
    have HS := Lib.hid hs
    clear hs
    obtain ⟨c0, c1, c2, c3, c4⟩ := cI
    gi_wp2_with (refine ⟨trivial, ?_⟩; gi_at_call 28; refine (samples_call _ open_wide _ _ _ _ _ _ _ _ rfl).mono ?_; rintro e w' ⟨rfl, rfl⟩)
    obtain ⟨hi0, ht0, hRB⟩ := blank_start HS.out HX.out
    simp only [World.size_alloc, World.size_setCell] at ht0 hRB
    have hlw := HS.out.s.low
    simp only [World.size_alloc, World.size_setCell] at hlw
    have hbs := HB1.out.size
    clear c0 c1 c2 c3 c4
    refine wpIn_iter rfl (by omega) (gf := 47) (lb := #[.pointer (some ⟨v.heap.size + 1 + 1, 0, none⟩)]) rfl trivial (enters_of Try.func47 (by kernel_rfl) rfl)
      (samples_iter (v.heap.size + 1 + 1) w.heap.size 2 W H B C P S N A n c (by omega) bs HPS.out.1 HPS.out.2.1 HPS.out.2.2.1 (by rw [HPS.out.2.2.2.2.2]; exact hN2) hP2 HPS.out.2.2.2.1 HPS.out.2.2.2.2.1 HPS.out.2.2.2.2.2) ?hS (fun h k => Fr.trans h k (fun _ _ e => e)) ?hKb ?hps ?hT ?hY
      (fun m V => m ≤ N ∧ BRow w (v.heap.size + 1) (v.heap.size) N #[.int .i64 (W : Int), .int .i64 (H : Int), .int .i64 (B : Int), .int .i64 (C : Int), .slice A n c] (.slice A2 Q c2) (fillF (msk cl C (smp bs B S P)) N m) V) (fun _ _ _ => False) ?hI ?hIx ?hIS ?hIxS ?h0 ?hT0
      (fun vs => { tmps := #[.agg #[.int .i64 (W : Int), .int .i64 (H : Int), .int .i64 (B : Int), .int .i64 (C : Int), .slice A n c], .slice A2 Q c2, .pointer (some ⟨w.heap.size, 0, none⟩), .pointer (some ⟨w.heap.size + 1, 0, none⟩), .pointer (some ⟨w.heap.size + 1 + 1, 0, none⟩), .int .i64 0, .pointer (some ⟨v.heap.size + 1, 0, none⟩), vs.getD 0 undef, vs.getD 1 undef, .agg #[.int .i64 (W : Int), .int .i64 (H : Int), .int .i64 (B : Int), .int .i64 (C : Int), .slice A n c], .int .i64 0, .bool false, .bool false, .slice A2 Q c2, .int .i64 (Q : Int), .pointer (some ⟨w.heap.size, 0, none⟩), .int .i64 (W : Int), .pointer (some ⟨w.heap.size, 1, none⟩), .int .i64 (H : Int), .int .i64 (Q : Int), .bool false, .bool false, undef, .pointer (some ⟨w.heap.size, 1, none⟩), .int .i64 (H : Int), .agg #[.int .i64 (W : Int), .int .i64 (H : Int), .int .i64 (B : Int), .int .i64 (C : Int), .slice A n c], .int .i64 (P : Int), .int .i64 (N : Int), .slice (some ⟨v.heap.size, 0, none⟩) N N, .agg #[.int .i64 (W : Int), .int .i64 (H : Int), .int .i64 (B : Int), .int .i64 (C : Int), .slice A n c], .func (.func 47) #[] #[.pointer (some ⟨v.heap.size + 1 + 1, 0, none⟩)], vs.getD 0 undef, vs.getD 1 undef, undef, undef, undef, undef, undef, undef, undef, undef, undef, undef, undef, undef, undef, undef, undef, undef, undef], defers := [] }) ?assign ?body ?done (fun _ _ _ _ _ h _ => h.elim)
    case hS => intro k hk; exact hk.elim
    case hKb => intro X l o o' hl ho _; (try simp only [World.size_alloc, World.size_setCell] at hl); exact fr_putObj o' ⟨by omega, by omega⟩
    case hps => rintro s vs t X ⟨_, _, rfl⟩; rfl
    case hT => intro s X X' row hs hg hr; (try simp only [World.size_alloc, World.size_setCell] at hr); exact hs.kept (Kept.of_grown hg hr (by first | omega | (simp; omega)))
    case hY => intro s vs t X l o o' hy _ hl ho; exact hy
    case hI => intro s X X' row hs hg hr; exact ⟨hs.1, hs.2.kept (Kept.of_grown hg hr (by first | omega | (simp; omega)))⟩
    case hIx => intro c s X X' row hs hg hr; exact hs.elim
    case hIS => intro s X X' hs hf _; exact ⟨hs.1, hs.2.fr hf⟩
    case hIxS => intro c s X X' hs hf _; exact hs.elim
    case h0 => exact ⟨Nat.zero_le _, by show BRow _ _ _ _ _ _ (List.replicate N 0) _; exact hi0⟩
    case hT0 => exact ht0
    case assign =>
      intro l s vs t X K hy hK
      obtain ⟨_, _, rfl⟩ := hy
      gi_wp2
      exact hK
    case body =>
      rintro l m vs t X ⟨hmN, hbr⟩ ht ⟨hlt, rfl, rfl⟩
      have HBR := Lib.hid hbr
      have hmq : m / C < Q := by rw [Nat.div_lt_iff_lt_mul hC0, ← HQN.out]; exact hlt
      obtain ⟨cv, hcv⟩ : ∃ cv, cl[m / C]? = some cv := ⟨_, List.getElem?_eq_getElem (by rw [HBL.out.len]; exact hmq)⟩
      obtain ⟨R2, o2, eA2, hR2, hcell⟩ := (HBL.out.below hbr.s.below).at_ (Nat.lt_of_le_of_lt (Nat.zero_le _) hmq)
      subst eA2
      have hcq := hcell (m / C) cv hcv
      have hgd : cl.getD (m / C) false = cv := by rw [List.getD_eq_getElem?_getD, hcv]; rfl
      obtain ⟨q, hq⟩ : ∃ q, m / C = q := ⟨_, rfl⟩
      have d1 : (m : Int).tdiv (C : Int) = (q : Int) := by rw [Int.tdiv_eq_ediv_of_nonneg (by omega), ← hq]; rfl
      have d3 : IntKind.i64.wrap (q : Int) = (q : Int) := by rw [IntKind.wrap_i64]; omega
      rw [hq] at hcq hmq
      have hC9 : ¬ (C : Int) = 0 := by omega
      have hC8 : ¬ C = 0 := by omega
      have b0 : (0 : Int) ≤ (q : Int) := by omega
      have b1 : (q : Int) < (Q : Int) := by omega
      have hS : (fun v : World => v.cell? ⟨w.heap.size + 1, 0, none⟩ = some (.slice (some ⟨R2, o2, none⟩) Q c2) ∧ v.cell? ⟨w.heap.size, 3, none⟩ = some (.int .i64 (C : Int)) ∧ v.cell? ⟨R2, o2 + q, none⟩ = some (.bool cv)) X.drew := ⟨hbr.cb.reads 0, hbr.s.im.reads 3, hcq⟩
      have HGD := Lib.hid hgd
      have lIm := hbr.s.im.lt
      have lCb := hbr.cb.lt
      have hbb := hbr.s.box.cell
      have hcz := hbr.s.row.thawed m
      have lR := hbr.s.row.lt
      have lD := hbr.s.box.lt
      obtain ⟨y, cy⟩ := hbr.s.cell hlt
      have bm1 : (m : Int) < (N : Int) := by omega
      clear hq hcv hcell hbr hcq hgd ht
      gi_wp2_with fail
      refine region_round_lit l (by kernel_rfl) (by kernel_rfl) ?_
      refine wpAny_of_C (C := fun v => v.cell? ⟨w.heap.size + 1, 0, none⟩ = some (.slice (some ⟨R2, o2, none⟩) Q c2) ∧ v.cell? ⟨w.heap.size, 3, none⟩ = some (.int .i64 (C : Int)) ∧ v.cell? ⟨R2, o2 + q, none⟩ = some (.bool cv)) _ _ _ _ ?_
      refine wpAnyC_take (i := 0) (v := .slice (some ⟨R2, o2, none⟩) Q c2) rfl (by kernel_rfl) (fun _ _ _ h => by cases h.1) (Or.inl ⟨by rfl, ?y1⟩) hS ?r1
      case y1 => rintro wq ⟨k0, k1, k2⟩; go_simp; all_goals (first | with_reducible rfl | (simp only []; done) | (simp []; done) | (simp; omega) | skip)
      try simp only [Act.put, List.setIfInBounds_toArray, List.set_cons_zero, List.set_cons_succ]
      refine wpAnyC_take (i := 1) (v := .int .i64 (m : Int)) rfl (by kernel_rfl) (fun _ _ _ h => by cases h.1) (Or.inl ⟨by rfl, ?y2⟩) hS ?r2
      case y2 => intro wq _; go_simp; all_goals (first | with_reducible rfl | (simp only []; done) | (simp []; done) | (simp; omega) | skip)
      try simp only [Act.put, List.setIfInBounds_toArray, List.set_cons_zero, List.set_cons_succ]
      refine wpAnyC_take (i := 2) (v := .pointer (some ⟨w.heap.size, 3, none⟩)) rfl (by kernel_rfl) (fun _ _ _ h => by cases h.1) (Or.inl ⟨by rfl, ?y3⟩) hS ?r3
      case y3 => intro wq _; go_simp; all_goals (first | with_reducible rfl | (simp only []; done) | (simp []; done) | (simp; omega) | skip)
      try simp only [Act.put, List.setIfInBounds_toArray, List.set_cons_zero, List.set_cons_succ]
      refine wpAnyC_take (i := 3) (v := .int .i64 (C : Int)) rfl (by kernel_rfl) (fun _ _ _ h => by cases h.1) (Or.inl ⟨by rfl, ?y4⟩) hS ?r4
      case y4 => rintro wq ⟨k0, k1, k2⟩; go_simp; all_goals (first | with_reducible rfl | (simp only []; done) | (simp []; done) | (simp; omega) | skip)
      try simp only [Act.put, List.setIfInBounds_toArray, List.set_cons_zero, List.set_cons_succ]
      refine wpAnyC_take (i := 4) (v := .int .i64 (q : Int)) rfl (by kernel_rfl) (fun _ _ _ h => by cases h.1) (Or.inl ⟨by rfl, ?y5⟩) hS ?r5
      case y5 => intro wq _; go_simp; all_goals (first | with_reducible rfl | (simp only []; done) | (simp []; done) | (simp; omega) | skip)
      try simp only [Act.put, List.setIfInBounds_toArray, List.set_cons_zero, List.set_cons_succ]
      refine wpAnyC_take (i := 5) (v := .pointer (some ⟨R2, o2 + q, none⟩)) rfl (by kernel_rfl) (fun _ _ _ h => by cases h.1) (Or.inl ⟨by rfl, ?y6⟩) hS ?r6
      case y6 => intro wq _; go_simp; all_goals (first | with_reducible rfl | (simp only []; done) | (simp []; done) | (simp; omega) | skip)
      try simp only [Act.put, List.setIfInBounds_toArray, List.set_cons_zero, List.set_cons_succ]
      refine wpAnyC_take (i := 6) (v := .bool cv) rfl (by kernel_rfl) (fun _ _ _ h => by cases h.1) (Or.inl ⟨by rfl, ?y7⟩) hS ?r7
      case y7 => rintro wq ⟨k0, k1, k2⟩; go_simp; all_goals (first | with_reducible rfl | (simp only []; done) | (simp []; done) | (simp; omega) | skip)
      try simp only [Act.put, List.setIfInBounds_toArray, List.set_cons_zero, List.set_cons_succ]
      refine wpAnyC_take (i := 7) (v := .bool (!cv)) rfl (by kernel_rfl) (fun _ _ _ h => by cases h.1) (Or.inl ⟨by rfl, ?y8⟩) hS ?r8
      case y8 => intro wq _; go_simp; all_goals (first | with_reducible rfl | (simp only []; done) | (simp []; done) | (simp; omega) | skip)
      try simp only [Act.put, List.setIfInBounds_toArray, List.set_cons_zero, List.set_cons_succ]
      refine wpAnyC_done (by kernel_rfl) ?_ _
      refine ⟨rfl, ?_⟩
      cases cv
      · have HN := Lib.hid (show BRow w _ _ N _ _ (fillF (msk cl C (smp bs B S P)) N (m + 1)) ((X.drew).setCell ⟨v.heap.size, m, none⟩ (.int .i64 ((smp bs B S P m : Nat) : Int))) from by
          rw [← fillF_step _ hlt, show msk cl C (smp bs B S P) m = smp bs B S P m by unfold msk; rw [HGD.out]; rfl]
          exact (HBR.out.later (Below.refl _ _).drew).put _)
        clear hS
        gi_wp2
        refine ⟨((KeepsOthers.drew _).trans (KeepsOthers.setCell _ _ _)).from _, ((Fr.refl _ _).drewN 1).set (p := ⟨v.heap.size, m, none⟩) (fun _ => ⟨by show w.heap.size ≤ v.heap.size; omega, by show v.heap.size ≠ v.heap.size + 1 + 1; omega⟩) _, by omega, HN.out⟩
      · have HN := Lib.hid (show BRow w _ _ N _ _ (fillF (msk cl C (smp bs B S P)) N (m + 1)) X.drew from by
          rw [← fillF_skip _ hlt (by unfold msk; rw [HGD.out]; rfl)]
          exact HBR.out.later (Below.refl _ _).drew)
        clear hS
        gi_wp2
        exact ⟨(KeepsOthers.drew _).from _, (Fr.refl _ _).drewN 1, by omega, HN.out⟩
    case done =>
      rintro E s X hE hd ⟨hle, hbr⟩ hX
      have hd : N ≤ s := hd
      obtain rfl : s = N := by omega
      rw [fillF_done] at hbr
      have hl : IntsAt X (some ⟨v.heap.size, 0, none⟩) s s ((List.range s).map fun i => ((msk cl C (smp bs B S P) i : Nat) : Int)) := IntsAt.whole hbr.s.row (by simp) (by omega) (fun i x hx => by
        have hi : i < s := by
          have := (List.getElem?_eq_some_iff.1 hx).1
          simpa using this
        simp [List.getElem?_range hi] at hx
        subst hx
        simp [nvs, List.getElem?_range hi])
      have cb := hbr.s.box.cell
      have lD := hbr.s.box.lt
      have lIm := hbr.s.im.lt
      obtain ⟨i1, i2, i3⟩ := five_facts hbr.s.im
      have hEX : E < X.heap.size := (Array.getElem?_eq_some_iff.1 hX).1
      gi_wp2_with (refine ⟨trivial, ?_⟩; gi_at_call 12; refine (callsIn_wide.2 (HPG.out _ _ hl)).mono ?_; rintro e w5 ⟨R5, rfl, hrow, hb5⟩; obtain ⟨p1, p2, p3⟩ := five_facts (hbr.res.here hb5))
      have hX5 : w5.heap[E]? = some (.deferred (some [])) := (hb5.block E hEX).trans hX
      have hres := hbr.res.here hb5
      have hOE : w.heap.size + 1 + 1 ≠ E := fun e => by
        have e1 := hX5
        rw [← e] at e1
        have := e1.symm.trans (show w5.heap[w.heap.size + 1 + 1]? = some (.cells _ _ (0, 0)) from hres)
        cases this
      have hXs := five_heap w5 (w.heap.size + 1 + 1) E (fun e => hOE e.symm) (.int .i64 (W : Int)) (.int .i64 (H : Int)) (.int .i64 (B : Int)) (.int .i64 (C : Int)) (.slice (some ⟨R5, 0, none⟩) (H * S) (H * S))
      have hX6 := hXs.trans hX5
      have hfin := whole_pu (five_set hres (p := .int .i64 (W : Int)) (q := .int .i64 (H : Int)) (r := .int .i64 (B : Int)) (s := .int .i64 (C : Int)) (t := .slice (some ⟨R5, 0, none⟩) (H * S) (H * S))) (.deferred none) hX6 rfl
      have hrow2 := whole_pu (five_away hrow (hrow.apart hres (by decide)) (.int .i64 (W : Int)) (.int .i64 (H : Int)) (.int .i64 (B : Int)) (.int .i64 (C : Int)) (.slice (some ⟨R5, 0, none⟩) (H * S) (H * S))) (.deferred none) hX6 rfl
      have hB5 := hbr.s.below.trans (hb5.mono hbr.s.below.size)
      have hE0 : w.heap.size ≤ E := by (try simp only [World.size_alloc, World.size_setCell] at hE); omega
      have hB6 := below_pu (.deferred none) (five_below hB5 (g := w.heap.size + 1 + 1) (by omega) (.int .i64 (W : Int)) (.int .i64 (H : Int)) (.int .i64 (B : Int)) (.int .i64 (C : Int)) (.slice (some ⟨R5, 0, none⟩) (H * S) (H * S))) hE0
      have rv := hfin.reads
      refine ⟨by simp, .inl ⟨_, _, rfl, run_takeDeferred hX6, ?_⟩⟩
      exact ⟨.tuple #[.agg #[.int .i64 (W : Int), .int .i64 (H : Int), .int .i64 (B : Int), .int .i64 (C : Int), .slice (some ⟨R5, 0, none⟩) (H * S) (H * S)], .int .i64 0], by simp [results, Try.results14, go_sem, rv], R5, rfl, hrow2, hB6⟩
  · have hs0 := (srow_b (N := N) (l := List.replicate N 0) HB1.out (Nat.le_refl _) hI1.out HK (by simp))
    have hs : BRow w _ _ N #[.int .i64 (W : Int), .int .i64 (H : Int), .int .i64 (B : Int), .int .i64 (C : Int), .slice A n c] (.slice A2 Q c2) (List.replicate N 0) _ := ⟨hs0, ((hC1.out.here HK).old _).old _, ((hO1.out.here HK).old _).old _⟩
    rw [hZ] at hs
    clear hs0
    have cI := img_cells hs.s.im
    have HS := Lib.hid hs
    clear hs
    obtain ⟨c0, c1, c2, c3, c4⟩ := cI
    gi_wp2_with (refine ⟨trivial, ?_⟩; gi_at_call 28; refine (samples_call _ open_wide _ _ _ _ _ _ _ _ rfl).mono ?_; rintro e w' ⟨rfl, rfl⟩)
    obtain ⟨hi0, ht0, hRB⟩ := blank_start HS.out HX.out
    simp only [World.size_alloc, World.size_setCell] at ht0 hRB
    have hlw := HS.out.s.low
    simp only [World.size_alloc, World.size_setCell] at hlw
    have hbs := HB1.out.size
    clear c0 c1 c2 c3 c4
    refine wpIn_iter rfl (by omega) (gf := 47) (lb := #[.pointer (some ⟨v.heap.size + 1 + 1, 0, none⟩)]) rfl trivial (enters_of Try.func47 (by kernel_rfl) rfl)
      (samples_iter (v.heap.size + 1 + 1) w.heap.size 2 W H B C P S N A n c (by omega) bs HPS.out.1 HPS.out.2.1 HPS.out.2.2.1 (by rw [HPS.out.2.2.2.2.2]; exact hN2) hP2 HPS.out.2.2.2.1 HPS.out.2.2.2.2.1 HPS.out.2.2.2.2.2) ?hS (fun h k => Fr.trans h k (fun _ _ e => e)) ?hKb ?hps ?hT ?hY
      (fun m V => m ≤ N ∧ BRow w (v.heap.size) (v.heap.size + 1) N #[.int .i64 (W : Int), .int .i64 (H : Int), .int .i64 (B : Int), .int .i64 (C : Int), .slice A n c] (.slice A2 Q c2) (fillF (msk cl C (smp bs B S P)) N m) V) (fun _ _ _ => False) ?hI ?hIx ?hIS ?hIxS ?h0 ?hT0
      (fun vs => { tmps := #[.agg #[.int .i64 (W : Int), .int .i64 (H : Int), .int .i64 (B : Int), .int .i64 (C : Int), .slice A n c], .slice A2 Q c2, .pointer (some ⟨w.heap.size, 0, none⟩), .pointer (some ⟨w.heap.size + 1, 0, none⟩), .pointer (some ⟨w.heap.size + 1 + 1, 0, none⟩), .int .i64 0, .pointer (some ⟨v.heap.size, 0, none⟩), vs.getD 0 undef, vs.getD 1 undef, .agg #[.int .i64 (W : Int), .int .i64 (H : Int), .int .i64 (B : Int), .int .i64 (C : Int), .slice A n c], .int .i64 0, .bool false, .bool false, .slice A2 Q c2, .int .i64 (Q : Int), .pointer (some ⟨w.heap.size, 0, none⟩), .int .i64 (W : Int), .pointer (some ⟨w.heap.size, 1, none⟩), .int .i64 (H : Int), .int .i64 (Q : Int), .bool false, .bool false, undef, .pointer (some ⟨w.heap.size, 1, none⟩), .int .i64 (H : Int), .agg #[.int .i64 (W : Int), .int .i64 (H : Int), .int .i64 (B : Int), .int .i64 (C : Int), .slice A n c], .int .i64 (P : Int), .int .i64 (N : Int), .slice (some ⟨v.heap.size + 1, 0, none⟩) N N, .agg #[.int .i64 (W : Int), .int .i64 (H : Int), .int .i64 (B : Int), .int .i64 (C : Int), .slice A n c], .func (.func 47) #[] #[.pointer (some ⟨v.heap.size + 1 + 1, 0, none⟩)], vs.getD 0 undef, vs.getD 1 undef, undef, undef, undef, undef, undef, undef, undef, undef, undef, undef, undef, undef, undef, undef, undef, undef, undef], defers := [] }) ?assign ?body ?done (fun _ _ _ _ _ h _ => h.elim)
    case hS => intro k hk; exact hk.elim
    case hKb => intro X l o o' hl ho _; (try simp only [World.size_alloc, World.size_setCell] at hl); exact fr_putObj o' ⟨by omega, by omega⟩
    case hps => rintro s vs t X ⟨_, _, rfl⟩; rfl
    case hT => intro s X X' row hs hg hr; (try simp only [World.size_alloc, World.size_setCell] at hr); exact hs.kept (Kept.of_grown hg hr (by first | omega | (simp; omega)))
    case hY => intro s vs t X l o o' hy _ hl ho; exact hy
    case hI => intro s X X' row hs hg hr; exact ⟨hs.1, hs.2.kept (Kept.of_grown hg hr (by first | omega | (simp; omega)))⟩
    case hIx => intro c s X X' row hs hg hr; exact hs.elim
    case hIS => intro s X X' hs hf _; exact ⟨hs.1, hs.2.fr hf⟩
    case hIxS => intro c s X X' hs hf _; exact hs.elim
    case h0 => exact ⟨Nat.zero_le _, by show BRow _ _ _ _ _ _ (List.replicate N 0) _; exact hi0⟩
    case hT0 => exact ht0
    case assign =>
      intro l s vs t X K hy hK
      obtain ⟨_, _, rfl⟩ := hy
      gi_wp2
      exact hK
    case body =>
      rintro l m vs t X ⟨hmN, hbr⟩ ht ⟨hlt, rfl, rfl⟩
      have HBR := Lib.hid hbr
      have hmq : m / C < Q := by rw [Nat.div_lt_iff_lt_mul hC0, ← HQN.out]; exact hlt
      obtain ⟨cv, hcv⟩ : ∃ cv, cl[m / C]? = some cv := ⟨_, List.getElem?_eq_getElem (by rw [HBL.out.len]; exact hmq)⟩
      obtain ⟨R2, o2, eA2, hR2, hcell⟩ := (HBL.out.below hbr.s.below).at_ (Nat.lt_of_le_of_lt (Nat.zero_le _) hmq)
      subst eA2
      have hcq := hcell (m / C) cv hcv
      have hgd : cl.getD (m / C) false = cv := by rw [List.getD_eq_getElem?_getD, hcv]; rfl
      obtain ⟨q, hq⟩ : ∃ q, m / C = q := ⟨_, rfl⟩
      have d1 : (m : Int).tdiv (C : Int) = (q : Int) := by rw [Int.tdiv_eq_ediv_of_nonneg (by omega), ← hq]; rfl
      have d3 : IntKind.i64.wrap (q : Int) = (q : Int) := by rw [IntKind.wrap_i64]; omega
      rw [hq] at hcq hmq
      have hC9 : ¬ (C : Int) = 0 := by omega
      have hC8 : ¬ C = 0 := by omega
      have b0 : (0 : Int) ≤ (q : Int) := by omega
      have b1 : (q : Int) < (Q : Int) := by omega
      have hS : (fun v : World => v.cell? ⟨w.heap.size + 1, 0, none⟩ = some (.slice (some ⟨R2, o2, none⟩) Q c2) ∧ v.cell? ⟨w.heap.size, 3, none⟩ = some (.int .i64 (C : Int)) ∧ v.cell? ⟨R2, o2 + q, none⟩ = some (.bool cv)) X.drew := ⟨hbr.cb.reads 0, hbr.s.im.reads 3, hcq⟩
      have HGD := Lib.hid hgd
      have lIm := hbr.s.im.lt
      have lCb := hbr.cb.lt
      have hbb := hbr.s.box.cell
      have hcz := hbr.s.row.thawed m
      have lR := hbr.s.row.lt
      have lD := hbr.s.box.lt
      obtain ⟨y, cy⟩ := hbr.s.cell hlt
      have bm1 : (m : Int) < (N : Int) := by omega
      clear hq hcv hcell hbr hcq hgd ht
      gi_wp2_with fail
      refine region_round_lit l (by kernel_rfl) (by kernel_rfl) ?_
      refine wpAny_of_C (C := fun v => v.cell? ⟨w.heap.size + 1, 0, none⟩ = some (.slice (some ⟨R2, o2, none⟩) Q c2) ∧ v.cell? ⟨w.heap.size, 3, none⟩ = some (.int .i64 (C : Int)) ∧ v.cell? ⟨R2, o2 + q, none⟩ = some (.bool cv)) _ _ _ _ ?_
      refine wpAnyC_take (i := 0) (v := .slice (some ⟨R2, o2, none⟩) Q c2) rfl (by kernel_rfl) (fun _ _ _ h => by cases h.1) (Or.inl ⟨by rfl, ?y9⟩) hS ?r9
      case y9 => rintro wq ⟨k0, k1, k2⟩; go_simp; all_goals (first | with_reducible rfl | (simp only []; done) | (simp []; done) | (simp; omega) | skip)
      try simp only [Act.put, List.setIfInBounds_toArray, List.set_cons_zero, List.set_cons_succ]
      refine wpAnyC_take (i := 1) (v := .int .i64 (m : Int)) rfl (by kernel_rfl) (fun _ _ _ h => by cases h.1) (Or.inl ⟨by rfl, ?y10⟩) hS ?r10
      case y10 => intro wq _; go_simp; all_goals (first | with_reducible rfl | (simp only []; done) | (simp []; done) | (simp; omega) | skip)
      try simp only [Act.put, List.setIfInBounds_toArray, List.set_cons_zero, List.set_cons_succ]
      refine wpAnyC_take (i := 2) (v := .pointer (some ⟨w.heap.size, 3, none⟩)) rfl (by kernel_rfl) (fun _ _ _ h => by cases h.1) (Or.inl ⟨by rfl, ?y11⟩) hS ?r11
      case y11 => intro wq _; go_simp; all_goals (first | with_reducible rfl | (simp only []; done) | (simp []; done) | (simp; omega) | skip)
      try simp only [Act.put, List.setIfInBounds_toArray, List.set_cons_zero, List.set_cons_succ]
      refine wpAnyC_take (i := 3) (v := .int .i64 (C : Int)) rfl (by kernel_rfl) (fun _ _ _ h => by cases h.1) (Or.inl ⟨by rfl, ?y12⟩) hS ?r12
      case y12 => rintro wq ⟨k0, k1, k2⟩; go_simp; all_goals (first | with_reducible rfl | (simp only []; done) | (simp []; done) | (simp; omega) | skip)
      try simp only [Act.put, List.setIfInBounds_toArray, List.set_cons_zero, List.set_cons_succ]
      refine wpAnyC_take (i := 4) (v := .int .i64 (q : Int)) rfl (by kernel_rfl) (fun _ _ _ h => by cases h.1) (Or.inl ⟨by rfl, ?y13⟩) hS ?r13
      case y13 => intro wq _; go_simp; all_goals (first | with_reducible rfl | (simp only []; done) | (simp []; done) | (simp; omega) | skip)
      try simp only [Act.put, List.setIfInBounds_toArray, List.set_cons_zero, List.set_cons_succ]
      refine wpAnyC_take (i := 5) (v := .pointer (some ⟨R2, o2 + q, none⟩)) rfl (by kernel_rfl) (fun _ _ _ h => by cases h.1) (Or.inl ⟨by rfl, ?y14⟩) hS ?r14
      case y14 => intro wq _; go_simp; all_goals (first | with_reducible rfl | (simp only []; done) | (simp []; done) | (simp; omega) | skip)
      try simp only [Act.put, List.setIfInBounds_toArray, List.set_cons_zero, List.set_cons_succ]
      refine wpAnyC_take (i := 6) (v := .bool cv) rfl (by kernel_rfl) (fun _ _ _ h => by cases h.1) (Or.inl ⟨by rfl, ?y15⟩) hS ?r15
      case y15 => rintro wq ⟨k0, k1, k2⟩; go_simp; all_goals (first | with_reducible rfl | (simp only []; done) | (simp []; done) | (simp; omega) | skip)
      try simp only [Act.put, List.setIfInBounds_toArray, List.set_cons_zero, List.set_cons_succ]
      refine wpAnyC_take (i := 7) (v := .bool (!cv)) rfl (by kernel_rfl) (fun _ _ _ h => by cases h.1) (Or.inl ⟨by rfl, ?y16⟩) hS ?r16
      case y16 => intro wq _; go_simp; all_goals (first | with_reducible rfl | (simp only []; done) | (simp []; done) | (simp; omega) | skip)
      try simp only [Act.put, List.setIfInBounds_toArray, List.set_cons_zero, List.set_cons_succ]
      refine wpAnyC_done (by kernel_rfl) ?_ _
      refine ⟨rfl, ?_⟩
      cases cv
      · have HN := Lib.hid (show BRow w _ _ N _ _ (fillF (msk cl C (smp bs B S P)) N (m + 1)) ((X.drew).setCell ⟨v.heap.size + 1, m, none⟩ (.int .i64 ((smp bs B S P m : Nat) : Int))) from by
          rw [← fillF_step _ hlt, show msk cl C (smp bs B S P) m = smp bs B S P m by unfold msk; rw [HGD.out]; rfl]
          exact (HBR.out.later (Below.refl _ _).drew).put _)
        clear hS
        gi_wp2
        refine ⟨((KeepsOthers.drew _).trans (KeepsOthers.setCell _ _ _)).from _, ((Fr.refl _ _).drewN 1).set (p := ⟨v.heap.size + 1, m, none⟩) (fun _ => ⟨by show w.heap.size ≤ v.heap.size + 1; omega, by show v.heap.size + 1 ≠ v.heap.size + 1 + 1; omega⟩) _, by omega, HN.out⟩
      · have HN := Lib.hid (show BRow w _ _ N _ _ (fillF (msk cl C (smp bs B S P)) N (m + 1)) X.drew from by
          rw [← fillF_skip _ hlt (by unfold msk; rw [HGD.out]; rfl)]
          exact HBR.out.later (Below.refl _ _).drew)
        clear hS
        gi_wp2
        exact ⟨(KeepsOthers.drew _).from _, (Fr.refl _ _).drewN 1, by omega, HN.out⟩
    case done =>
      rintro E s X hE hd ⟨hle, hbr⟩ hX
      have hd : N ≤ s := hd
      obtain rfl : s = N := by omega
      rw [fillF_done] at hbr
      have hl : IntsAt X (some ⟨v.heap.size + 1, 0, none⟩) s s ((List.range s).map fun i => ((msk cl C (smp bs B S P) i : Nat) : Int)) := IntsAt.whole hbr.s.row (by simp) (by omega) (fun i x hx => by
        have hi : i < s := by
          have := (List.getElem?_eq_some_iff.1 hx).1
          simpa using this
        simp [List.getElem?_range hi] at hx
        subst hx
        simp [nvs, List.getElem?_range hi])
      have cb := hbr.s.box.cell
      have lD := hbr.s.box.lt
      have lIm := hbr.s.im.lt
      obtain ⟨i1, i2, i3⟩ := five_facts hbr.s.im
      have hEX : E < X.heap.size := (Array.getElem?_eq_some_iff.1 hX).1
      gi_wp2_with (refine ⟨trivial, ?_⟩; gi_at_call 12; refine (callsIn_wide.2 (HPG.out _ _ hl)).mono ?_; rintro e w5 ⟨R5, rfl, hrow, hb5⟩; obtain ⟨p1, p2, p3⟩ := five_facts (hbr.res.here hb5))
      have hX5 : w5.heap[E]? = some (.deferred (some [])) := (hb5.block E hEX).trans hX
      have hres := hbr.res.here hb5
      have hOE : w.heap.size + 1 + 1 ≠ E := fun e => by
        have e1 := hX5
        rw [← e] at e1
        have := e1.symm.trans (show w5.heap[w.heap.size + 1 + 1]? = some (.cells _ _ (0, 0)) from hres)
        cases this
      have hXs := five_heap w5 (w.heap.size + 1 + 1) E (fun e => hOE e.symm) (.int .i64 (W : Int)) (.int .i64 (H : Int)) (.int .i64 (B : Int)) (.int .i64 (C : Int)) (.slice (some ⟨R5, 0, none⟩) (H * S) (H * S))
      have hX6 := hXs.trans hX5
      have hfin := whole_pu (five_set hres (p := .int .i64 (W : Int)) (q := .int .i64 (H : Int)) (r := .int .i64 (B : Int)) (s := .int .i64 (C : Int)) (t := .slice (some ⟨R5, 0, none⟩) (H * S) (H * S))) (.deferred none) hX6 rfl
      have hrow2 := whole_pu (five_away hrow (hrow.apart hres (by decide)) (.int .i64 (W : Int)) (.int .i64 (H : Int)) (.int .i64 (B : Int)) (.int .i64 (C : Int)) (.slice (some ⟨R5, 0, none⟩) (H * S) (H * S))) (.deferred none) hX6 rfl
      have hB5 := hbr.s.below.trans (hb5.mono hbr.s.below.size)
      have hE0 : w.heap.size ≤ E := by (try simp only [World.size_alloc, World.size_setCell] at hE); omega
      have hB6 := below_pu (.deferred none) (five_below hB5 (g := w.heap.size + 1 + 1) (by omega) (.int .i64 (W : Int)) (.int .i64 (H : Int)) (.int .i64 (B : Int)) (.int .i64 (C : Int)) (.slice (some ⟨R5, 0, none⟩) (H * S) (H * S))) hE0
      have rv := hfin.reads
      refine ⟨by simp, .inl ⟨_, _, rfl, run_takeDeferred hX6, ?_⟩⟩
      exact ⟨.tuple #[.agg #[.int .i64 (W : Int), .int .i64 (H : Int), .int .i64 (B : Int), .int .i64 (C : Int), .slice (some ⟨R5, 0, none⟩) (H * S) (H * S)], .int .i64 0], by simp [results, Try.results14, go_sem, rv], R5, rfl, hrow2, hB6⟩
  · have hs0 := (srow_c (N := N) (l := List.replicate N 0) HB1.out (Nat.le_refl _) hI1.out HK hD (Nat.le_refl _) (by simp))
    have hs : BRow w _ _ N #[.int .i64 (W : Int), .int .i64 (H : Int), .int .i64 (B : Int), .int .i64 (C : Int), .slice A n c] (.slice A2 Q c2) (List.replicate N 0) _ := ⟨hs0, ((hC1.out.here HK).away (p := ⟨w1.heap.size, 0, none⟩) (by have := hC1.out.lt; show w.heap.size + 1 ≠ w1.heap.size; omega) _).old _, ((hO1.out.here HK).away (p := ⟨w1.heap.size, 0, none⟩) (by have := hO1.out.lt; show w.heap.size + 1 + 1 ≠ w1.heap.size; omega) _).old _⟩
    rw [hZ] at hs
    clear hs0
    have cI := img_cells hs.s.im
    have HS := Lib.hid hs
    clear hs
    obtain ⟨c0, c1, c2, c3, c4⟩ := cI
    gi_wp2_with (refine ⟨trivial, ?_⟩; gi_at_call 28; refine (samples_call _ open_wide _ _ _ _ _ _ _ _ rfl).mono ?_; rintro e w' ⟨rfl, rfl⟩)
    obtain ⟨hi0, ht0, hRB⟩ := blank_start HS.out HX.out
    simp only [World.size_alloc, World.size_setCell] at ht0 hRB
    have hlw := HS.out.s.low
    simp only [World.size_alloc, World.size_setCell] at hlw
    have hbs := HB1.out.size
    clear c0 c1 c2 c3 c4
    refine wpIn_iter rfl (by omega) (gf := 47) (lb := #[.pointer (some ⟨v.heap.size + 1, 0, none⟩)]) rfl trivial (enters_of Try.func47 (by kernel_rfl) rfl)
      (samples_iter (v.heap.size + 1) w.heap.size 2 W H B C P S N A n c (by omega) bs HPS.out.1 HPS.out.2.1 HPS.out.2.2.1 (by rw [HPS.out.2.2.2.2.2]; exact hN2) hP2 HPS.out.2.2.2.1 HPS.out.2.2.2.2.1 HPS.out.2.2.2.2.2) ?hS (fun h k => Fr.trans h k (fun _ _ e => e)) ?hKb ?hps ?hT ?hY
      (fun m V => m ≤ N ∧ BRow w (w1.heap.size) (v.heap.size) N #[.int .i64 (W : Int), .int .i64 (H : Int), .int .i64 (B : Int), .int .i64 (C : Int), .slice A n c] (.slice A2 Q c2) (fillF (msk cl C (smp bs B S P)) N m) V) (fun _ _ _ => False) ?hI ?hIx ?hIS ?hIxS ?h0 ?hT0
      (fun vs => { tmps := #[.agg #[.int .i64 (W : Int), .int .i64 (H : Int), .int .i64 (B : Int), .int .i64 (C : Int), .slice A n c], .slice A2 Q c2, .pointer (some ⟨w.heap.size, 0, none⟩), .pointer (some ⟨w.heap.size + 1, 0, none⟩), .pointer (some ⟨w.heap.size + 1 + 1, 0, none⟩), .int .i64 0, .pointer (some ⟨w1.heap.size, 0, none⟩), vs.getD 0 undef, vs.getD 1 undef, .agg #[.int .i64 (W : Int), .int .i64 (H : Int), .int .i64 (B : Int), .int .i64 (C : Int), .slice A n c], .int .i64 0, .bool false, .bool false, .slice A2 Q c2, .int .i64 (Q : Int), .pointer (some ⟨w.heap.size, 0, none⟩), .int .i64 (W : Int), .pointer (some ⟨w.heap.size, 1, none⟩), .int .i64 (H : Int), .int .i64 (Q : Int), .bool false, .bool false, undef, .pointer (some ⟨w.heap.size, 1, none⟩), .int .i64 (H : Int), .agg #[.int .i64 (W : Int), .int .i64 (H : Int), .int .i64 (B : Int), .int .i64 (C : Int), .slice A n c], .int .i64 (P : Int), .int .i64 (N : Int), .slice (some ⟨v.heap.size, 0, none⟩) N N, .agg #[.int .i64 (W : Int), .int .i64 (H : Int), .int .i64 (B : Int), .int .i64 (C : Int), .slice A n c], .func (.func 47) #[] #[.pointer (some ⟨v.heap.size + 1, 0, none⟩)], vs.getD 0 undef, vs.getD 1 undef, undef, undef, undef, undef, undef, undef, undef, undef, undef, undef, undef, undef, undef, undef, undef, undef, undef], defers := [] }) ?assign ?body ?done (fun _ _ _ _ _ h _ => h.elim)
    case hS => intro k hk; exact hk.elim
    case hKb => intro X l o o' hl ho _; (try simp only [World.size_alloc, World.size_setCell] at hl); exact fr_putObj o' ⟨by omega, by omega⟩
    case hps => rintro s vs t X ⟨_, _, rfl⟩; rfl
    case hT => intro s X X' row hs hg hr; (try simp only [World.size_alloc, World.size_setCell] at hr); exact hs.kept (Kept.of_grown hg hr (by first | omega | (simp; omega)))
    case hY => intro s vs t X l o o' hy _ hl ho; exact hy
    case hI => intro s X X' row hs hg hr; exact ⟨hs.1, hs.2.kept (Kept.of_grown hg hr (by first | omega | (simp; omega)))⟩
    case hIx => intro c s X X' row hs hg hr; exact hs.elim
    case hIS => intro s X X' hs hf _; exact ⟨hs.1, hs.2.fr hf⟩
    case hIxS => intro c s X X' hs hf _; exact hs.elim
    case h0 => exact ⟨Nat.zero_le _, by show BRow _ _ _ _ _ _ (List.replicate N 0) _; exact hi0⟩
    case hT0 => exact ht0
    case assign =>
      intro l s vs t X K hy hK
      obtain ⟨_, _, rfl⟩ := hy
      gi_wp2
      exact hK
    case body =>
      rintro l m vs t X ⟨hmN, hbr⟩ ht ⟨hlt, rfl, rfl⟩
      have HBR := Lib.hid hbr
      have hmq : m / C < Q := by rw [Nat.div_lt_iff_lt_mul hC0, ← HQN.out]; exact hlt
      obtain ⟨cv, hcv⟩ : ∃ cv, cl[m / C]? = some cv := ⟨_, List.getElem?_eq_getElem (by rw [HBL.out.len]; exact hmq)⟩
      obtain ⟨R2, o2, eA2, hR2, hcell⟩ := (HBL.out.below hbr.s.below).at_ (Nat.lt_of_le_of_lt (Nat.zero_le _) hmq)
      subst eA2
      have hcq := hcell (m / C) cv hcv
      have hgd : cl.getD (m / C) false = cv := by rw [List.getD_eq_getElem?_getD, hcv]; rfl
      obtain ⟨q, hq⟩ : ∃ q, m / C = q := ⟨_, rfl⟩
      have d1 : (m : Int).tdiv (C : Int) = (q : Int) := by rw [Int.tdiv_eq_ediv_of_nonneg (by omega), ← hq]; rfl
      have d3 : IntKind.i64.wrap (q : Int) = (q : Int) := by rw [IntKind.wrap_i64]; omega
      rw [hq] at hcq hmq
      have hC9 : ¬ (C : Int) = 0 := by omega
      have hC8 : ¬ C = 0 := by omega
      have b0 : (0 : Int) ≤ (q : Int) := by omega
      have b1 : (q : Int) < (Q : Int) := by omega
      have hS : (fun v : World => v.cell? ⟨w.heap.size + 1, 0, none⟩ = some (.slice (some ⟨R2, o2, none⟩) Q c2) ∧ v.cell? ⟨w.heap.size, 3, none⟩ = some (.int .i64 (C : Int)) ∧ v.cell? ⟨R2, o2 + q, none⟩ = some (.bool cv)) X.drew := ⟨hbr.cb.reads 0, hbr.s.im.reads 3, hcq⟩
      have HGD := Lib.hid hgd
      have lIm := hbr.s.im.lt
      have lCb := hbr.cb.lt
      have hbb := hbr.s.box.cell
      have hcz := hbr.s.row.thawed m
      have lR := hbr.s.row.lt
      have lD := hbr.s.box.lt
      obtain ⟨y, cy⟩ := hbr.s.cell hlt
      have bm1 : (m : Int) < (N : Int) := by omega
      clear hq hcv hcell hbr hcq hgd ht
      gi_wp2_with fail
      refine region_round_lit l (by kernel_rfl) (by kernel_rfl) ?_
      refine wpAny_of_C (C := fun v => v.cell? ⟨w.heap.size + 1, 0, none⟩ = some (.slice (some ⟨R2, o2, none⟩) Q c2) ∧ v.cell? ⟨w.heap.size, 3, none⟩ = some (.int .i64 (C : Int)) ∧ v.cell? ⟨R2, o2 + q, none⟩ = some (.bool cv)) _ _ _ _ ?_
      refine wpAnyC_take (i := 0) (v := .slice (some ⟨R2, o2, none⟩) Q c2) rfl (by kernel_rfl) (fun _ _ _ h => by cases h.1) (Or.inl ⟨by rfl, ?y17⟩) hS ?r17
      case y17 => rintro wq ⟨k0, k1, k2⟩; go_simp; all_goals (first | with_reducible rfl | (simp only []; done) | (simp []; done) | (simp; omega) | skip)
      try simp only [Act.put, List.setIfInBounds_toArray, List.set_cons_zero, List.set_cons_succ]
      refine wpAnyC_take (i := 1) (v := .int .i64 (m : Int)) rfl (by kernel_rfl) (fun _ _ _ h => by cases h.1) (Or.inl ⟨by rfl, ?y18⟩) hS ?r18
      case y18 => intro wq _; go_simp; all_goals (first | with_reducible rfl | (simp only []; done) | (simp []; done) | (simp; omega) | skip)
      try simp only [Act.put, List.setIfInBounds_toArray, List.set_cons_zero, List.set_cons_succ]
      refine wpAnyC_take (i := 2) (v := .pointer (some ⟨w.heap.size, 3, none⟩)) rfl (by kernel_rfl) (fun _ _ _ h => by cases h.1) (Or.inl ⟨by rfl, ?y19⟩) hS ?r19
      case y19 => intro wq _; go_simp; all_goals (first | with_reducible rfl | (simp only []; done) | (simp []; done) | (simp; omega) | skip)
      try simp only [Act.put, List.setIfInBounds_toArray, List.set_cons_zero, List.set_cons_succ]
      refine wpAnyC_take (i := 3) (v := .int .i64 (C : Int)) rfl (by kernel_rfl) (fun _ _ _ h => by cases h.1) (Or.inl ⟨by rfl, ?y20⟩) hS ?r20
      case y20 => rintro wq ⟨k0, k1, k2⟩; go_simp; all_goals (first | with_reducible rfl | (simp only []; done) | (simp []; done) | (simp; omega) | skip)
      try simp only [Act.put, List.setIfInBounds_toArray, List.set_cons_zero, List.set_cons_succ]
      refine wpAnyC_take (i := 4) (v := .int .i64 (q : Int)) rfl (by kernel_rfl) (fun _ _ _ h => by cases h.1) (Or.inl ⟨by rfl, ?y21⟩) hS ?r21
      case y21 => intro wq _; go_simp; all_goals (first | with_reducible rfl | (simp only []; done) | (simp []; done) | (simp; omega) | skip)
      try simp only [Act.put, List.setIfInBounds_toArray, List.set_cons_zero, List.set_cons_succ]
      refine wpAnyC_take (i := 5) (v := .pointer (some ⟨R2, o2 + q, none⟩)) rfl (by kernel_rfl) (fun _ _ _ h => by cases h.1) (Or.inl ⟨by rfl, ?y22⟩) hS ?r22
      case y22 => intro wq _; go_simp; all_goals (first | with_reducible rfl | (simp only []; done) | (simp []; done) | (simp; omega) | skip)
      try simp only [Act.put, List.setIfInBounds_toArray, List.set_cons_zero, List.set_cons_succ]
      refine wpAnyC_take (i := 6) (v := .bool cv) rfl (by kernel_rfl) (fun _ _ _ h => by cases h.1) (Or.inl ⟨by rfl, ?y23⟩) hS ?r23
      case y23 => rintro wq ⟨k0, k1, k2⟩; go_simp; all_goals (first | with_reducible rfl | (simp only []; done) | (simp []; done) | (simp; omega) | skip)
      try simp only [Act.put, List.setIfInBounds_toArray, List.set_cons_zero, List.set_cons_succ]
      refine wpAnyC_take (i := 7) (v := .bool (!cv)) rfl (by kernel_rfl) (fun _ _ _ h => by cases h.1) (Or.inl ⟨by rfl, ?y24⟩) hS ?r24
      case y24 => intro wq _; go_simp; all_goals (first | with_reducible rfl | (simp only []; done) | (simp []; done) | (simp; omega) | skip)
      try simp only [Act.put, List.setIfInBounds_toArray, List.set_cons_zero, List.set_cons_succ]
      refine wpAnyC_done (by kernel_rfl) ?_ _
      refine ⟨rfl, ?_⟩
      cases cv
      · have HN := Lib.hid (show BRow w _ _ N _ _ (fillF (msk cl C (smp bs B S P)) N (m + 1)) ((X.drew).setCell ⟨v.heap.size, m, none⟩ (.int .i64 ((smp bs B S P m : Nat) : Int))) from by
          rw [← fillF_step _ hlt, show msk cl C (smp bs B S P) m = smp bs B S P m by unfold msk; rw [HGD.out]; rfl]
          exact (HBR.out.later (Below.refl _ _).drew).put _)
        clear hS
        gi_wp2
        refine ⟨((KeepsOthers.drew _).trans (KeepsOthers.setCell _ _ _)).from _, ((Fr.refl _ _).drewN 1).set (p := ⟨v.heap.size, m, none⟩) (fun _ => ⟨by show w.heap.size ≤ v.heap.size; omega, by show v.heap.size ≠ v.heap.size + 1; omega⟩) _, by omega, HN.out⟩
      · have HN := Lib.hid (show BRow w _ _ N _ _ (fillF (msk cl C (smp bs B S P)) N (m + 1)) X.drew from by
          rw [← fillF_skip _ hlt (by unfold msk; rw [HGD.out]; rfl)]
          exact HBR.out.later (Below.refl _ _).drew)
        clear hS
        gi_wp2
        exact ⟨(KeepsOthers.drew _).from _, (Fr.refl _ _).drewN 1, by omega, HN.out⟩
    case done =>
      rintro E s X hE hd ⟨hle, hbr⟩ hX
      have hd : N ≤ s := hd
      obtain rfl : s = N := by omega
      rw [fillF_done] at hbr
      have hl : IntsAt X (some ⟨v.heap.size, 0, none⟩) s s ((List.range s).map fun i => ((msk cl C (smp bs B S P) i : Nat) : Int)) := IntsAt.whole hbr.s.row (by simp) (by omega) (fun i x hx => by
        have hi : i < s := by
          have := (List.getElem?_eq_some_iff.1 hx).1
          simpa using this
        simp [List.getElem?_range hi] at hx
        subst hx
        simp [nvs, List.getElem?_range hi])
      have cb := hbr.s.box.cell
      have lD := hbr.s.box.lt
      have lIm := hbr.s.im.lt
      obtain ⟨i1, i2, i3⟩ := five_facts hbr.s.im
      have hEX : E < X.heap.size := (Array.getElem?_eq_some_iff.1 hX).1
      gi_wp2_with (refine ⟨trivial, ?_⟩; gi_at_call 12; refine (callsIn_wide.2 (HPG.out _ _ hl)).mono ?_; rintro e w5 ⟨R5, rfl, hrow, hb5⟩; obtain ⟨p1, p2, p3⟩ := five_facts (hbr.res.here hb5))
      have hX5 : w5.heap[E]? = some (.deferred (some [])) := (hb5.block E hEX).trans hX
      have hres := hbr.res.here hb5
      have hOE : w.heap.size + 1 + 1 ≠ E := fun e => by
        have e1 := hX5
        rw [← e] at e1
        have := e1.symm.trans (show w5.heap[w.heap.size + 1 + 1]? = some (.cells _ _ (0, 0)) from hres)
        cases this
      have hXs := five_heap w5 (w.heap.size + 1 + 1) E (fun e => hOE e.symm) (.int .i64 (W : Int)) (.int .i64 (H : Int)) (.int .i64 (B : Int)) (.int .i64 (C : Int)) (.slice (some ⟨R5, 0, none⟩) (H * S) (H * S))
      have hX6 := hXs.trans hX5
      have hfin := whole_pu (five_set hres (p := .int .i64 (W : Int)) (q := .int .i64 (H : Int)) (r := .int .i64 (B : Int)) (s := .int .i64 (C : Int)) (t := .slice (some ⟨R5, 0, none⟩) (H * S) (H * S))) (.deferred none) hX6 rfl
      have hrow2 := whole_pu (five_away hrow (hrow.apart hres (by decide)) (.int .i64 (W : Int)) (.int .i64 (H : Int)) (.int .i64 (B : Int)) (.int .i64 (C : Int)) (.slice (some ⟨R5, 0, none⟩) (H * S) (H * S))) (.deferred none) hX6 rfl
      have hB5 := hbr.s.below.trans (hb5.mono hbr.s.below.size)
      have hE0 : w.heap.size ≤ E := by (try simp only [World.size_alloc, World.size_setCell] at hE); omega
      have hB6 := below_pu (.deferred none) (five_below hB5 (g := w.heap.size + 1 + 1) (by omega) (.int .i64 (W : Int)) (.int .i64 (H : Int)) (.int .i64 (B : Int)) (.int .i64 (C : Int)) (.slice (some ⟨R5, 0, none⟩) (H * S) (H * S))) hE0
      have rv := hfin.reads
      refine ⟨by simp, .inl ⟨_, _, rfl, run_takeDeferred hX6, ?_⟩⟩
      exact ⟨.tuple #[.agg #[.int .i64 (W : Int), .int .i64 (H : Int), .int .i64 (B : Int), .int .i64 (C : Int), .slice (some ⟨R5, 0, none⟩) (H * S) (H * S)], .int .i64 0], by simp [results, Try.results14, go_sem, rv], R5, rfl, hrow2, hB6⟩
end Go.Proofs.Ytmleoagdelgddaa
/- raster: Blank at any image; RasterBlanks. Written by gen_blanks.py. -/
namespace Go.Proofs.Ytmleoagdelgddaa
open Go.RowKit Dec

set_option maxRecDepth 100000 in
set_option maxHeartbeats 4000000 in
theorem blank_chk (W H B C : Int) (A : Option Addr) (n c : Nat) (A2 : Option Addr) (n2 c2 : Nat) (w : World) (hk : chkB W H B C n = false) :
    Calls Try.prog 14 #[.agg #[.int .i64 W, .int .i64 H, .int .i64 B, .int .i64 C, .slice A n c], .slice A2 n2 c2] w (NoImg w) := by
  have HC := Lib.hid (fun w => rcheck_any W H B C A n c w)
  rw [hk] at HC
  obtain ⟨hI, hC1, hO, hB0⟩ := start_blank w (.int .i64 W) (.int .i64 H) (.int .i64 B) (.int .i64 C) (.slice A n c) (.slice A2 n2 c2)
  have HO0 := Lib.hid hO
  have HB0 := Lib.hid hB0
  clear hI hC1 hO hB0 hk
  go_enter Try.func14, Try.ntmps14
  go_wp2_with fail
  refine (HC.out _).mono ?_
  rintro x v ⟨rfl, kk⟩
  have HO := Lib.hid (HO0.out.here kk)
  have HB := Lib.hid (HB0.out.trans (kk.mono HB0.out.size))
  obtain ⟨p1, p2, p3⟩ := five_facts HO.out
  clear kk
  go_wp2_with fail
  refine ret_img (E := 1) (g := w.heap.size + 1 + 1) (five_set HO.out) (fun V hV => by have rv := hV.reads; simp [results, Try.results14, go_sem, rv]) rfl ?_
  exact ⟨rfl, five_below HB.out (by omega) _ _ _ _ _⟩
set_option maxRecDepth 100000 in
set_option maxHeartbeats 4000000 in
theorem blank_len (W H B C : Nat) (A : Option Addr) (n c : Nat) (A2 : Option Addr) (n2 c2 : Nat) (w : World) (hk : chkB (W : Int) (H : Int) (B : Int) (C : Int) n = true) (hwh : W * H ≤ 65536) (hne : n2 ≠ W * H) :
    Calls Try.prog 14 #[.agg #[.int .i64 (W : Int), .int .i64 (H : Int), .int .i64 (B : Int), .int .i64 (C : Int), .slice A n c], .slice A2 n2 c2] w (NoImg w) := by
  have HC := Lib.hid (fun w => rcheck_any (W : Int) (H : Int) (B : Int) (C : Int) A n c w)
  rw [hk] at HC
  obtain ⟨Q, hQ⟩ : ∃ Q, W * H = Q := ⟨_, rfl⟩
  rw [hQ] at hwh hne
  have e2 : IntKind.i64.wrap ((W : Int) * (H : Int)) = (Q : Int) := by rw [← Int.natCast_mul, hQ, IntKind.wrap_i64]; omega
  have d1 : ((n2 : Int) != (Q : Int)) = true := by simp; omega
  have d2 : ¬ (n2 : Int) = (Q : Int) := by omega
  obtain ⟨hI, hC1, hO, hB0⟩ := start_blank w (.int .i64 (W : Int)) (.int .i64 (H : Int)) (.int .i64 (B : Int)) (.int .i64 (C : Int)) (.slice A n c) (.slice A2 n2 c2)
  have HI0 := Lib.hid hI
  have HC0 := Lib.hid hC1
  have HO0 := Lib.hid hO
  have HB0 := Lib.hid hB0
  clear hI hC1 hO hB0 hk hQ
  go_enter Try.func14, Try.ntmps14
  go_wp2_with fail
  refine (HC.out _).mono ?_
  rintro x v ⟨rfl, kk⟩
  have HO := Lib.hid (HO0.out.here kk)
  have HB := Lib.hid (HB0.out.trans (kk.mono HB0.out.size))
  obtain ⟨p1, p2, p3⟩ := five_facts HO.out
  obtain ⟨i1, i2, i3⟩ := five_facts (HI0.out.here kk)
  have cc := (HC0.out.here kk).reads 0
  have lc := (HC0.out.here kk).lt
  clear kk
  go_wp2_with fail
  refine ret_img (E := 1) (g := w.heap.size + 1 + 1) (five_set HO.out) (fun V hV => by have rv := hV.reads; simp [results, Try.results14, go_sem, rv]) rfl ?_
  exact ⟨rfl, five_below HB.out (by omega) _ _ _ _ _⟩
/-- What Blank answers at any image. -/
def BlankIs (W H B C : Int) (n n2 : Nat) (bs : List Nat) (cl : List Bool) (w : World) (e : Ending) (w' : World) : Prop :=
  (¬ (chkB W H B C n = true ∧ (n2 : Int) = W * H) ∧ NoImg w e w') ∨
  (∃ W' H' B' C' P S : Nat, fmtB W H B C = true ∧ FmtN W H B C W' H' B' C' P S ∧ n = H' * S ∧ n2 = W' * H' ∧ PackGo W' H' B' C' P S (H' * P) ((List.range (H' * P)).map fun i => ((msk cl C' (smp bs B' S P) i : Nat) : Int)) w e w')
theorem chk_fmt {W H B C : Int} {n : Nat} (h : chkB W H B C n = true) : fmtB W H B C = true ∧ ∃ W' H' B' C' P S : Nat, FmtN W H B C W' H' B' C' P S ∧ n = H' * S := by
  have hF : fmtB W H B C = true := by
    unfold chkB at h
    exact (Bool.and_eq_true _ _ ▸ h).1
  obtain ⟨W', H', B', C', P, S, hf⟩ := fmt_n hF
  refine ⟨hF, W', H', B', C', P, S, hf, ?_⟩
  obtain ⟨rfl, rfl, rfl, rfl⟩ := hf.eq
  unfold chkB at h
  rw [hF, Bool.true_and] at h
  have := of_decide_eq_true h
  rw [Int.toNat_natCast, Int.toNat_natCast, Int.toNat_natCast, hf.rs, ← Int.natCast_mul] at this
  omega
theorem blank_any (W H B C : Int) (A : Option Addr) (n c : Nat) (bs : List Nat) (A2 : Option Addr) (n2 c2 : Nat) (cl : List Bool) (w : World) (hA : Bytes w A n c bs) (h2 : BoolsAt w A2 n2 c2 cl) :
    Calls Try.prog 14 #[.agg #[.int .i64 W, .int .i64 H, .int .i64 B, .int .i64 C, .slice A n c], .slice A2 n2 c2] w (BlankIs W H B C n n2 bs cl w) := by
  cases hk : chkB W H B C n
  · exact (blank_chk W H B C A n c A2 n2 c2 w hk).mono fun e w' h => .inl ⟨(fun k => by rw [hk] at k; cases k.1), h⟩
  · obtain ⟨hF, W', H', B', C', P, S, hf, hn⟩ := chk_fmt hk
    have hf0 := hf
    obtain ⟨rfl, rfl, rfl, rfl⟩ := hf.eq
    by_cases hq : n2 = W' * H'
    · subst hq
      exact (blank_good W' H' B' C' P S (H' * P) A n c bs A2 c2 cl w hA h2 hF hf rfl hn).mono fun e w' h => .inr ⟨W', H', B', C', P, S, hF, hf0, hn, rfl, h⟩
    · exact (blank_len W' H' B' C' A n c A2 n2 c2 w hk hf.wh hq).mono fun e w' h => .inl ⟨(fun k => hq (by have := k.2; rw [← Int.natCast_mul] at this; omega)), h⟩
theorem msk_msk {cl : List Bool} {C N : Nat} {f g : Nat → Nat} (h : ∀ i, i < N → g i = msk cl C f i) : (List.range N).map (fun i => ((msk cl C g i : Nat) : Int)) = (List.range N).map (fun i => ((msk cl C f i : Nat) : Int)) := by
  apply List.map_congr_left
  intro i hi
  have := h i (List.mem_range.1 hi)
  unfold msk at this ⊢
  rw [this]
  split <;> rfl
theorem IntsAt.cell0 {w : World} {R n c k : Nat} {l : List Int} {x : Int} (h : IntsAt w (some ⟨R, 0, none⟩) n c l) (hx : l[k]? = some x) : w.cell? ⟨R, k, none⟩ = some (.int .i64 x) := by
  have hk := (List.getElem?_eq_some_iff.1 hx).1
  obtain ⟨R', o', e, _, hc⟩ := h.at_ (by have := h.len; omega)
  injection e with e
  injection e with e1 e2
  subst e1 e2
  have := hc k x hx
  rwa [Nat.zero_add] at this
set_option maxRecDepth 100000 in
set_option maxHeartbeats 8000000 in
theorem blanks_law (W H B C : Int) (A : Option Addr) (n c : Nat) (bs : List Nat) (A2 : Option Addr) (n2 c2 : Nat) (cl : List Bool) (w : World) (hA : Bytes w A n c bs) (h2 : BoolsAt w A2 n2 c2 cl) :
    Calls Try.prog 6 #[.agg #[.int .i64 W, .int .i64 H, .int .i64 B, .int .i64 C, .slice A n c], .slice A2 n2 c2] w fun e w' => e = .returned (.bool true) ∧ Below w.heap.size w w' := by
  have HFEW := Lib.hid (fun w => few_any W H B C A n c w)
  have HBK := Lib.hid (fun w hA h2 => blank_any W H B C A n c bs A2 n2 c2 cl w hA h2)
  have HAA := Lib.hid hA
  have HCC := Lib.hid h2
  have HI := Lib.hid (Whole.made w 24 #[.int .i64 W, .int .i64 H, .int .i64 B, .int .i64 C, .slice A n c])
  have HV := Lib.hid ((Below.refl w.heap.size w).alloc (Nat.le_refl _) (.cells #[.int .i64 W, .int .i64 H, .int .i64 B, .int .i64 C, .slice A n c] 24))
  clear hA h2
  go_enter Try.func6, Try.ntmps6
  go_wp2_with fail
  refine (HFEW.out _).mono ?_
  rintro e w1 ⟨⟨r, rfl⟩, hb⟩
  have HB1 := Lib.hid (HV.out.trans (hb.mono HV.out.size))
  have HI1 := Lib.hid (HI.out.here hb)
  clear hb
  cases r
  · go_wp2_with fail
    go_ret
    exact ⟨rfl, HB1.out⟩
  by_cases h2 : 2000 < n2
  · have d1 : decide ((2000 : Int) < (n2 : Int)) = true := decide_eq_true (by omega)
    clear h2
    go_wp2_with fail
    go_ret
    exact ⟨rfl, HB1.out⟩
  have d1 : decide ((2000 : Int) < (n2 : Int)) = false := decide_eq_false (by omega)
  clear h2
  obtain ⟨i1, i2, i3⟩ := five_facts HI1.out
  go_wp2_with fail
  refine (HBK.out _ (HAA.out.below HB1.out) (HCC.out.below HB1.out)).mono ?_
  clear i1 i2 i3
  rintro e w2 (⟨-, rfl, hb⟩ | ⟨W', H', B', C', P, S, hF, hf, hn, hn2, R, rfl, hrow, hb⟩)
  · have HB2 := Lib.hid ((HB1.out.trans (hb.mono HB1.out.size)).alloc (HB1.out.trans (hb.mono HB1.out.size)).size (.cells #[.int .i64 0, .int .i64 0, .int .i64 0, .int .i64 0, .slice none 0 0] 24))
    have HO := Lib.hid (Whole.made w2 24 #[.int .i64 0, .int .i64 0, .int .i64 0, .int .i64 0, .slice none 0 0])
    clear hb
    go_wp2_with fail
    refine (awake_any _).mono ?_
    rintro e w3 ⟨rfl, hb⟩
    have HB3 := Lib.hid (HB2.out.trans (hb.mono HB2.out.size))
    obtain ⟨i1, i2, i3⟩ := five_facts (HO.out.here hb)
    clear hb
    go_wp2_with fail
    go_ret
    exact ⟨rfl, HB3.out⟩
  have hb2 := HB1.out.trans (hb.mono HB1.out.size)
  have HB2 := Lib.hid hb2
  have hl0 : ((List.range (H' * P)).map fun i => ((msk cl C' (smp bs B' S P) i : Nat) : Int)).length = H' * P := by simp
  have hB16 : B' = 16 ∨ B' ≤ 8 := by have := hf.b; omega
  have hgv : ∀ v ∈ (List.range (H' * P)).map fun i => ((msk cl C' (smp bs B' S P) i : Nat) : Int), goodV B' v := fun v hv => by
    obtain ⟨i, -, rfl⟩ := List.mem_map.1 hv
    have : msk cl C' (smp bs B' S P) i < 2 ^ B' := by
      unfold msk
      split
      · exact Nat.two_pow_pos _
      · exact smp_lt S P i HAA.out.byte hB16
    exact ⟨by omega, by omega⟩
  obtain ⟨g1, g2, g3⟩ := hf.good hl0 hgv
  obtain ⟨rfl, rfl, rfl, rfl⟩ := hf.eq
  subst hn hn2
  have hC0 := hf.c0
  have hN := hf.n2
  have hG := hf.hs
  have hQ9 := hf.wh
  have hQN : H' * P = W' * H' * C' := by rw [← hf.p, ← Nat.mul_assoc, Nat.mul_comm H' W']
  obtain ⟨pk, hpk⟩ : ∃ p, pkN (((List.range (H' * P)).map fun i => ((msk cl C' (smp bs B' S P) i : Nat) : Int)).map Int.toNat) B' S P (H' * S) (H' * P) = p := ⟨_, rfl⟩
  rw [hpk] at g1 g2 g3 hrow
  have hsm : ∀ i, i < H' * P → smp pk B' S P i = msk cl C' (smp bs B' S P) i := fun i hi => by
    have := congrArg (fun l => l[i]?) g3
    simp [List.getElem?_range hi] at this
    omega
  have HF := Lib.hid hF
  have HFN := Lib.hid hf
  have HSM := Lib.hid hsm
  obtain ⟨G, hGe⟩ : ∃ G, H' * S = G := ⟨_, rfl⟩
  obtain ⟨N, hNe⟩ : ∃ N, H' * P = N := ⟨_, rfl⟩
  obtain ⟨Q, hQe⟩ : ∃ Q, W' * H' = Q := ⟨_, rfl⟩
  have HBK2 : Hid (∀ (A : Option Addr) (w : World) (c : Nat), Bytes w A G c pk → BoolsAt w A2 Q c2 cl → Calls Try.prog 14 #[.agg #[.int .i64 (W' : Int), .int .i64 (H' : Int), .int .i64 (B' : Int), .int .i64 (C' : Int), .slice A G c], .slice A2 Q c2] w fun e w' => ∃ R, e = .returned (.tuple #[.agg #[.int .i64 (W' : Int), .int .i64 (H' : Int), .int .i64 (B' : Int), .int .i64 (C' : Int), .slice (some ⟨R, 0, none⟩) G G], .int .i64 0]) ∧ Bytes w' (some ⟨R, 0, none⟩) G G pk ∧ Below w.heap.size w w') := Lib.hid (fun A w c hA h2 => by
    rw [← hGe] at hA
    rw [← hQe] at h2
    have := blank_good W' H' B' C' P S (H' * P) A (H' * S) c pk A2 c2 cl w hA h2 HF.out HFN.out rfl rfl
    rw [msk_msk hsm] at this
    rw [← hGe, ← hQe]
    exact this.mono fun e w' ⟨R, he, hw, hb⟩ => ⟨R, he, Bytes.whole (by rw [hpk] at hw; exact hw) g1 (by omega) g2, hb⟩)
  have HS1 : Hid (∀ (A : Option Addr) (w : World) (c : Nat) (bs : List Nat), Bytes w A G c bs → Calls Try.prog 10 #[.agg #[.int .i64 (W' : Int), .int .i64 (H' : Int), .int .i64 (B' : Int), .int .i64 (C' : Int), .slice A G c]] w fun e w' => ∃ R, e = .returned (.tuple #[.slice (some ⟨R, 0, none⟩) N N, .int .i64 0]) ∧ IntsAt w' (some ⟨R, 0, none⟩) N N ((List.range N).map (fun i => ((smp bs B' S P i : Nat) : Int))) ∧ Below w.heap.size w w') := Lib.hid (fun A w c bs hA => by
    rw [← hGe] at hA ⊢
    have := samples_fmt HFN.out HF.out hA
    rw [hNe] at this
    exact this.mono fun e w' ⟨R, h1, h2, h3, _⟩ => ⟨R, h1, h2, h3⟩)
  rw [hGe] at g1 HAA HBK HFEW hG ⊢
  rw [hQe] at HCC hQ9 hQN HBK ⊢
  rw [hNe] at HSM hQN hN
  have HBY := Lib.hid (Bytes.whole hrow g1 (by omega) g2)
  have HI2 := Lib.hid (HI1.out.here hb)
  clear hb hb2 hrow hpk hNe hF hf g3 HBK HFEW g1 g2 HI1 HI hsm hgv hl0 hQe
  rw [hGe] at HI2
  clear hGe
  have HO := Lib.hid (Whole.made w2 24 #[.int .i64 (W' : Int), .int .i64 (H' : Int), .int .i64 (B' : Int), .int .i64 (C' : Int), .slice (some ⟨R, 0, none⟩) G G])
  have hbA : Below w2.heap.size w2 (w2.alloc (.cells #[.int .i64 (W' : Int), .int .i64 (H' : Int), .int .i64 (B' : Int), .int .i64 (C' : Int), .slice (some ⟨R, 0, none⟩) G G] 24)) := (Below.refl _ _).alloc (Nat.le_refl _) _
  have HB3 := Lib.hid (HB2.out.trans (hbA.mono HB2.out.size))
  have HBY3 := Lib.hid (HBY.out.below hbA)
  have HI3 := Lib.hid (HI2.out.here hbA)
  have cm := HO.out.reads
  have lm := HO.out.lt
  clear hbA HB2 HBY HI2
  go_wp2_with fail
  refine (HBK2.out _ _ _ HBY3.out (HCC.out.below HB3.out)).mono ?_
  rintro e w4 ⟨R4, rfl, hby, hb⟩
  have hbA : Below (w2.alloc (.cells #[.int .i64 (W' : Int), .int .i64 (H' : Int), .int .i64 (B' : Int), .int .i64 (C' : Int), .slice (some ⟨R, 0, none⟩) G G] 24)).heap.size (w2.alloc (.cells #[.int .i64 (W' : Int), .int .i64 (H' : Int), .int .i64 (B' : Int), .int .i64 (C' : Int), .slice (some ⟨R, 0, none⟩) G G] 24)) (w4.alloc (.cells #[.int .i64 (W' : Int), .int .i64 (H' : Int), .int .i64 (B' : Int), .int .i64 (C' : Int), .slice (some ⟨R4, 0, none⟩) G G] 24)) := hb.alloc hb.size _
  have HB4 := Lib.hid (HB3.out.trans (hbA.mono HB3.out.size))
  have HA4 := Lib.hid (And.intro (HBY3.out.below hbA) (And.intro (HO.out.here hbA) (And.intro (HI3.out.here hbA) (And.intro (hby.below ((Below.refl _ _).alloc (Nat.le_refl _) (.cells #[.int .i64 (W' : Int), .int .i64 (H' : Int), .int .i64 (B' : Int), .int .i64 (C' : Int), .slice (some ⟨R4, 0, none⟩) G G] 24))) (Whole.made w4 24 #[.int .i64 (W' : Int), .int .i64 (H' : Int), .int .i64 (B' : Int), .int .i64 (C' : Int), .slice (some ⟨R4, 0, none⟩) G G])))))
  have cm := HA4.out.2.2.1.reads
  have lm := HA4.out.2.2.1.lt
  clear hby hb hbA HB3 HBY3 HI3 HO
  go_wp2_with fail
  refine (HS1.out _ _ _ _ (HAA.out.below HB4.out)).mono ?_
  rintro e w5 ⟨R5, rfl, hi, hb⟩
  have HB5 := Lib.hid (HB4.out.trans (hb.mono HB4.out.size))
  have HA5 := Lib.hid (And.intro (HA4.out.1.below hb) (And.intro (HA4.out.2.1.here hb) (And.intro (HA4.out.2.2.1.here hb) (And.intro (HA4.out.2.2.2.1.below hb) (And.intro (HA4.out.2.2.2.2.here hb) hi)))))
  have cm := HA5.out.2.1.reads
  have lm := HA5.out.2.1.lt
  clear hi hb HA4 HB4
  go_wp2_with fail
  refine (HS1.out _ _ _ _ HA5.out.1).mono ?_
  rintro e w6 ⟨R6, rfl, hi, hb⟩
  have HB6 := Lib.hid (HB5.out.trans (hb.mono HB5.out.size))
  have HA6 := Lib.hid (And.intro (HA5.out.1.below hb) (And.intro (HA5.out.2.1.here hb) (And.intro (HA5.out.2.2.1.here hb) (And.intro (HA5.out.2.2.2.1.below hb) (And.intro (HA5.out.2.2.2.2.1.here hb) (And.intro (HA5.out.2.2.2.2.2.below hb) hi))))))
  have cm := HA6.out.2.1.reads
  have lm := HA6.out.2.1.lt
  have cn := HA6.out.2.2.2.2.1.reads
  have ln := HA6.out.2.2.2.2.1.lt
  clear hi hb HA5 HB5
  go_wp2_with fail
  refine (same_true _ _ _ _ _ _ _ _ _ _ _ _ HA6.out.1 HA6.out.2.2.2.1).mono ?_
  rintro e w7 ⟨rfl, hb⟩
  have HB7 := Lib.hid (HB6.out.trans (hb.mono HB6.out.size))
  have HA7 := Lib.hid (And.intro (HA6.out.2.2.1.here hb) (And.intro (HA6.out.2.2.2.2.2.1.below hb) (HA6.out.2.2.2.2.2.2.below hb)))
  clear hb HA6 HB6 cm lm cn ln
  go_wp2_with fail
  go_loopw [13] (fun i wr => ∃ k : Nat, i = .int .i64 (k : Int) ∧ k ≤ N ∧ Hid (Below w7.heap.size w7 wr)) (fun i _ => N - (intOf i).toNat)
  case atStart => exact ⟨0, rfl, by omega, Lib.hid (Below.refl _ _)⟩
  case round =>
    obtain ⟨k, rfl, hk, HR⟩ := hrel
    have sR := HR.out.size
    by_cases hlt : k < N
    · have d2 : decide ((k : Int) < (N : Int)) = true := decide_eq_true (by omega)
      have hmq : k / C' < Q := by rw [Nat.div_lt_iff_lt_mul hC0, ← hQN]; exact hlt
      obtain ⟨cv, hcv⟩ : ∃ cv, cl[k / C']? = some cv := ⟨_, List.getElem?_eq_getElem (by rw [HCC.out.len]; exact hmq)⟩
      obtain ⟨R2, o2, eA2, hR2, hcell⟩ := (HCC.out.below (HB7.out.trans (HR.out.mono HB7.out.size))).at_ (Nat.lt_of_le_of_lt (Nat.zero_le _) hmq)
      subst eA2
      have hcq := hcell (k / C') cv hcv
      have hgd : cl.getD (k / C') false = cv := by rw [List.getD_eq_getElem?_getD, hcv]; rfl
      have hl1 := (HA7.out.2.1.below HR.out)
      have hl2 := (HA7.out.2.2.below HR.out)
      have x1 := hl1.cell0 (k := k) (x := ((smp bs B' S P k : Nat) : Int)) (by simp [List.getElem?_range hlt])
      have x2 := hl2.cell0 (k := k) (x := ((smp pk B' S P k : Nat) : Int)) (by simp [List.getElem?_range hlt])
      rw [HSM.out k hlt] at x2
      unfold msk at x2
      rw [hgd] at x2
      obtain ⟨y, hy⟩ : ∃ y, smp bs B' S P k = y := ⟨_, rfl⟩
      rw [hy] at x1 x2
      have lx1 := World.block_lt_of_cell? _ _ x1
      have lx2 := World.block_lt_of_cell? _ _ x2
      obtain ⟨q, hq⟩ : ∃ q, k / C' = q := ⟨_, rfl⟩
      have t1 : (k : Int).tdiv (C' : Int) = (q : Int) := by rw [Int.tdiv_eq_ediv_of_nonneg (by omega), ← hq]; rfl
      have t3 : IntKind.i64.wrap (q : Int) = (q : Int) := by rw [IntKind.wrap_i64]; omega
      rw [hq] at hcq hmq
      have hC9 : ¬ (C' : Int) = 0 := by omega
      have hC8 : ¬ C' = 0 := by omega
      have hC7 : decide ((C' : Int) < 1) = false := decide_eq_false (by omega)
      have d4 : decide ((Q : Int) ≤ (q : Int)) = false := decide_eq_false (by omega)
      have d5 : decide (Q ≤ q) = false := decide_eq_false (by omega)
      have b0 : (0 : Int) ≤ (q : Int) := by omega
      have b1 : (q : Int) < (Q : Int) := by omega
      have bk0 : (0 : Int) ≤ (k : Int) := by omega
      have bk1 : (k : Int) < (N : Int) := by omega
      obtain ⟨i1, i2, i3⟩ := five_facts (HA7.out.1.here HR.out)
      clear hq hcv hcell hgd hl1 hl2 hy hR2
      cases cv
      · have x3 : wr.cell? ⟨R6, k, none⟩ = some (.int .i64 (y : Int)) := by simpa using x2
        clear x2
        go_wp2_with fail
        go_roundw
        case rel => exact ⟨k + 1, by go_num, by omega, HR⟩
        case measure => simp [intOf]; omega
      · have x3 : wr.cell? ⟨R6, k, none⟩ = some (.int .i64 0) := by simpa using x2
        clear x2
        go_wp2_with fail
        go_roundw
        case rel => exact ⟨k + 1, by go_num, by omega, HR⟩
        case measure => simp [intOf]; omega
    · obtain rfl : k = N := by omega
      have d2 : decide ((k : Int) < (k : Int)) = false := by simp
      go_wp2_with fail
      refine (awake_any _).mono ?_
      rintro e w8 ⟨rfl, hb⟩
      have HB8 := Lib.hid (HB7.out.trans ((HR.out.trans (hb.mono HR.out.size)).mono HB7.out.size))
      clear hb
      go_wp2_with fail
      go_ret
      exact ⟨rfl, HB8.out⟩
end Go.Proofs.Ytmleoagdelgddaa
