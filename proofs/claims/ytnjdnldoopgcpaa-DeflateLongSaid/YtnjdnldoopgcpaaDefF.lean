/- deflate: finder, and what it finds. -/
import Derived.Test.YtnjdnldoopgcpaaDefP
import Derived.Test.YtnjdnldoopgcpaaInfT
import Derived.Test.YtnjdnldoopgcpaaShelfS
import Derived.Shelf.SlSorted.Search
import Derived.Deep.Draws
import Derived.StillTailTactics
import Derived.Test.YtnjdnldoopgcpaaHuffPut
import Derived.Test.YtnjdnldoopgcpaaBitsWrB
namespace Go.Proofs.Ytnjdnldoopgcpaa
open Go.RowKit

theorem SpansAt.later {w w' : World} {A : Option Addr} {n c : Nat} {l : List (Nat × Nat)} (h : SpansAt w A n c l) (hb : Below w.heap.size w w') : SpansAt w' A n c l := h.fr (Fr.of_below hb) (fun k cs hk e => by have := hk.lt; omega)
theorem SpansAt.cells {w : World} {A : Option Addr} {n c : Nat} {l : List (Nat × Nat)} (h : SpansAt w A n c l) {i : Nat} (hi : i < n) : ∃ R o, A = some ⟨R, o, none⟩ ∧ R < w.heap.size ∧ w.cell? ⟨R, o + i * 2, none⟩ = some (.int .i64 ((l.getD i (0, 0)).1 : Int)) ∧ w.cell? ⟨R, o + i * 2 + 1, none⟩ = some (.int .i64 ((l.getD i (0, 0)).2 : Int)) := by
  have hl := h.1.len
  rw [List.length_map] at hl
  obtain ⟨R, o, e, hR, hc⟩ := h.1.at_ (by omega)
  have hq : (l.map spV)[i]? = some (spV (l.getD i (0, 0))) := by
    rw [List.getElem?_map, List.getD_eq_getElem?_getD, List.getElem?_eq_getElem (by omega)]
    rfl
  exact ⟨R, o, e, hR, hc i _ hq 0 _ rfl, hc i _ hq 1 _ rfl⟩
/-- What finder answers. -/
def FinIs (A : Option Addr) (n c : Nat) (w : World) (e : Ending) (w' : World) : Prop :=
  ∃ V, e = .returned (.func (.func 56) #[] #[.pointer (some ⟨V, 0, none⟩)]) ∧ w.heap.size ≤ V ∧ Whole w' V 69 #[.slice A n c] ∧ Below w.heap.size w w'
set_option maxRecDepth 100000 in
theorem finder_any (A : Option Addr) (n c : Nat) (w : World) : Calls Try.prog 40 #[.slice A n c] w (FinIs A n c w) := by
  have hmf : ∀ (fn : Fn) (first cap : Array Value) (w : World), (Instr.makeFunc fn first cap).run Try.prog w = .ok (.func fn first cap) w := fun _ _ _ _ => rfl
  go_enter Try.func40, Try.ntmps40
  go_wp2_with fail
  go_ret
  exact ⟨_, rfl, Nat.le_refl _, Whole.made _ _ _, (Below.refl _ _).alloc (Nat.le_refl _) _⟩
set_option maxRecDepth 100000 in
set_option maxHeartbeats 2000000 in
theorem more_any (V N : Nat) (A : Option Addr) (n c : Nat) (tb : List (Nat × Nat)) (v i : Nat) (w : World) (hV : w.cell? ⟨V, 0, none⟩ = some (.slice A n c)) (hN : w.cell? ⟨N, 0, none⟩ = some (.int .i64 (v : Int))) (h : SpansAt w A n c tb) (hi : i < n) :
    Calls Try.prog 58 (#[.int .i64 (i : Int)] ++ #[.pointer (some ⟨V, 0, none⟩), .pointer (some ⟨N, 0, none⟩)]) w fun e w' => e = .returned (.bool (decide (v < (tb.getD i (0, 0)).1))) ∧ ∃ q, w' = w.drewN q := by
  obtain ⟨R, o, rfl, hR, h0, -⟩ := h.cells hi
  obtain ⟨F, hF⟩ : ∃ F, (tb.getD i (0, 0)).1 = F := ⟨_, rfl⟩
  rw [hF] at h0 ⊢
  have hlt : (i : Int) < (n : Int) := by omega
  have h00 : (0 : Int) ≤ (i : Int) := by omega
  clear h hF
  go_enter Try.func58, Try.ntmps58
  go_wp2_with fail
  go_region
  all_goals go_wp2
  all_goals go_ret
  all_goals exact ⟨by first | rfl | (simp; done) | (simp; omega), 1, rfl⟩
theorem results_fi (tmps : Array Value) (w : World) (g : Nat) (a b c : Value) (hp : tmps.getD 3 undef = .pointer (some ⟨g, 0, none⟩)) (h0 : w.cell? ⟨g, 0, none⟩ = some a) (h1 : w.cell? ⟨g, 1, none⟩ = some b) (h2 : w.cell? ⟨g, 2, none⟩ = some c) :
    (results Try.f56 tmps).run Try.prog w = .ok (.agg #[a, b, c]) w := by
  have hp' : tmps[3]?.getD undef = .pointer (some ⟨g, 0, none⟩) := by simpa using hp
  simp [results, Try.results56, hp', asAddr, go_sem, h0, h1, h2]
/-- What a search of a table answers. -/
def FoIs (tb : List (Nat × Nat)) (v : Nat) (w : World) (e : Ending) (w' : World) : Prop :=
  e = .returned (.agg #[.int .i64 (plcT tb v : Int), .int .i64 ((v - (tb.getD (plcT tb v) (0, 0)).1 : Nat) : Int), .int .i64 ((tb.getD (plcT tb v) (0, 0)).2 : Int)]) ∧ Below w.heap.size w w'
set_option maxRecDepth 100000 in
set_option maxHeartbeats 4000000 in
theorem found_any (V : Nat) (A : Option Addr) (n c : Nat) (tb : List (Nat × Nat)) (v : Nat) (w : World) (hV : Whole w V 69 #[.slice A n c]) (h : SpansAt w A n c tb) (hr : Rises tb) (hin : InT tb v) (h0 : (tb.getD 0 (0, 0)).1 ≤ v) (hv : v ≤ 100000) (hn : n ≤ 1000) :
    Calls Try.prog 56 #[.int .i64 (v : Int), .pointer (some ⟨V, 0, none⟩)] w (FoIs tb v w) := by
  have hmf : ∀ (fn : Fn) (first cap : Array Value) (w : World), (Instr.makeFunc fn first cap).run Try.prog w = .ok (.func fn first cap) w := fun _ _ _ _ => rfl
  have hl := h.1.len
  rw [List.length_map] at hl
  obtain ⟨w2, hw2⟩ : ∃ w2, (w.alloc (.cells #[.int .i64 (v : Int)] 3)).alloc (.cells #[.int .i64 0, .int .i64 0, .int .i64 0] 80) = w2 := ⟨_, rfl⟩
  have hb2 : Below w.heap.size w w2 := by rw [← hw2]; exact ((Below.refl _ _).alloc (Nat.le_refl _) _).alloc (by simp) _
  have hN2 : Whole w2 w.heap.size 3 #[.int .i64 (v : Int)] := by rw [← hw2]; exact (Whole.made _ _ _).old _
  have hT2 : Whole w2 (w.heap.size + 1) 80 #[.int .i64 0, .int .i64 0, .int .i64 0] := by
    rw [← hw2]
    have := Whole.made (w.alloc (.cells #[.int .i64 (v : Int)] 3)) 80 #[.int .i64 0, .int .i64 0, .int .i64 0]
    rwa [World.size_alloc] at this
  have hV2 := hV.here hb2
  have hs2 := h.later hb2
  have eg : ∀ args w, (callFunc 58 args).run Try.prog w = .ok (.enter 58 args) w := enters_of Try.func58 (by kernel_rfl) rfl
  have hS := Any.sort_Search Try.lays_search 58 #[.pointer (some ⟨V, 0, none⟩), .pointer (some ⟨w.heap.size, 0, none⟩)] n (fun i => decide (v < (tb.getD i (0, 0)).1)) w2 eg (by omega)
    (fun m os i hi => by
      have hg := below_grown_sl w2.heap.size w2 m os (Nat.le_refl _)
      refine (more_any V w.heap.size A n c tb v i _ ((hV2.here hg).reads 0) ((hN2.here hg).reads 0) (hs2.later hg) hi).mono ?_
      rintro e w' ⟨he, q, hq⟩
      exact ⟨he, q, #[], by rw [hq, Go.Sort.grow_empty]⟩)
    (fun a b hab hb h => by
      have := hr.up a b (by omega) (by omega) hab
      have h := of_decide_eq_true h
      exact decide_eq_true (by omega))
  change Calls Try.prog 57 _ _ _ at hS
  obtain ⟨C, hC⟩ : ∃ C, (List.range n).countP (fun i => !decide (v < (tb.getD i (0, 0)).1)) = C := ⟨_, rfl⟩
  rw [hC] at hS
  have hp : plcT tb v = C - 1 := by unfold plcT; rw [hl, hC]
  have hC1 : 1 ≤ C := by
    rw [← hC]
    refine List.countP_pos_iff.2 ⟨0, List.mem_range.2 (by have := hin.1; omega), ?_⟩
    rw [decide_eq_false (by omega)]
    rfl
  obtain ⟨p, rfl⟩ : ∃ p, C = p + 1 := ⟨C - 1, by omega⟩
  obtain ⟨i1, i2, i3⟩ := hin
  unfold FoIs
  rw [hp, Nat.add_sub_cancel] at *
  obtain ⟨R, o, rfl, hR, k0, k1⟩ := hs2.cells (i := p) (by omega)
  obtain ⟨F, hF⟩ : ∃ F, (tb.getD p (0, 0)).1 = F := ⟨_, rfl⟩
  obtain ⟨G, hG⟩ : ∃ G, (tb.getD p (0, 0)).2 = G := ⟨_, rfl⟩
  rw [hF] at k0 i2 i3 ⊢
  rw [hG] at k1 i3 ⊢
  have c0 : w2.cell? ⟨V, 0, none⟩ = some (.slice (some ⟨R, o, none⟩) n c) := hV2.reads 0
  have c1 : w2.cell? ⟨w.heap.size, 0, none⟩ = some (.int .i64 (v : Int)) := hN2.reads 0
  have lV := hV2.lt
  have lN := hN2.lt
  have lT := hT2.lt
  have H2 := Lib.hid (And.intro hV2 (And.intro hN2 (And.intro hT2 (And.intro hb2 (And.intro k0 (And.intro k1 (And.intro c0 c1)))))))
  obtain ⟨K, hK⟩ : ∃ K, p + 1 = K := ⟨_, rfl⟩
  rw [hK] at hS
  obtain ⟨D, hD⟩ : ∃ D, v - F = D := ⟨_, rfl⟩
  rw [hD]
  have ewp : IntKind.i64.wrap ((K : Int) - 1) = (p : Int) := by rw [IntKind.wrap_i64]; omega
  have ewd : IntKind.i64.wrap ((v : Int) - (F : Int)) = (D : Int) := by rw [IntKind.wrap_i64]; omega
  have b0 : (0 : Int) ≤ (p : Int) := by omega
  have b1 : (p : Int) < (n : Int) := by omega
  have HS := Lib.hid hS
  have hsz : w2.heap.size = w.heap.size + 1 + 1 := by rw [← hw2]; simp
  clear hV h hV2 hN2 hT2 hs2 hS hC hp hb2 k0 k1 hF hG c1 hr
  go_enter Try.func56, Try.ntmps56
  go_wp2_with fail
  refine HS.out.mono ?_
  rintro e w3 ⟨rfl, q, os, hw3⟩
  have hb3 : Below w2.heap.size w2 w3 := by rw [hw3]; exact below_grown_sl _ _ _ _ (Nat.le_refl _)
  obtain ⟨g1, g2, g3, g4, g5, g6, g7, g8⟩ := H2.out
  have z0 : w3.cell? ⟨V, 0, none⟩ = some (.slice (some ⟨R, o, none⟩) n c) := (g1.here hb3).reads 0
  have z1 : w3.cell? ⟨w.heap.size, 0, none⟩ = some (.int .i64 (v : Int)) := (g2.here hb3).reads 0
  have z2 : w3.cell? ⟨R, o + p * 2, none⟩ = some (.int .i64 (F : Int)) := (hb3.cell (p := ⟨R, o + p * 2, none⟩) hR).trans g5
  have z3 : w3.cell? ⟨R, o + p * 2 + 1, none⟩ = some (.int .i64 (G : Int)) := (hb3.cell (p := ⟨R, o + p * 2 + 1, none⟩) hR).trans g6
  have hT3 := g3.here hb3
  have HT := Lib.hid (And.intro hT3.drawn1 (g4.trans ((hb3.mono g4.size).drew)))
  clear g1 g2 g3 g4 g5 g6 g7 g8 hb3 hw3 hT3 HS lV lN lT hR
  go_wp2_with fail
  go_still_tail 14, (by kernel_rfl)
  change wpList _ _ _ _ _ w3.drew
  have t0 := HT.out.1.thawed 0
  have t1 := HT.out.1.thawed 1
  have t2 := HT.out.1.thawed 2
  have y0 : w3.drew.cell? ⟨w.heap.size + 1, 0, none⟩ = some (.int .i64 0) := HT.out.1.reads 0
  have y1 : w3.drew.cell? ⟨w.heap.size + 1, 1, none⟩ = some (.int .i64 0) := HT.out.1.reads 1
  have y2 : w3.drew.cell? ⟨w.heap.size + 1, 2, none⟩ = some (.int .i64 0) := HT.out.1.reads 2
  have lT := HT.out.1.lt
  clear z0 z1 z2 z3
  generalize w3.drew = w4 at *
  go_wp2_with fail
  have hW := ((HT.out.1.set 0 (.int .i64 (p : Int))).set 1 (.int .i64 (D : Int))).set 2 (.int .i64 (G : Int))
  refine bodyPost_ret (v := .agg #[.int .i64 (p : Int), .int .i64 (D : Int), .int .i64 (G : Int)]) (results_fi _ _ (w.heap.size + 1) (.int .i64 (p : Int)) (.int .i64 (D : Int)) (.int .i64 (G : Int)) rfl (by rw [hW.reads 0]; rfl) (by rw [hW.reads 1]; rfl) (by rw [hW.reads 2]; rfl)) rfl ⟨rfl, ?_⟩
  exact ((HT.out.2.setCell (p := ⟨w.heap.size + 1, 0, none⟩) (by show w.heap.size ≤ w.heap.size + 1; omega) _).setCell (p := ⟨w.heap.size + 1, 1, none⟩) (by show w.heap.size ≤ w.heap.size + 1; omega) _).setCell (p := ⟨w.heap.size + 1, 2, none⟩) (by show w.heap.size ≤ w.heap.size + 1; omega) _
end Go.Proofs.Ytnjdnldoopgcpaa
/- deflate: the writer in memory. -/
namespace Go.Proofs.Ytnjdnldoopgcpaa
open Go.RowKit

theorem words_of (l : List Int) (s x : Nat) (h : l[s]? = some (x : Int)) (h0 : 0 < x) (hx : x ≤ 15) : (wordsAt l 15 0)[s * 2]? = some (.int .i64 ((revB (codeOf (natsOf l) s x) x : Nat) : Int)) ∧ (wordsAt l 15 0)[s * 2 + 1]? = some (.int .i64 (x : Int)) := by
  have hs : s < l.length := (List.getElem?_eq_some_iff.1 h).1
  have hg := natsOf_getD h
  rw [wordsAt_at l 15 0 (s * 2) (by omega), wordsAt_at l 15 0 (s * 2 + 1) (by omega)]
  unfold wordIn
  have d1 : s * 2 / 2 = s := by omega
  have d2 : s * 2 % 2 = 0 := by omega
  have d3 : (s * 2 + 1) / 2 = s := by omega
  have d4 : ¬ (s * 2 + 1) % 2 = 0 := by omega
  simp only [d1, d2, d3, d4, hg, Int.toNat_natCast, if_true, if_false]
  have : 0 < x ∧ (x ≤ 15 ∨ x = 15 + 1 ∧ s < 0) := ⟨h0, .inl hx⟩
  rw [if_pos this, if_pos this]
  exact ⟨rfl, rfl⟩
/-- A symbol's word, by a table in memory. -/
theorem tab_put {w : World} {P B base : Nat} {v : Value} {M T s : Nat} {l : List Int} (h : TabAt w P l) (hw : WD w B base v M T) (hok : lensOk l) (hs : (natsOf l)[s]? = some (lenOf l s)) (h0 : 0 < lenOf l s) (hT : T ≤ 1000000000) :
    Calls Try.prog 47 #[.pointer (some ⟨P, 0, none⟩), .pointer (some ⟨B, 0, none⟩), .int .i64 (s : Int)] w (PutIs B base v (M + 2 ^ T * wordOf l s) (T + lenOf l s) w) := by
  obtain ⟨hl, b0, G, vt, ht⟩ := h
  have hsl := (List.getElem?_eq_some_iff.1 hs).1
  rw [natsOf_length'] at hsl
  obtain ⟨y, hy⟩ : ∃ y, l[s]? = some y := ⟨_, List.getElem?_eq_getElem hsl⟩
  have hy2 := hok.2 y (List.mem_of_getElem? hy)
  have e1 := natsOf_getD hy
  have e2 : lenOf l s = y.toNat := by unfold lenOf; rw [e1]
  have hy3 : l[s]? = some ((lenOf l s : Nat) : Int) := by rw [hy, e2]; congr 1; omega
  have hx15 : lenOf l s ≤ 15 := by omega
  obtain ⟨k0, k1⟩ := words_of l s (lenOf l s) hy3 h0 hx15
  exact tput_some P b0 G l.length B base M T s (wordOf l s) (lenOf l s) _ vt v _ _ w ht hsl k0 k1 h0 hx15 (wordOf_lt l s) hw hT
structure Wx where
  W : Nat
  B : Nat
  base : Nat
  P1 : Nat
  P2 : Nat
  V1 : Nat
  V2 : Nat
  A1 : Option Addr
  c1 : Nat
  A2 : Option Addr
  c2 : Nat
/-- A writer: its bits, its tables, its searches. -/
structure WrS (x : Wx) (w : World) (v : Value) (M T : Nat) : Prop where
  whole : Whole w x.W 73 #[.pointer (some ⟨x.B, 0, none⟩), .pointer (some ⟨x.P1, 0, none⟩), .pointer (some ⟨x.P2, 0, none⟩), .func (.func 56) #[] #[.pointer (some ⟨x.V1, 0, none⟩)], .func (.func 56) #[] #[.pointer (some ⟨x.V2, 0, none⟩)]]
  wd : WD w x.B x.base v M T
  t1 : TabAt w x.P1 fixedL
  t2 : TabAt w x.P2 d5
  b1 : Whole w x.V1 69 #[.slice x.A1 29 x.c1]
  b2 : Whole w x.V2 69 #[.slice x.A2 30 x.c2]
  s1 : SpansAt w x.A1 29 x.c1 lensT
  s2 : SpansAt w x.A2 30 x.c2 distT
  low : x.base ≤ x.B ∧ x.base ≤ w.heap.size
theorem TabAt.fr {w w' : World} {P : Nat} {l : List Int} (h : TabAt w P l) {S : Nat → Prop} (hf : Fr S w w') (hS : ∀ k T cs, Whole w k T cs → T ≠ 5 → T ≠ 90 → ¬ S k) : TabAt w' P l := by
  obtain ⟨hl, base, G, v, ht⟩ := h
  refine ⟨hl, base, G, v, ht.sz, ht.whole.frame hf (hS _ _ _ ht.whole (by decide) (by decide)), own_frame ht.own hf (fun g hg => ?_), ht.words.frame hf (hS _ _ _ ht.words (by decide) (by decide))⟩
  obtain ⟨-, -, cs, hc⟩ := own_lt ht.own hg
  exact hS _ _ _ hc (by decide) (by decide)
theorem wr_off {w : World} {B base M T : Nat} {v : Value} (h : WD w B base v M T) : ∀ k T' cs, Whole w k T' cs → T' ≠ 5 → T' ≠ 90 → ¬ (k = B ∨ some k = v.ownBlock) := by
  intro k T' cs hk h1 h2 hs
  rcases hs with e | e
  · obtain ⟨cs', hw⟩ := h.whole
    exact hk.apart hw h2 e
  · obtain ⟨-, -, cs', hw⟩ := h.row e.symm
    exact hk.apart hw h1 rfl
theorem WrS.fr {x : Wx} {w w' : World} {v v' : Value} {M T M' T' : Nat} (h : WrS x w v M T) {S : Nat → Prop} (hf : Fr S w w') (hS : ∀ k T cs, Whole w k T cs → T ≠ 5 → T ≠ 90 → ¬ S k) (hw : WD w' x.B x.base v' M' T') : WrS x w' v' M' T' :=
  ⟨h.whole.frame hf (hS _ _ _ h.whole (by decide) (by decide)), hw, h.t1.fr hf hS, h.t2.fr hf hS, h.b1.frame hf (hS _ _ _ h.b1 (by decide) (by decide)), h.b2.frame hf (hS _ _ _ h.b2 (by decide) (by decide)),
    h.s1.fr hf (fun k cs hk => hS _ _ _ hk (by decide) (by decide)), h.s2.fr hf (fun k cs hk => hS _ _ _ hk (by decide) (by decide)), ⟨h.low.1, Nat.le_trans h.low.2 hf.size⟩⟩
theorem WrS.later {x : Wx} {w w' : World} {v : Value} {M T : Nat} (h : WrS x w v M T) (hb : Below w.heap.size w w') : WrS x w' v M T := by
  have hf : Fr (fun k => w.heap.size ≤ k) w w' := Fr.of_below hb
  refine h.fr hf (fun k T cs hk _ _ e => by have := hk.lt; omega) (h.wd.frame hf (fun e => ?_) (fun g hg e => ?_))
  · obtain ⟨cs, hw⟩ := h.wd.whole
    have := hw.lt
    omega
  · have := (h.wd.row hg).2.1
    omega
/-- What a step of the writer answers. -/
def OffW (w w' : World) : Prop := ∀ k T cs, Whole w k T cs → T ≠ 5 → T ≠ 90 → Whole w' k T cs
def StW (x : Wx) (M T : Nat) (w w' : World) : Prop := (∃ v, WrS x w' v M T) ∧ Below x.base w w' ∧ OffW w w'
theorem OffW.of_below {w w' : World} (hb : Below w.heap.size w w') : OffW w w' := fun _ _ _ h _ _ => h.here hb
theorem OffW.trans {a b c : World} (h : OffW a b) (k : OffW b c) : OffW a c := fun _ _ _ hw h1 h2 => k _ _ _ (h _ _ _ hw h1 h2) h1 h2
theorem WrS.wrote {x : Wx} {w w' : World} {v : Value} {M T M' T' : Nat} (h : WrS x w v M T) (hw : Wrote x.B x.base v M' T' w w') : StW x M' T' w w' := by
  obtain ⟨v', hwd, hf, -⟩ := hw
  refine ⟨⟨v', h.fr hf (wr_off h.wd) hwd⟩, Fr.below hf h.low.2 (fun j hj hs => ?_), fun k T' cs hk h1 h2 => hk.frame hf (wr_off h.wd k T' cs hk h1 h2)⟩
  rcases hs with e | e
  · have := h.low.1; omega
  · have := (h.wd.row e.symm).1; omega
theorem StW.trans {x : Wx} {M T M' T' : Nat} {a b c : World} (h : StW x M T a b) (k : StW x M' T' b c) : StW x M' T' a c := ⟨k.1, h.2.1.trans k.2.1, h.2.2.trans k.2.2⟩
theorem StW.first {x : Wx} {M T : Nat} {w a b : World} (hb : Below w.heap.size w a) (hl : x.base ≤ w.heap.size) (h : StW x M T a b) : StW x M T w b := ⟨h.1, (hb.mono hl).trans h.2.1, (OffW.of_below hb).trans h.2.2⟩
end Go.Proofs.Ytnjdnldoopgcpaa
