/- inflate: tables that are made; the fixed codes. -/
import Derived.Test.YtnjdnldoopgcpaaDoorInfJ
namespace Go.Proofs.YtnjdnldoopgcpaaDoor
open Go.RowKit

theorem bnd_rtn {α β : Type} (a : α) (f : α → Ps β) : bnd (rtn a) f = f a := rfl
theorem bnd_bad {α β : Type} (e : Int) (f : α → Ps β) : bnd (bad e : Ps α) f = bad e := rfl
theorem TabAt.here {w w' : World} {P : Nat} {l : List Int} (h : TabAt w P l) (hb : Below w.heap.size w w') : TabAt w' P l := by
  obtain ⟨hl, base, G, v, ht⟩ := h
  exact ⟨hl, base, G, v, ht.sz, ht.whole.here hb, own_new ht.own hb, ht.words.here hb⟩
theorem TabAt.set {w : World} {P g : Nat} {l : List Int} {T : TypeId} {cs : Array Value} (h : TabAt w P l) (hg : Whole w g T cs) (h1 : T ≠ 120) (h2 : T ≠ 3) (h3 : T ≠ 124) (i : Nat) (u : Value) : TabAt (w.setCell ⟨g, i, none⟩ u) P l := by
  obtain ⟨hl, base, G, v, ht⟩ := h
  exact ⟨hl, base, G, v, ht.sz, ht.whole.away (p := ⟨g, i, none⟩) (ht.whole.apart hg (Ne.symm h1)) u, own_set ht.own hg (Ne.symm h2) i u, ht.words.away (p := ⟨g, i, none⟩) (ht.words.apart hg (Ne.symm h3)) u⟩
/-- What Make answers. -/
def MkIs (l : List Int) (w : World) (e : Ending) (w' : World) : Prop :=
  ∃ (p : Option Nat) (E : Int), e = .returned (.tuple #[.pointer (p.map fun P => ⟨P, 0, none⟩), .int .i64 E]) ∧ Below w.heap.size w w' ∧
    ((E = 0 ∧ makeP l = rtn () ∧ ∃ P, p = some P ∧ TabAt w' P l) ∨ (E ≠ 0 ∧ p = none ∧ makeP l = bad E))
theorem make_is (A : Option Addr) (n c : Nat) (l : List Int) (w : World) (h : IntsAt w A n c l) : Calls Tryd.prog 45 #[.slice A n c] w (MkIs l w) := by
  by_cases hok : lensOk l ∧ sumOk l
  · refine Calls.mono (make_ok A n c l w h hok.1 hok.2) ?_
    rintro e w' ⟨hb, B, G, v, rfl, -, -, ht⟩
    exact ⟨some B, 0, rfl, hb, .inl ⟨rfl, by unfold makeP; rw [if_pos hok.1, if_pos hok.2], B, rfl, hok.1.1, w.heap.size, G, v, ht⟩⟩
  · refine Calls.mono (make_bad A n c l w h hok) ?_
    rintro e w' ⟨⟨h1, rfl⟩ | ⟨h1, rfl⟩, hb⟩
    · exact ⟨none, 1, rfl, hb, .inr ⟨by decide, rfl, by unfold makeP; rw [if_neg h1]⟩⟩
    · exact ⟨none, 4, rfl, hb, .inr ⟨by decide, rfl, by unfold makeP; rw [if_pos h1, if_neg (fun h2 => hok ⟨h1, h2⟩)]⟩⟩
theorem results_mc (tmps : Array Value) (w : World) (g : Nat) (a b v : Value) (hp : tmps.getD 4 undef = .pointer (some ⟨g, 0, none⟩)) (hv : tmps.getD 5 undef = v) (h0 : w.cell? ⟨g, 0, none⟩ = some a) (h1 : w.cell? ⟨g, 1, none⟩ = some b) :
    (results Tryd.f75 tmps).run Tryd.prog w = .ok (.tuple #[.agg #[a, b], v]) w := by
  have hp' : tmps[4]?.getD undef = .pointer (some ⟨g, 0, none⟩) := by simpa using hp
  have hv' : tmps[5]?.getD undef = v := by simpa using hv
  simp [results, Tryd.results75, hp', hv', asAddr, go_sem, h0, h1]
theorem results_fx (tmps : Array Value) (w : World) (g : Nat) (a b : Value) (hp : tmps.getD 2 undef = .pointer (some ⟨g, 0, none⟩)) (h0 : w.cell? ⟨g, 0, none⟩ = some a) (h1 : w.cell? ⟨g, 1, none⟩ = some b) :
    (results Tryd.f54 tmps).run Tryd.prog w = .ok (.agg #[a, b]) w := by
  have hp' : tmps[2]?.getD undef = .pointer (some ⟨g, 0, none⟩) := by simpa using hp
  simp [results, Tryd.results54, hp', asAddr, go_sem, h0, h1]
/-- What makeCodes answers. -/
def BothMk (ls ds : List Int) (w : World) (e : Ending) (w' : World) : Prop :=
  ∃ (q1 q2 : Value) (E : Int), e = .returned (.tuple #[.agg #[q1, q2], .int .i64 E]) ∧ Below w.heap.size w w' ∧
    ((E = 0 ∧ makeBoth ls ds = rtn (ls, ds) ∧ ∃ P1 P2, q1 = .pointer (some ⟨P1, 0, none⟩) ∧ q2 = .pointer (some ⟨P2, 0, none⟩) ∧ TabAt w' P1 ls ∧ TabAt w' P2 ds) ∨ (E ≠ 0 ∧ q1 = .pointer none ∧ q2 = .pointer none ∧ makeBoth ls ds = bad E))
set_option maxRecDepth 100000 in
set_option maxHeartbeats 2000000 in
theorem both_mk (A1 A2 : Option Addr) (n1 c1 n2 c2 : Nat) (ls ds : List Int) (w : World) (h1 : IntsAt w A1 n1 c1 ls) (h2 : IntsAt w A2 n2 c2 ds) (h257 : 257 ≤ n1) :
    Calls Tryd.prog 75 #[.slice A1 n1 c1, .slice A2 n2 c2] w (BothMk ls ds w) := by
  obtain ⟨R, o, rfl, hR, hc⟩ := h1.at_ (by omega)
  obtain ⟨y, hy⟩ : ∃ y, ls[256]? = some y := ⟨_, List.getElem?_eq_getElem (by rw [h1.len]; omega)⟩
  have hyd : ls.getD 256 0 = y := by rw [List.getD_eq_getElem?_getD, hy]; rfl
  obtain ⟨wA, hwA⟩ : ∃ wA, w.alloc (.cells #[.pointer none, .pointer none] 64) = wA := ⟨_, rfl⟩
  have hbA : Below w.heap.size w wA := by rw [← hwA]; exact (Below.refl _ _).alloc (Nat.le_refl _) _
  have hG : Whole wA w.heap.size 64 #[.pointer none, .pointer none] := by rw [← hwA]; exact Whole.made _ _ _
  have c0 : wA.cell? ⟨R, o + 256, none⟩ = some (.int .i64 y) := (hbA.cell (p := ⟨R, o + 256, none⟩) hR).trans (hc 256 y hy)
  have hRA : R < wA.heap.size := Nat.lt_of_lt_of_le hR hbA.size
  have hn1 : (256 : Int) < (n1 : Int) := by omega
  have HM1 := Lib.hid (make_is (some ⟨R, o, none⟩) n1 c1 ls wA (h1.below hbA))
  have H2 := Lib.hid (h2.below hbA)
  have HG := Lib.hid hG
  have HB := Lib.hid hbA
  clear h1 h2 hc hy hbA
  go_enter Tryd.func75, Tryd.ntmps75
  by_cases h0 : y = 0
  · subst h0
    have HZ := Lib.hid (show makeBoth ls ds = bad 4 by unfold makeBoth; rw [if_pos hyd])
    have rd := hG.reads
    have ft := hG.thawed
    have lG := hG.lt
    clear hyd
    go_wp2_with fail
    have hG2 := (HG.out.set 0 (.pointer none)).set 1 (.pointer none)
    refine bodyPost_ret (v := .tuple #[.agg #[.pointer none, .pointer none], .int .i64 4]) (results_mc _ _ w.heap.size _ _ _ rfl rfl (hG2.reads 0) (hG2.reads 1)) rfl ⟨_, _, 4, rfl, ?_, .inr ⟨by decide, rfl, rfl, HZ.out⟩⟩
    exact (HB.out.setCell (Nat.le_refl _) _).setCell (Nat.le_refl _) _
  · have d1 : (y == 0) = false := by simp [h0]
    have HZ := Lib.hid (show makeBoth ls ds = bnd (makeP ls) fun _ => bnd (makeP ds) fun _ => rtn (ls, ds) by unfold makeBoth; rw [if_neg (by rw [hyd]; exact h0)])
    clear hyd h0 hG
    go_wp2_with fail
    refine HM1.out.mono ?_
    rintro e w1 ⟨p, E, rfl, hb, hv⟩
    have HB1 := Lib.hid (HB.out.trans (hb.mono HB.out.size))
    have HG1 := Lib.hid (HG.out.here hb)
    have H21 := Lib.hid (H2.out.below hb)
    rcases hv with ⟨rfl, hp, P1, rfl, ht⟩ | ⟨hE, rfl, hp⟩
    · have HT1 := Lib.hid ht
      have HP := Lib.hid hp
      clear hb ht hp c0
      go_wp2_with fail
      refine (make_is A2 n2 c2 ds _ H21.out).mono ?_
      rintro e w2 ⟨p, E, rfl, hb, hv⟩
      have HB2 := Lib.hid (HB1.out.trans (hb.mono HB1.out.size))
      have HG2 := Lib.hid (HG1.out.here hb)
      have HT12 := Lib.hid (HT1.out.here hb)
      have rd := HG2.out.reads
      have ft := HG2.out.thawed
      have lG := HG2.out.lt
      rcases hv with ⟨rfl, hp, P2, rfl, ht⟩ | ⟨hE, rfl, hp⟩
      · have HT2 := Lib.hid ht
        have HP2 := Lib.hid hp
        clear hb ht hp
        go_wp2_with fail
        have hW1 := HG2.out.set 0 (.pointer (some ⟨P1, 0, none⟩))
        have hW2 := hW1.set 1 (.pointer (some ⟨P2, 0, none⟩))
        refine bodyPost_ret (v := .tuple #[.agg #[.pointer (some ⟨P1, 0, none⟩), .pointer (some ⟨P2, 0, none⟩)], .int .i64 0]) (results_mc _ _ w.heap.size _ _ _ rfl rfl (hW2.reads 0) (hW2.reads 1)) rfl ⟨_, _, 0, rfl, ?_, .inl ⟨rfl, ?_, P1, P2, rfl, rfl, ?_, ?_⟩⟩
        · exact (HB2.out.setCell (Nat.le_refl _) _).setCell (Nat.le_refl _) _
        · rw [HZ.out, HP.out, bnd_rtn, HP2.out, bnd_rtn]
        · exact (HT12.out.set HG2.out (by decide) (by decide) (by decide) 0 _).set hW1 (by decide) (by decide) (by decide) 1 _
        · exact (HT2.out.set HG2.out (by decide) (by decide) (by decide) 0 _).set hW1 (by decide) (by decide) (by decide) 1 _
      · have d2 : (E != 0) = true := by simp [hE]
        have HP2 := Lib.hid hp
        clear hb hp
        go_wp2_with fail
        have hW2 := (HG2.out.set 0 (.pointer none)).set 1 (.pointer none)
        refine bodyPost_ret (v := .tuple #[.agg #[.pointer none, .pointer none], .int .i64 E]) (results_mc _ _ w.heap.size _ _ _ rfl rfl (hW2.reads 0) (hW2.reads 1)) rfl ⟨_, _, E, rfl, ?_, .inr ⟨hE, rfl, rfl, ?_⟩⟩
        · exact (HB2.out.setCell (Nat.le_refl _) _).setCell (Nat.le_refl _) _
        · rw [HZ.out, HP.out, bnd_rtn, HP2.out, bnd_bad]
    · have d2 : (E != 0) = true := by simp [hE]
      have HP2 := Lib.hid hp
      have rd := HG1.out.reads
      have ft := HG1.out.thawed
      have lG := HG1.out.lt
      clear hb hp c0
      go_wp2_with fail
      have hW2 := (HG1.out.set 0 (.pointer none)).set 1 (.pointer none)
      refine bodyPost_ret (v := .tuple #[.agg #[.pointer none, .pointer none], .int .i64 E]) (results_mc _ _ w.heap.size _ _ _ rfl rfl (hW2.reads 0) (hW2.reads 1)) rfl ⟨_, _, E, rfl, ?_, .inr ⟨hE, rfl, rfl, ?_⟩⟩
      · exact (HB1.out.setCell (Nat.le_refl _) _).setCell (Nat.le_refl _) _
      · rw [HZ.out, HP2.out, bnd_bad]
end Go.Proofs.YtnjdnldoopgcpaaDoor
/- inflate: the fixed codes. -/
namespace Go.Proofs.YtnjdnldoopgcpaaDoor
open Go.RowKit

theorem makeP_fixed : makeP fixedL = rtn () := by
  unfold makeP
  rw [if_pos (by decide +kernel), if_pos (by decide +kernel)]
theorem makeP_five : makeP (List.replicate 32 5) = rtn () := by
  unfold makeP
  rw [if_pos (by decide +kernel), if_pos (by decide +kernel)]
theorem rtn_ne_bad {E : Int} (h : (rtn () : Ps Unit) = bad E) : False := by
  have := congrFun (congrFun h 0) 0
  cases this
theorem DecS.setD {x : Cx} {w : World} {p3 p4 q3 q4 : Value} {a : Acc} {N L : Nat} (h : DecS x w p3 p4 a N L) (i : Nat) (u : Value) (he : ∀ v, (decV x p3 p4 a.made v).setIfInBounds i u = decV x q3 q4 a.made v) :
    DecS x (w.setCell ⟨x.D, i, none⟩ u) q3 q4 a N L ∧ Fl x w (w.setCell ⟨x.D, i, none⟩ u) := by
  obtain ⟨rc, hrw⟩ := h.rd.whole
  obtain ⟨v, hw, ho⟩ := h.whole
  have hf : Fr (fun k => k = x.D) w (w.setCell ⟨x.D, i, none⟩ u) := (Fr.refl _ _).setB i u
  refine ⟨⟨⟨v, by have := hw.set i u; rw [he] at this; exact this, own_set ho hw (by decide) i u⟩, h.rd.fr2 hf (hrw.apart hw (by decide)) (fun cs hc => hc.apart hw (by decide)), h.lens.fr hf (fun k cs hk => hk.apart hw (by decide)), h.dist.fr hf (fun k cs hk => hk.apart hw (by decide)), Nat.lt_of_lt_of_le h.rR hf.size, ⟨h.low.1, h.low.2.1, Nat.le_trans h.low.2.2 hf.size⟩, h.few, h.most, h.made⟩, hf.more (fun _ _ e => .inr (.inl e))⟩
/-- The fixed codes' tables: not there yet, or made. -/
def FixAt (w : World) (p3 p4 : Value) : Prop := (p3 = .pointer none ∧ p4 = .pointer none) ∨ (∃ P1 P2, p3 = .pointer (some ⟨P1, 0, none⟩) ∧ p4 = .pointer (some ⟨P2, 0, none⟩) ∧ TabAt w P1 fixedL ∧ TabAt w P2 (List.replicate 32 5))
theorem FixAt.fl {x : Cx} {w w' : World} {p3 p4 : Value} {q3 q4 : Value} {a : Acc} {N L : Nat} (h : FixAt w p3 p4) (hd : DecS x w q3 q4 a N L) (hf : Fl x w w') : FixAt w' p3 p4 := by
  rcases h with h | ⟨P1, P2, e1, e2, h1, h2⟩
  · exact .inl h
  · exact .inr ⟨P1, P2, e1, e2, h1.fl hd hf, h2.fl hd hf⟩
/-- What fixedCodes answers. -/
def FixedIs (x : Cx) (a : Acc) (N L : Nat) (w : World) (e : Ending) (w' : World) : Prop :=
  ∃ P1 P2, e = .returned (.agg #[.pointer (some ⟨P1, 0, none⟩), .pointer (some ⟨P2, 0, none⟩)]) ∧ DecS x w' (.pointer (some ⟨P1, 0, none⟩)) (.pointer (some ⟨P2, 0, none⟩)) a N L ∧ Fl x w w' ∧ TabAt w' P1 fixedL ∧ TabAt w' P2 (List.replicate 32 5)
theorem Fl.setNew {x : Cx} {w w' : World} (h : Fl x w w') {g : Nat} (hg : w.heap.size ≤ g) (i : Nat) (u : Value) : Fl x w (w'.setCell ⟨g, i, none⟩ u) := Fr.set h (p := ⟨g, i, none⟩) (fun hh => absurd hh (by show ¬ g < w.heap.size; omega)) u
theorem DecS.setOff {x : Cx} {w : World} {p3 p4 : Value} {a : Acc} {N L g : Nat} {cs : Array Value} (h : DecS x w p3 p4 a N L) (hg : Whole w g 64 cs) (i : Nat) (u : Value) : DecS x (w.setCell ⟨g, i, none⟩ u) p3 p4 a N L := by
  obtain ⟨rc, hrw⟩ := h.rd.whole
  obtain ⟨v, hw, ho⟩ := h.whole
  have hf : Fr (fun k => k = g) w (w.setCell ⟨g, i, none⟩ u) := (Fr.refl _ _).setB i u
  exact ⟨⟨v, hw.frame hf (hw.apart hg (by decide)), own_set ho hg (by decide) i u⟩, h.rd.fr2 hf (hrw.apart hg (by decide)) (fun cs hc => hc.apart hg (by decide)), h.lens.fr hf (fun k cs hk => hk.apart hg (by decide)), h.dist.fr hf (fun k cs hk => hk.apart hg (by decide)), Nat.lt_of_lt_of_le h.rR hf.size, ⟨h.low.1, h.low.2.1, Nat.le_trans h.low.2.2 hf.size⟩, h.few, h.most, h.made⟩
set_option maxRecDepth 100000 in
set_option maxHeartbeats 2000000 in
theorem fixedC_any (x : Cx) (p3 p4 : Value) (a : Acc) (N L : Nat) (w : World) (h : DecS x w p3 p4 a N L) (hx : FixAt w p3 p4) :
    Calls Tryd.prog 54 #[.pointer (some ⟨x.D, 0, none⟩)] w (FixedIs x a N L w) := by
  obtain ⟨wA, hwA⟩ : ∃ wA, w.alloc (.cells #[.pointer none, .pointer none] 64) = wA := ⟨_, rfl⟩
  have hbA : Below w.heap.size w wA := by rw [← hwA]; exact (Below.refl _ _).alloc (Nat.le_refl _) _
  have HG := Lib.hid (show Whole wA w.heap.size 64 #[.pointer none, .pointer none] by rw [← hwA]; exact Whole.made _ _ _)
  have HA := Lib.hid (h.later hbA)
  have HX := Lib.hid (hx.fl h (Fl.new hbA))
  have HFA := Lib.hid (Fl.new (x := x) hbA)
  clear h hx hbA
  rcases HX.out with ⟨rfl, rfl⟩ | ⟨P1, P2, rfl, rfl, ht1, ht2⟩
  · obtain ⟨lD, -, -, -, q3, -, -, -⟩ := HA.out.cells
    have HFX := Lib.hid (fixed_any wA)
    clear HX
    go_enter Tryd.func54, Tryd.ntmps54
    go_wp2_with fail
    refine HFX.out.mono ?_
    rintro e w1 ⟨v, rfl, hown, hb⟩
    obtain ⟨A1, c1, rfl, hi⟩ := IntsAt.of_own hown
    have H1 := Lib.hid (And.intro (HA.out.later hb) (And.intro (HFA.out.trans (Fl.new hb)) (HG.out.here hb)))
    have HI := Lib.hid hi
    clear hown hb hi q3 lD HFX
    go_wp2_with fail
    refine (make_is _ _ _ fixedL _ HI.out).mono ?_
    rintro e w2 ⟨p, E, rfl, hb, hv⟩
    obtain ⟨rfl, -, P1, rfl, ht⟩ : E = 0 ∧ makeP fixedL = rtn () ∧ ∃ P, p = some P ∧ TabAt w2 P fixedL := by
      rcases hv with hv | ⟨-, -, hv⟩
      · exact hv
      · rw [makeP_fixed] at hv; exact (rtn_ne_bad hv).elim
    have hd2 := H1.out.1.later hb
    have hG2 := H1.out.2.2.here hb
    have hF2 := H1.out.2.1.trans (Fl.new hb)
    obtain ⟨lD, -, -, -, q3, -, -, -⟩ := hd2.cells
    obtain ⟨v2, hw2, ho2⟩ := hd2.whole
    have ft := hw2.thawed
    obtain ⟨hd3, hf3⟩ := hd2.setD (q3 := .pointer (some ⟨P1, 0, none⟩)) (q4 := .pointer none) 3 (.pointer (some ⟨P1, 0, none⟩)) (fun v => by simp [decV])
    have H3 := Lib.hid (And.intro hd3 (And.intro (hF2.trans hf3) (And.intro (hG2.away (p := ⟨x.D, 3, none⟩) (hG2.apart hw2 (by decide)) (.pointer (some ⟨P1, 0, none⟩))) (ht.set hw2 (by decide) (by decide) (by decide) 3 (.pointer (some ⟨P1, 0, none⟩))))))
    clear hv ht hd2 hG2 hF2 hw2 ho2 hd3 hf3 hb
    obtain ⟨w3, hw3⟩ : ∃ w3, w2.setCell ⟨x.D, 3, none⟩ (.pointer (some ⟨P1, 0, none⟩)) = w3 := ⟨_, rfl⟩
    rw [hw3] at H3
    obtain ⟨w4, hw4⟩ : ∃ w4, w3.alloc (.cells #[.int .i64 5] 3) = w4 := ⟨_, rfl⟩
    have hb4 : Below w3.heap.size w3 w4 := by rw [← hw4]; exact (Below.refl _ _).alloc (Nat.le_refl _) _
    have hwf : Whole w4 w3.heap.size 3 (iiv [5]).toArray := by rw [← hw4]; exact Whole.made _ _ _
    have H4 := Lib.hid (And.intro (H3.out.1.later hb4) (And.intro (H3.out.2.1.trans (Fl.new hb4)) (And.intro (H3.out.2.2.1.here hb4) (H3.out.2.2.2.here hb4))))
    have HRP := Lib.hid (repeat_any (some ⟨w3.heap.size, 0, none⟩) 1 5 32 w4 (IntsAt.of_whole hwf (by decide)) (by decide) (by decide))
    clear hb4 hwf
    go_wp2_with fail
    refine HRP.out.mono ?_
    rintro e w5 ⟨G5, rfl, -, hw5, hb⟩
    have H5 := Lib.hid (And.intro (H4.out.1.later hb) (And.intro (H4.out.2.1.trans (Fl.new hb)) (And.intro (H4.out.2.2.1.here hb) (H4.out.2.2.2.here hb))))
    have HI5 := Lib.hid (IntsAt.of_whole hw5 (by decide))
    rw [List.length_replicate] at HI5
    clear hb hw5 q3 ft lD
    go_wp2_with fail
    refine (make_is _ _ _ (List.replicate 32 5) _ HI5.out).mono ?_
    rintro e w6 ⟨p, E, rfl, hb, hv⟩
    obtain ⟨rfl, -, P2, rfl, ht⟩ : E = 0 ∧ makeP (List.replicate 32 5) = rtn () ∧ ∃ P, p = some P ∧ TabAt w6 P (List.replicate 32 5) := by
      rcases hv with hv | ⟨-, -, hv⟩
      · exact hv
      · rw [makeP_five] at hv; exact (rtn_ne_bad hv).elim
    have hd6 := H5.out.1.later hb
    have hG6 := H5.out.2.2.1.here hb
    have ht1 := H5.out.2.2.2.here hb
    have hF6 := H5.out.2.1.trans (Fl.new hb)
    obtain ⟨lD, -, -, -, q3, q4, -, -⟩ := hd6.cells
    obtain ⟨v6, hw6, ho6⟩ := hd6.whole
    have ft := hw6.thawed
    obtain ⟨hd7, hf7⟩ := hd6.setD (q3 := .pointer (some ⟨P1, 0, none⟩)) (q4 := .pointer (some ⟨P2, 0, none⟩)) 4 (.pointer (some ⟨P2, 0, none⟩)) (fun v => by simp [decV])
    have hG7 := hG6.away (p := ⟨x.D, 4, none⟩) (hG6.apart hw6 (by decide)) (.pointer (some ⟨P2, 0, none⟩))
    have H7 := Lib.hid (And.intro hd7 (And.intro (hF6.trans hf7) (And.intro hG7 (And.intro (ht1.set hw6 (by decide) (by decide) (by decide) 4 (.pointer (some ⟨P2, 0, none⟩))) (ht.set hw6 (by decide) (by decide) (by decide) 4 (.pointer (some ⟨P2, 0, none⟩)))))))
    have ftG := hG6.thawed
    have rdG := hG6.reads
    have lG := hG6.lt
    have hDG : x.D ≠ w.heap.size := hw6.apart hG6 (by decide)
    clear hv ht hd6 hF6 hw6 ho6 hd7 hf7 hb hG6 hG7 ht1
    go_wp2_with fail
    have hW1 := H7.out.2.2.1.set 0 (.pointer (some ⟨P1, 0, none⟩))
    have hW2 := hW1.set 1 (.pointer (some ⟨P2, 0, none⟩))
    refine bodyPost_ret (v := .agg #[.pointer (some ⟨P1, 0, none⟩), .pointer (some ⟨P2, 0, none⟩)]) (results_fx _ _ w.heap.size _ _ rfl (hW2.reads 0) (hW2.reads 1)) rfl ⟨P1, P2, rfl, ?_, ?_, ?_, ?_⟩
    · exact (H7.out.1.setOff H7.out.2.2.1 0 _).setOff hW1 1 _
    · exact (H7.out.2.1.setNew (Nat.le_refl _) 0 _).setNew (Nat.le_refl _) 1 _
    · exact (H7.out.2.2.2.1.set H7.out.2.2.1 (by decide) (by decide) (by decide) 0 _).set hW1 (by decide) (by decide) (by decide) 1 _
    · exact (H7.out.2.2.2.2.set H7.out.2.2.1 (by decide) (by decide) (by decide) 0 _).set hW1 (by decide) (by decide) (by decide) 1 _
  · obtain ⟨lD, -, -, -, q3, q4, -, -⟩ := HA.out.cells
    have ftG := HG.out.thawed
    have rdG := HG.out.reads
    have lG := HG.out.lt
    have HT := Lib.hid (And.intro ht1 ht2)
    clear ht1 ht2 HX
    go_enter Tryd.func54, Tryd.ntmps54
    go_wp2_with fail
    have hW1 := HG.out.set 0 (.pointer (some ⟨P1, 0, none⟩))
    have hW2 := hW1.set 1 (.pointer (some ⟨P2, 0, none⟩))
    refine bodyPost_ret (v := .agg #[.pointer (some ⟨P1, 0, none⟩), .pointer (some ⟨P2, 0, none⟩)]) (results_fx _ _ w.heap.size _ _ rfl (hW2.reads 0) (hW2.reads 1)) rfl ⟨P1, P2, rfl, ?_, ?_, ?_, ?_⟩
    · exact (HA.out.setOff HG.out 0 _).setOff hW1 1 _
    · exact (HFA.out.setNew (Nat.le_refl _) 0 _).setNew (Nat.le_refl _) 1 _
    · exact (HT.out.1.set HG.out (by decide) (by decide) (by decide) 0 _).set hW1 (by decide) (by decide) (by decide) 1 _
    · exact (HT.out.2.set HG.out (by decide) (by decide) (by decide) 0 _).set hW1 (by decide) (by decide) (by decide) 1 _
end Go.Proofs.YtnjdnldoopgcpaaDoor
