/- inflate: match, fields. -/
import Derived.Test.YtnjdnldoopgcpaaDoorInfD
namespace Go.Proofs.YtnjdnldoopgcpaaDoor
open Go.RowKit

theorem DecS.cells {x : Cx} {w : World} {p3 p4 : Value} {a : Acc} {N L : Nat} (h : DecS x w p3 p4 a N L) : x.D < w.heap.size ∧ w.cell? ⟨x.D, 0, none⟩ = some (.pointer (some ⟨x.B, 0, none⟩)) ∧ w.cell? ⟨x.D, 1, none⟩ = some (.slice x.aL 29 x.cL) ∧ w.cell? ⟨x.D, 2, none⟩ = some (.slice x.aD 30 x.cD) ∧
    w.cell? ⟨x.D, 3, none⟩ = some p3 ∧ w.cell? ⟨x.D, 4, none⟩ = some p4 ∧ w.cell? ⟨x.D, 5, none⟩ = some (.int .i64 x.most) ∧ w.cell? ⟨x.D, 6, none⟩ = some (.int .i64 a.made) := by
  obtain ⟨v, hw, -⟩ := h.whole
  exact ⟨hw.lt, hw.reads 0, hw.reads 1, hw.reads 2, hw.reads 3, hw.reads 4, hw.reads 5, hw.reads 6⟩
theorem DecS.apart {x : Cx} {w : World} {p3 p4 : Value} {a : Acc} {N L : Nat} (h : DecS x w p3 p4 a N L) : x.D ≠ x.B := by
  obtain ⟨v, hw, -⟩ := h.whole
  obtain ⟨rc, hrw⟩ := h.rd.whole
  exact hw.apart hrw (by decide)
theorem lensT_ok : ∀ p ∈ lensT, p.1 ≤ 40000 ∧ p.2 ≤ 13 := by decide +kernel
theorem distT_ok : ∀ p ∈ distT, p.1 ≤ 40000 ∧ p.2 ≤ 13 := by decide +kernel
set_option maxRecDepth 100000 in
set_option maxHeartbeats 4000000 in
theorem match_any (x : Cx) (p3 p4 : Value) (a : Acc) (N L s P : Nat) (ds : List Int) (w : World) (h : DecS x w p3 p4 a N L) (ht : TabAt w P ds) (hs : s ≤ 100000) :
    Calls Tryd.prog 77 #[.pointer (some ⟨x.D, 0, none⟩), .int .i64 (s : Int), .pointer (some ⟨P, 0, none⟩)] w (StepIs x p3 p4 N L (matchP x.most ds s a) w) := by
  have hds := ht.1
  have HN := Lib.hid (number_any x p3 p4 a N L x.aL 29 x.cL lensT s w h h.lens hs lensT_ok)
  obtain ⟨lD, -, q1, -, -, -, -, -⟩ := h.cells
  have H := Lib.hid h
  have HT := Lib.hid ht
  clear h ht
  go_enter Tryd.func77, Tryd.ntmps77
  go_wp2_with fail
  refine HN.out.mono ?_
  rintro e w1 ⟨n1, E, rfl, hf, hv⟩
  have HF1 := Lib.hid (Fl.ofB hf)
  rcases hv with ⟨rfl, N1, L1, hp, hL, hle, hr⟩ | ⟨hE, rfl, hp⟩
  rotate_left
  · have d1 : (E != 0) = true := by simp [hE]
    have HP := Lib.hid hp
    clear hf hp
    go_wp2_with fail
    go_ret
    exact .inr ⟨E, by unfold matchP; rw [bnd_er HP.out], hE, rfl, HF1.out⟩
  have H1 := Lib.hid (H.out.keep hf hr hL)
  have HT1 := Lib.hid (HT.out.fl H.out HF1.out)
  have HP1 := Lib.hid (And.intro hp hL)
  clear hf hr hp hL HN q1 lD
  obtain ⟨lD, q0, -, -, -, -, -, -⟩ := H1.out.cells
  go_wp2_with fail
  refine (sym_is HT1.out H1.out.rd).mono ?_
  rintro e w2 ⟨s2, E, rfl, hf, hv⟩
  have HF2 := Lib.hid (HF1.out.trans (Fl.ofB hf))
  rcases hv with ⟨rfl, N2, L2, hp, hs2, hL, hr⟩ | ⟨hE, rfl, hp⟩
  rotate_left
  · have d1 : (E != 0) = true := by simp [hE]
    have HP := Lib.hid hp
    clear hf hp
    go_wp2_with fail
    go_ret
    exact .inr ⟨E, by unfold matchP; rw [bnd_ok HP1.out.1, bnd_er HP.out], hE, rfl, HF2.out⟩
  have H2 := Lib.hid (H1.out.keep hf hr (by omega))
  have HP2 := Lib.hid (And.intro hp hL)
  clear hf hr hp hL q0 lD
  obtain ⟨lD, -, -, q2, -, -, -, -⟩ := H2.out.cells
  go_wp2_with fail
  refine (number_any x p3 p4 a N2 L2 x.aD 30 x.cD distT s2 _ H2.out H2.out.dist (by omega) distT_ok).mono ?_
  rintro e w3 ⟨n3, E, rfl, hf, hv⟩
  have HF3 := Lib.hid (HF2.out.trans (Fl.ofB hf))
  rcases hv with ⟨rfl, N3, L3, hp, hL, hle3, hr⟩ | ⟨hE, rfl, hp⟩
  rotate_left
  · have d1 : (E != 0) = true := by simp [hE]
    have HP := Lib.hid hp
    clear hf hp
    go_wp2_with fail
    go_ret
    exact .inr ⟨E, by unfold matchP; rw [bnd_ok HP1.out.1, bnd_ok HP2.out.1, bnd_er HP.out], hE, rfl, HF3.out⟩
  have H3 := Lib.hid (H2.out.keep hf hr hL)
  have HP3 := Lib.hid (And.intro hp hL)
  clear hf hr hp hL q2 lD
  obtain ⟨lD, -, -, -, -, -, -, q6⟩ := H3.out.cells
  have HM := Lib.hid (show matchP x.most ds s a N L = (if a.made < (n3 : Int) then bad 4 else addP x.most ⟨0, n1, n3⟩ a : Ps Acc) N3 L3 by unfold matchP; rw [bnd_ok HP1.out.1, bnd_ok HP2.out.1, bnd_ok HP3.out.1])
  by_cases hbk : a.made < (n3 : Int)
  · have d1 : decide ((n3 : Int) > a.made) = true := decide_eq_true hbk
    rw [if_pos hbk] at HM
    go_wp2_with fail
    go_ret
    exact .inr ⟨4, HM.out, by decide, rfl, HF3.out⟩
  · have d1 : decide ((n3 : Int) > a.made) = false := decide_eq_false hbk
    rw [if_neg hbk] at HM
    have HA := Lib.hid (add_any x p3 p4 a N3 L3 ⟨0, n1, n3⟩ w3 H3.out)
    go_wp2_with fail
    refine HA.out.mono ?_
    rintro e w4 hst
    have HST := Lib.hid hst
    clear hst
    rcases HST.out with ⟨a', N', L', hp, rfl, hL, hd, hf⟩ | ⟨E, hp, hE, rfl, hf⟩
    · have HZ := Lib.hid (And.intro hd (HF3.out.trans hf))
      have HL := Lib.hid hL
      have HPZ := Lib.hid hp
      clear hd hf hL hp
      go_wp2_with fail
      go_ret
      exact .inl ⟨a', N', L', by rw [HM.out]; exact HPZ.out, rfl, by have := HP1.out.2; have := HP2.out.2; have := HP3.out.2; have := HL.out; omega, HZ.out.1, HZ.out.2⟩
    · have HZ := Lib.hid (HF3.out.trans hf)
      have HPZ := Lib.hid hp
      clear hf hp
      go_wp2_with fail
      go_ret
      exact .inr ⟨E, by rw [HM.out]; exact HPZ.out, hE, rfl, HZ.out⟩
/-- A row that is filled from its beginning. -/
def fillA (vs : List Nat) (n : Nat) : Array Value := (vs.map (fun v : Nat => Value.int .i64 (v : Int)) ++ List.replicate (n - vs.length) (Value.int .i64 0)).toArray
theorem fillA_step {vs : List Nat} {n v : Nat} (h : vs.length < n) : (fillA vs n).setIfInBounds vs.length (.int .i64 (v : Int)) = fillA (vs ++ [v]) n := by
  unfold fillA
  obtain ⟨m, hm⟩ : ∃ m, n - vs.length = m + 1 := ⟨n - vs.length - 1, by omega⟩
  rw [hm, List.setIfInBounds_toArray, List.set_append_right _ _ (by rw [List.length_map]; exact Nat.le_refl _), List.length_map, Nat.sub_self, List.replicate_succ, List.set_cons_zero, List.map_append, List.length_append, show n - (vs.length + [v].length) = m by simp; omega, List.append_assoc]
  rfl
theorem fillA_zero (n : Nat) : madeCells #[.int .i64 0] n = fillA [] n := by
  apply Array.ext
  · simp [madeCells, fillA]
  · intro i h1 h2
    simp [madeCells, fillA, Nat.mod_one]
theorem fillA_full (vs : List Nat) : fillA vs vs.length = (iiv (vs.map Int.ofNat)).toArray := by
  unfold fillA iiv
  rw [Nat.sub_self, List.replicate_zero, List.append_nil, List.map_map]
  rfl
def preR (vs : List Nat) : Except Int (List Nat × Nat × Nat) → Except Int (List Nat × Nat × Nat)
  | .ok (us, N, L) => .ok (vs ++ us, N, L)
  | .error e => .error e
/-- What fields answers. -/
def FieldsIs (x : Cx) (N L : Nat) (ks : List Nat) (w : World) (e : Ending) (w' : World) : Prop :=
  ∃ (A : Option Addr) (c : Nat) (vs : List Nat) (E : Int), e = .returned (.tuple #[.slice A vs.length c, .int .i64 E]) ∧ Fr (fun k => k = x.B) w w' ∧
    ((E = 0 ∧ ∃ N' L' G, fieldsP ks N L = .ok (vs, N', L') ∧ vs.length = ks.length ∧ L' ≤ L ∧ RD w' x.B x.R N' L' ∧ A = some ⟨G, 0, none⟩ ∧ w.heap.size ≤ G ∧ c = vs.length ∧ Whole w' G 3 (fillA vs vs.length) ∧ ∀ v ∈ vs, v < 16777216) ∨ (E ≠ 0 ∧ vs = [] ∧ fieldsP ks N L = .error E))
theorem fields_step {ks : List Nat} {i k : Nat} (h : ks[i]? = some k) : fieldsP (ks.drop i) = bnd (bitsP k) fun v => bnd (fieldsP (ks.drop (i + 1))) fun vs => rtn (v :: vs) := by
  have hi := (List.getElem?_eq_some_iff.1 h).1
  have he := (List.getElem?_eq_some_iff.1 h).2
  rw [List.drop_eq_getElem_cons hi, he, fieldsP]
set_option maxRecDepth 100000 in
set_option maxHeartbeats 4000000 in
theorem fields_any (x : Cx) (p3 p4 : Value) (a : Acc) (N L : Nat) (A : Option Addr) (n c : Nat) (ks : List Nat) (w : World) (h : DecS x w p3 p4 a N L) (hk : IntsAt w A n c (ks.map Int.ofNat)) (hA : ∀ R o, A = some ⟨R, o, none⟩ → R ≠ x.B) (h24 : ∀ k ∈ ks, k ≤ 24) (hn : n ≤ 1000) :
    Calls Tryd.prog 52 #[.pointer (some ⟨x.D, 0, none⟩), .slice A n c] w (FieldsIs x N L ks w) := by
  have hl := hk.len
  rw [List.length_map] at hl
  have hcap := hk.cap
  have htop := hk.top
  have hmk := fun W => run_make_row' (P := Tryd.prog) 74 3 (.int .i64 0) 8 Tryd.underlying74 (by kernel_rfl) rfl .i64 .i64 n (by omega) (by omega) W
  have H := Lib.hid h
  have HK := Lib.hid (And.intro hk (And.intro hA h24))
  have hf0 : Fr (fun k => k = x.B) w (w.alloc (.cells (madeCells #[.int .i64 0] n) 3)) := (Fr.refl _ _).alloc _
  have H0 := Lib.hid (show Whole (w.alloc (.cells (madeCells #[.int .i64 0] n) 3)) w.heap.size 3 (fillA [] n) ∧ Fr (fun k => k = x.B) w (w.alloc (.cells (madeCells #[.int .i64 0] n) 3)) ∧ RD (w.alloc (.cells (madeCells #[.int .i64 0] n) 3)) x.B x.R N L ∧ L ≤ L from
    ⟨by rw [← fillA_zero]; exact Whole.made _ _ _, hf0, (h.later ((Below.refl _ _).alloc (Nat.le_refl _) _)).rd, Nat.le_refl _⟩)
  have hDB := h.apart
  obtain ⟨lD, q0, -, -, -, -, -, -⟩ := h.cells
  have HQ := Lib.hid (And.intro lD q0)
  clear h hk hA hf0 lD q0
  go_enter Tryd.func52, Tryd.ntmps52
  go_wp2_with fail
  go_loopw [16] (fun s16 wr => ∃ (i : Nat) (vs : List Nat) (N' L' : Nat), s16 = .int .i64 (i : Int) ∧ i ≤ n ∧ vs.length = i ∧ Hid (fieldsP ks N L = preR vs (fieldsP (ks.drop i) N' L')) ∧ Hid (Whole wr w.heap.size 3 (fillA vs n) ∧ Fr (fun k => k = x.B) w wr ∧ RD wr x.B x.R N' L' ∧ L' ≤ L) ∧ Hid (∀ v ∈ vs, v < 16777216)) (fun s16 _ => n - (intOf s16).toNat)
  case atStart => exact ⟨0, [], N, L, rfl, by omega, rfl, Lib.hid (by rw [List.drop_zero]; cases fieldsP ks N L with
    | ok r => obtain ⟨us, N', L'⟩ := r; rfl
    | error e => rfl), H0, Lib.hid (by simp)⟩
  case round =>
    clear H0
    obtain ⟨i, vs, N', L', rfl, hi, hvl, HF, HR, HV⟩ := hrel
    by_cases hlt : i < n
    · have d1 : decide ((i : Int) < (n : Int)) = true := decide_eq_true (by omega)
      obtain ⟨k, hk⟩ : ∃ k, ks[i]? = some k := ⟨_, List.getElem?_eq_getElem (by omega)⟩
      have hk24 := h24 k (List.mem_of_getElem? hk)
      have HST := Lib.hid (fields_step hk)
      obtain ⟨R, o, rfl, hR, hc⟩ := HK.out.1.at_ (by omega)
      have hRB := HK.out.2.1 R o rfl
      have f1 := (HR.out.2.1.cell' (p := ⟨R, o + i, none⟩) hRB hR).trans (hc i (k : Int) (by rw [List.getElem?_map, hk]; rfl))
      have q0 := (HR.out.2.1.cell' (p := ⟨x.D, 0, none⟩) hDB HQ.out.1).trans HQ.out.2
      have lD : x.D < w.heap.size := HQ.out.1
      have HB := Lib.hid (bits_is x.B x.R N' L' k _ HR.out.2.2.1 hk24)
      have b1 : (0 : Int) ≤ (i : Int) := by omega
      have b2 : (i : Int) < (n : Int) := by omega
      clear hk hc
      go_wp2_with fail
      refine HB.out.mono ?_
      rintro e w1 ⟨v, E, rfl, hf, hv⟩
      have HF1 := Lib.hid (HR.out.2.1.trans hf (fun _ _ e => e))
      rcases hv with ⟨rfl, N1, L1, hp, hL, hvk, hr⟩ | ⟨hE, rfl, hp⟩
      · have hG := HR.out.1.frame hf (by have := (H.out.rd.whole); obtain ⟨rc, hrw⟩ := this; have := hrw.lt; omega)
        have hG2 := hG.set i (.int .i64 (v : Int))
        have ht := hG.thawed
        have hg := hG.reads i
        have lG := hG.lt
        have hfl : (fillA vs n).setIfInBounds i (.int .i64 (v : Int)) = fillA (vs ++ [v]) n := by rw [← hvl]; exact fillA_step (by omega)
        rw [hfl] at hG2
        have hcell : ∃ u, w1.cell? ⟨w.heap.size, i, none⟩ = some u := by
          refine ⟨_, hg.trans (Array.getElem?_eq_getElem (by unfold fillA; simp; omega))⟩
        obtain ⟨u, hu⟩ := hcell
        have hpow : (2 : Nat) ^ k ≤ 16777216 := Nat.le_trans (Nat.pow_le_pow_right (by decide) hk24) (by decide)
        have HN := Lib.hid (And.intro (show fieldsP ks N L = preR (vs ++ [v]) (fieldsP (ks.drop (i + 1)) N1 L1) by
          rw [HF.out, HST.out, bnd_ok hp]
          cases hq : fieldsP (ks.drop (i + 1)) N1 L1 with
          | ok r => obtain ⟨us, N2, L2⟩ := r; rw [bnd_ok hq]; simp [rtn, preR]
          | error e => rw [bnd_er hq]; rfl) (And.intro hG2 (And.intro (HF1.out.set (p := ⟨w.heap.size, i, none⟩) (fun hh => absurd hh (by simp)) (.int .i64 (v : Int))) (And.intro (hr.fr2 ((Fr.refl (fun k => k = w.heap.size) w1).setB i (.int .i64 (v : Int))) (by have := (H.out.rd.whole); obtain ⟨rc, hrw⟩ := this; have := hrw.lt; omega) (fun cs hc e => by rw [e] at hc; exact hc.apart hG (by decide) rfl)) hL))))
        clear hG hG2 hg hr hp hf
        go_wp2_with fail
        go_roundw
        case rel => exact ⟨i + 1, vs ++ [v], N1, L1, by go_num, by omega, by rw [List.length_append, hvl]; rfl, Lib.hid HN.out.1, Lib.hid ⟨HN.out.2.1, HN.out.2.2.1, HN.out.2.2.2.1, Nat.le_trans HN.out.2.2.2.2 HR.out.2.2.2⟩, Lib.hid (fun z hz => by
          rcases List.mem_append.1 hz with hz | hz
          · exact HV.out z hz
          · rw [List.mem_singleton] at hz; omega)⟩
        case measure => simp [intOf]; omega
      · have d2 : (E != 0) = true := by simp [hE]
        have HN := Lib.hid (show fieldsP ks N L = .error E by rw [HF.out, HST.out, bnd_er hp]; rfl)
        clear hp hf
        go_wp2_with fail
        go_ret2
        exact ⟨none, 0, [], E, rfl, HF1.out, .inr ⟨hE, rfl, HN.out⟩⟩
    · obtain rfl : i = n := by omega
      have d1 : decide ((i : Int) < (i : Int)) = false := by simp
      have HN := Lib.hid (show fieldsP ks N L = .ok (vs, N', L') by
        rw [HF.out, List.drop_of_length_le (by omega)]
        simp [fieldsP, rtn, preR])
      go_wp2_with fail
      go_ret2
      exact ⟨some ⟨w.heap.size, 0, none⟩, i, vs, 0, by rw [hvl]; rfl, HR.out.2.1, .inl ⟨rfl, N', L', w.heap.size, HN.out, by omega, HR.out.2.2.2, HR.out.2.2.1, rfl, Nat.le_refl _, hvl.symm, by have := HR.out.1; rw [← hvl] at this; exact this, HV.out⟩⟩
end Go.Proofs.YtnjdnldoopgcpaaDoor
/- inflate: compressed. -/
namespace Go.Proofs.YtnjdnldoopgcpaaDoor
open Go.RowKit

theorem Whole.fl {x : Cx} {w w' : World} {p3 p4 : Value} {a : Acc} {N L k : Nat} {T : TypeId} {cs : Array Value} (h : Whole w k T cs) (hd : DecS x w p3 p4 a N L) (hf : Fl x w w') (h1 : T ≠ 104) (h2 : T ≠ 66) (h3 : T ≠ 48) : Whole w' k T cs := by
  obtain ⟨rc, hrw⟩ := hd.rd.whole
  obtain ⟨v', hw, ho⟩ := hd.whole
  refine h.frame hf (fun hs => ?_)
  rcases hs with e | e | ⟨-, cs', hw'⟩
  · exact h.apart hrw h1 e
  · exact h.apart hw h2 e
  · exact h.apart hw' h3 rfl
theorem TabAt.drew {w : World} {P : Nat} {l : List Int} (h : TabAt w P l) : TabAt w.drew P l := by
  obtain ⟨hl, base, G, v, ht⟩ := h
  exact ⟨hl, base, G, v, ht.sz, ht.whole, ht.own, ht.words⟩
set_option maxRecDepth 100000 in
set_option maxHeartbeats 4000000 in
theorem syms_any (x : Cx) (p3 p4 : Value) (a : Acc) (N L P1 P2 : Nat) (ls ds : List Int) (w : World) (h : DecS x w p3 p4 a N L) (h1 : TabAt w P1 ls) (h2 : TabAt w P2 ds) :
    Calls Tryd.prog 56 #[.pointer (some ⟨x.D, 0, none⟩), .agg #[.pointer (some ⟨P1, 0, none⟩), .pointer (some ⟨P2, 0, none⟩)]] w (StepIs x p3 p4 N L (symsP x.most ls ds FUEL a) w) := by
  have hls := h1.1
  have hfew : L < FUEL := by have := h.few; unfold FUEL; omega
  obtain ⟨wA, hwA⟩ : ∃ wA, w.alloc (.cells #[.pointer (some ⟨P1, 0, none⟩), .pointer (some ⟨P2, 0, none⟩)] 64) = wA := ⟨_, rfl⟩
  have hbA : Below w.heap.size w wA := by rw [← hwA]; exact (Below.refl _ _).alloc (Nat.le_refl _) _
  have HC0 := Lib.hid (show Whole wA w.heap.size 64 #[.pointer (some ⟨P1, 0, none⟩), .pointer (some ⟨P2, 0, none⟩)] by rw [← hwA]; exact Whole.made _ _ _)
  have HA := Lib.hid (h.later hbA)
  have HT := Lib.hid (And.intro (h1.fl h (Fl.new hbA)) (h2.fl h (Fl.new hbA)))
  have HFA := Lib.hid (Fl.new (x := x) hbA)
  clear h h1 h2 hbA
  go_enter Tryd.func56, Tryd.ntmps56
  go_wp2_with fail
  go_step3
  go_wp2_with fail
  go_step3
  go_wp2_with fail
  go_loopg [5, 6] L (fun g _ _ wr => ∃ (a' : Acc) (N' f : Nat), g < f ∧ g ≤ L ∧ Hid (symsP x.most ls ds FUEL a N L = symsP x.most ls ds f a' N' g) ∧ Hid (DecS x wr p3 p4 a' N' g) ∧ Hid (Fl x wA wr))
  case atStart => exact ⟨a, N, FUEL, hfew, Nat.le_refl _, Lib.hid rfl, HA, Lib.hid (Fl.refl _ _)⟩
  case round =>
    obtain ⟨a', N', f, hgf, hgL, HF, HD, HL⟩ := hrel
    obtain ⟨f', rfl⟩ : ∃ f', f = f' + 1 := ⟨f - 1, by omega⟩
    have hC := HC0.out.fl HA.out HL.out (by decide) (by decide) (by decide)
    have HT1 := Lib.hid (HT.out.1.fl HA.out HL.out)
    have HT2 := Lib.hid (HT.out.2.fl HA.out HL.out)
    have HFW := Lib.hid (HFA.out.trans HL.out)
    obtain ⟨lD, q0, -, -, -, -, -, -⟩ := HD.out.cells
    obtain ⟨rc, hrw⟩ := HD.out.rd.whole
    have c0 : wr.cell? ⟨w.heap.size, 0, none⟩ = some (.pointer (some ⟨P1, 0, none⟩)) := hC.reads 0
    have HQ := Lib.hid (And.intro (hC.apart hrw (by decide)) (And.intro hC.lt (And.intro c0 (And.intro HD.out.apart (And.intro lD q0)))))
    have HCW := Lib.hid hC
    have HC := Lib.hid (sym_is HT1.out.drew HD.out.rd.drew)
    clear hC lD q0 c0 hrw
    go_upto_region 1 with fail
    have HCC : Hid (∀ v, Fr (fun k => k = x.B) wr v → (fun v => v.cell? ⟨w.heap.size, 0, none⟩ = some (.pointer (some ⟨P1, 0, none⟩)) ∧ v.cell? ⟨x.D, 0, none⟩ = some (.pointer (some ⟨x.B, 0, none⟩))) v) := Lib.hid (fun v hb => ⟨(hb.cell' HQ.out.1 HQ.out.2.1).trans HQ.out.2.2.1, (hb.cell' HQ.out.2.2.2.1 HQ.out.2.2.2.2.1).trans HQ.out.2.2.2.2.2⟩)
    have hbd : Fr (fun k => k = x.B) wr wr.drew := (Fr.refl _ _).drew
    have hS := HCC.out wr.drew hbd
    refine wp_region_C (fun v => v.cell? ⟨w.heap.size, 0, none⟩ = some (.pointer (some ⟨P1, 0, none⟩)) ∧ v.cell? ⟨x.D, 0, none⟩ = some (.pointer (some ⟨x.B, 0, none⟩))) (by kernel_rfl) ?_
    refine wpAnyC_take (i := 0) (v := ?v1) rfl (by kernel_rfl) (fun _ _ _ h => h) (Or.inl ⟨by rfl, ?y1⟩) hS ?r1
    case y1 => intro wq _; go_simp; all_goals (first | with_reducible rfl | go_num | (simp; done) | (simp; omega) | skip)
    try simp only [Act.put, List.setIfInBounds_toArray, List.set_cons_zero, List.set_cons_succ]
    refine wpAnyC_take (i := 1) (v := .pointer (some ⟨P1, 0, none⟩)) rfl (by kernel_rfl) (fun _ _ _ h => h) (Or.inl ⟨by rfl, ?y2⟩) hS ?r2
    case y2 => rintro wq ⟨c0, -⟩; go_simp; try with_reducible rfl
    try simp only [Act.put, List.setIfInBounds_toArray, List.set_cons_zero, List.set_cons_succ]
    refine wpAnyC_take (i := 2) (v := ?v3) rfl (by kernel_rfl) (fun _ _ _ h => h) (Or.inl ⟨by rfl, ?y3⟩) hS ?r3
    case y3 => intro wq _; go_simp; all_goals (first | with_reducible rfl | go_num | (simp; done) | (simp; omega) | skip)
    try simp only [Act.put, List.setIfInBounds_toArray, List.set_cons_zero, List.set_cons_succ]
    refine wpAnyC_take (i := 3) (v := ?v4) rfl (by kernel_rfl) (fun _ _ _ h => h) (Or.inl ⟨by rfl, ?y4⟩) hS ?r4
    case y4 => intro wq _; go_simp; all_goals (first | with_reducible rfl | go_num | (simp; done) | (simp; omega) | skip)
    try simp only [Act.put, List.setIfInBounds_toArray, List.set_cons_zero, List.set_cons_succ]
    refine wpAnyC_take (i := 4) (v := ?v5) rfl (by kernel_rfl) (fun _ _ _ h => h) (Or.inl ⟨by rfl, ?y5⟩) hS ?r5
    case y5 => intro wq _; go_simp; all_goals (first | with_reducible rfl | go_num | (simp; done) | (simp; omega) | skip)
    try simp only [Act.put, List.setIfInBounds_toArray, List.set_cons_zero, List.set_cons_succ]
    refine wpAnyC_take (i := 5) (v := .pointer (some ⟨x.B, 0, none⟩)) rfl (by kernel_rfl) (fun _ _ _ h => h) (Or.inl ⟨by rfl, ?y6⟩) hS ?r6
    case y6 => rintro wq ⟨-, c0⟩; go_simp; try with_reducible rfl
    try simp only [Act.put, List.setIfInBounds_toArray, List.set_cons_zero, List.set_cons_succ]
    refine wpAnyC_one (j := 6) (by kernel_rfl) rfl (fun K hK => ?_)
    go_simp
    go_at_call 76
    refine HC.out.mono ?_
    rintro e v2 ⟨s, E, rfl, kk, hv⟩
    have hb2 : Fr (fun k => k = x.B) wr v2 := hbd.trans kk (fun _ _ e => e)
    have HV := Lib.hid hv
    clear kk hv
    have hS := HCC.out v2 hb2
    go_wp2_with fail
    refine hK.out _ _ ⟨hS, ?_⟩
    clear hK K
    try simp only [Act.put, List.setIfInBounds_toArray, List.set_cons_zero, List.set_cons_succ]
    refine wpAnyC_take (i := 7) (v := ?v7) rfl (by kernel_rfl) (fun _ _ _ h => h) (Or.inl ⟨by rfl, ?y7⟩) hS ?r7
    case y7 => intro wq _; go_simp; all_goals (first | with_reducible rfl | go_num | (simp; done) | (simp; omega) | skip)
    try simp only [Act.put, List.setIfInBounds_toArray, List.set_cons_zero, List.set_cons_succ]
    refine wpAnyC_take (i := 8) (v := ?v8) rfl (by kernel_rfl) (fun _ _ _ h => h) (Or.inl ⟨by rfl, ?y8⟩) hS ?r8
    case y8 => intro wq _; go_simp; all_goals (first | with_reducible rfl | go_num | (simp; done) | (simp; omega) | skip)
    try simp only [Act.put, List.setIfInBounds_toArray, List.set_cons_zero, List.set_cons_succ]
    refine wpAnyC_take (i := 9) (v := ?v9) rfl (by kernel_rfl) (fun _ _ _ h => h) (Or.inl ⟨by rfl, ?y9⟩) hS ?r9
    case y9 => intro wq _; go_simp; all_goals (first | with_reducible rfl | go_num | (simp; done) | (simp; omega) | skip)
    try simp only [Act.put, List.setIfInBounds_toArray, List.set_cons_zero, List.set_cons_succ]
    refine wpAnyC_take (i := 10) (v := ?v10) rfl (by kernel_rfl) (fun _ _ _ h => h) (Or.inl ⟨by rfl, ?y10⟩) hS ?r10
    case y10 => intro wq _; go_simp; all_goals (first | with_reducible rfl | go_num | (simp; done) | (simp; omega) | skip)
    try simp only [Act.put, List.setIfInBounds_toArray, List.set_cons_zero, List.set_cons_succ]
    refine wpAnyC_take (i := 11) (v := ?v11) rfl (by kernel_rfl) (fun _ _ _ h => h) (Or.inl ⟨by rfl, ?y11⟩) hS ?r11
    case y11 => intro wq _; go_simp; all_goals (first | with_reducible rfl | go_num | (simp; done) | (simp; omega) | skip)
    try simp only [Act.put, List.setIfInBounds_toArray, List.set_cons_zero, List.set_cons_succ]
    refine wpAnyC_done (by kernel_rfl) ?_ _
    clear hS HCC hbd HC
    have HFB := Lib.hid hb2
    clear hb2
    rcases HV.out with ⟨rfl, N1, L1, hp, hs, hL, hr⟩ | ⟨hE, rfl, hp⟩
    · have H1 := Lib.hid (HD.out.keep HFB.out hr (by omega))
      have HF1 := Lib.hid (HFW.out.trans (Fl.ofB HFB.out))
      have HL1 := Lib.hid (HL.out.trans (Fl.ofB HFB.out))
      have HP := Lib.hid (show symsP x.most ls ds FUEL a N L = (if s = 256 then rtn a' else bnd (if s < 256 then addP x.most ⟨s, 0, 0⟩ a' else matchP x.most ds (s - 257) a') (symsP x.most ls ds f') : Ps Acc) N1 L1 by rw [HF.out, symsP, bnd_ok hp])
      clear hr hp
      by_cases h256 : s = 256
      · subst h256
        have HP1 := Lib.hid (show symsP x.most ls ds FUEL a N L = .ok (a', N1, L1) by rw [HP.out]; rfl)
        go_wp2_with fail
        go_ret
        exact .inl ⟨a', N1, L1, HP1.out, rfl, by omega, H1.out, HF1.out⟩
      · have d2 : ((s : Int) == 256) = false := by simp; omega
        rw [if_neg h256] at HP
        by_cases hlt : s < 256
        · have d3 : decide ((s : Int) < 256) = true := decide_eq_true (by omega)
          rw [if_pos hlt] at HP
          have HAD := Lib.hid (add_any x p3 p4 a' N1 L1 ⟨s, 0, 0⟩ _ H1.out)
          go_wp2_with fail
          refine HAD.out.mono ?_
          rintro e w4 hst
          have HST := Lib.hid hst
          clear hst
          rcases HST.out with ⟨a2, N2, L2, hp, rfl, hL2, hd, hf⟩ | ⟨E, hp, hE, rfl, hf⟩
          · have HZ := Lib.hid (And.intro hd (HL1.out.trans hf))
            have HPZ := Lib.hid (show symsP x.most ls ds FUEL a N L = symsP x.most ls ds f' a2 N2 L2 by rw [HP.out, bnd_ok hp])
            clear hd hf hp
            go_wp2_with fail
            go_roundg L2
            case rel => exact ⟨a2, N2, f', by omega, by omega, HPZ, Lib.hid HZ.out.1, Lib.hid HZ.out.2⟩
            case measure => omega
          · have d4 : (E != 0) = true := by simp [hE]
            have HPZ := Lib.hid (show symsP x.most ls ds FUEL a N L = .error E by rw [HP.out, bnd_er hp])
            have HZ := Lib.hid (HF1.out.trans hf)
            clear hf hp
            go_wp2_with fail
            go_ret
            exact .inr ⟨E, HPZ.out, hE, rfl, HZ.out⟩
        · have d3 : decide ((s : Int) < 256) = false := decide_eq_false (by omega)
          rw [if_neg hlt] at HP
          have ew : IntKind.i64.wrap ((s : Int) - 257) = ((s - 257 : Nat) : Int) := by rw [IntKind.wrap_i64]; omega
          have HMT := Lib.hid (match_any x p3 p4 a' N1 L1 (s - 257) P2 ds _ H1.out (HT2.out.fl HD.out (Fl.ofB HFB.out)) (by omega))
          have hC1 := HCW.out.fl HD.out (Fl.ofB HFB.out) (by decide) (by decide) (by decide)
          have c1 : v2.cell? ⟨w.heap.size, 1, none⟩ = some (.pointer (some ⟨P2, 0, none⟩)) := hC1.reads 1
          clear hC1
          go_wp2_with fail
          refine HMT.out.mono ?_
          rintro e w4 hst
          have HST := Lib.hid hst
          clear hst
          rcases HST.out with ⟨a2, N2, L2, hp, rfl, hL2, hd, hf⟩ | ⟨E, hp, hE, rfl, hf⟩
          · have HZ := Lib.hid (And.intro hd (HL1.out.trans hf))
            have HPZ := Lib.hid (show symsP x.most ls ds FUEL a N L = symsP x.most ls ds f' a2 N2 L2 by rw [HP.out, bnd_ok hp])
            clear hd hf hp
            go_wp2_with fail
            go_roundg L2
            case rel => exact ⟨a2, N2, f', by omega, by omega, HPZ, Lib.hid HZ.out.1, Lib.hid HZ.out.2⟩
            case measure => omega
          · have d4 : (E != 0) = true := by simp [hE]
            have HPZ := Lib.hid (show symsP x.most ls ds FUEL a N L = .error E by rw [HP.out, bnd_er hp])
            have HZ := Lib.hid (HF1.out.trans hf)
            clear hf hp
            go_wp2_with fail
            go_ret
            exact .inr ⟨E, HPZ.out, hE, rfl, HZ.out⟩
    · have d2 : (E != 0) = true := by simp [hE]
      have HPZ := Lib.hid (show symsP x.most ls ds FUEL a N L = .error E by rw [HF.out, symsP, bnd_er hp])
      have HZ := Lib.hid (HFW.out.trans (Fl.ofB HFB.out))
      clear hp
      go_wp2_with fail
      go_ret
      exact .inr ⟨E, HPZ.out, hE, rfl, HZ.out⟩
end Go.Proofs.YtnjdnldoopgcpaaDoor
/- inflate: stored. -/
namespace Go.Proofs.YtnjdnldoopgcpaaDoor
open Go.RowKit

theorem fieldsP_len : ∀ (ks : List Nat) {N L : Nat} {vs : List Nat} {N' L' : Nat}, fieldsP ks N L = .ok (vs, N', L') → L = L' + ks.sum
  | [], N, L, vs, N', L', h => by
    injection h with h
    injection h with _ h
    injection h with _ h
  | k :: ks, N, L, vs, N', L', h => by
    rw [fieldsP] at h
    by_cases hk : k ≤ L
    · have e : bitsP k N L = .ok (N % 2 ^ k, N / 2 ^ k, L - k) := by unfold bitsP; rw [if_pos hk]
      rw [bnd_ok e] at h
      cases hq : fieldsP ks (N / 2 ^ k) (L - k) with
      | error e' => rw [bnd_er hq] at h; cases h
      | ok r =>
        obtain ⟨us, N1, L1⟩ := r
        rw [bnd_ok hq] at h
        injection h with h
        injection h with _ h
        injection h with _ h
        have := fieldsP_len ks hq
        rw [List.sum_cons]
        omega
    · have e : bitsP k N L = .error 6 := by unfold bitsP; rw [if_neg hk]
      rw [bnd_er e] at h; cases h
/-- Behind a call that finds too few bytes. -/
def RFew2 (B R N L : Nat) (w : World) (e : Ending) (w' : World) : Prop := e = .returned (.tuple #[.slice none 0 0, .int .i64 6]) ∧ RD w' B R (N / 2 ^ (L % 8)) (L - L % 8) ∧ w.grownBy w' (some B)
theorem rbytes_more2 (B R N L n : Nat) (w : World) (h : RD w B R N L) (hL : L / 8 < n) (hL2 : L ≤ 1000000000) :
    Calls Tryd.prog 71 #[.pointer (some ⟨B, 0, none⟩), .int .i64 n] w (RFew2 B R N L w) := by
  have H := Lib.hid h
  clear h
  go_enter Tryd.func71, Tryd.ntmps71
  go_wp2_with fail
  refine (align_any B R N L _ H.out (by omega)).mono ?_
  rintro e w1 ⟨rfl, hr, hg⟩
  have HR := Lib.hid (And.intro hr hg)
  clear hr hg
  go_wp2_with fail
  refine (takeBytes_more B R _ _ n _ HR.out.1 (by omega) (by omega)).mono ?_
  rintro e w2 ⟨rfl, j, rfl⟩
  go_wp2
  go_ret2
  exact ⟨rfl, RS.drewN' HR.out.1 j, only_drewN HR.out.2 j⟩
/-- What Bytes answers where the bits that are left are whole bytes. -/
def BytesIs (B R N L n : Nat) (w : World) (e : Ending) (w' : World) : Prop :=
  ∃ (A : Option Addr) (c : Nat) (bs : List Nat) (E : Int), e = .returned (.tuple #[.slice A bs.length c, .int .i64 E]) ∧ Fr (fun k => k = B) w w' ∧
    ((E = 0 ∧ ∃ N' L' g, bytesP n N L = .ok (bs, N', L') ∧ L' ≤ L ∧ RD w' B R N' L' ∧ A = some ⟨g, 0, none⟩ ∧ c = bs.length ∧ Whole w' g 5 (bvs bs).toArray ∧ (∀ b ∈ bs, b < 256) ∧ bs.length = n) ∨ (E ≠ 0 ∧ bs = [] ∧ bytesP n N L = .error E))
theorem rowB_full (N n : Nat) : rowB N n n = (bvs ((List.range n).map (digit N))).toArray := by
  unfold rowB bvs
  rw [List.map_map]
  congr 1
  refine List.map_congr_left fun j hj => ?_
  have := List.mem_range.1 hj
  rw [if_pos this]
  rfl
theorem bytes_is (B R N L n : Nat) (w : World) (h : RD w B R N L) (hR : R < w.heap.size) (h8 : L % 8 = 0) (hL : L ≤ 1000000000) :
    Calls Tryd.prog 71 #[.pointer (some ⟨B, 0, none⟩), .int .i64 (n : Int)] w (BytesIs B R N L n w) := by
  by_cases hn : n ≤ L / 8
  · refine Calls.mono (rbytes_any B R N L n w h hR (by omega) hL) ?_
    rintro e w' ⟨g, rfl, hg, hw, hr, hgr⟩
    rw [h8, Nat.pow_zero, Nat.div_one, Nat.sub_zero] at hr
    rw [h8, Nat.pow_zero, Nat.div_one] at hw
    have hlen : ((List.range n).map (digit N)).length = n := by simp
    refine ⟨some ⟨g, 0, none⟩, n, (List.range n).map (digit N), 0, by rw [hlen], (Fr.of_grown hgr).more (fun _ _ e => by injection e), .inl ⟨rfl, _, _, g, by unfold bytesP; rw [if_pos hn], by omega, hr, rfl, hlen.symm, by rw [← rowB_full]; exact hw, ?_, hlen⟩⟩
    intro b hb
    obtain ⟨j, -, rfl⟩ := List.mem_map.1 hb
    exact digit_lt N j
  · refine Calls.mono (rbytes_more2 B R N L n w h (by omega) hL) ?_
    rintro e w' ⟨rfl, hr, hgr⟩
    exact ⟨none, 0, [], 6, rfl, (Fr.of_grown hgr).more (fun _ _ e => by injection e), .inr ⟨by decide, rfl, by unfold bytesP; rw [if_neg hn]⟩⟩
theorem addAll_step {most : Int} {bs : List Nat} {i b : Nat} (a : Acc) (h : bs[i]? = some b) : addAll most (bs.drop i) a = bnd (addP most ⟨b, 0, 0⟩ a) (addAll most (bs.drop (i + 1))) := by
  have hi := (List.getElem?_eq_some_iff.1 h).1
  have he := (List.getElem?_eq_some_iff.1 h).2
  rw [List.drop_eq_getElem_cons hi, he, addAll]
set_option maxRecDepth 100000 in
set_option maxHeartbeats 4000000 in
theorem stored_any (x : Cx) (p3 p4 : Value) (a : Acc) (N L : Nat) (w : World) (h : DecS x w p3 p4 a N L) :
    Calls Tryd.prog 53 #[.pointer (some ⟨x.D, 0, none⟩)] w (StepIs x p3 p4 N L (storedP x.most a) w) := by
  have HAL := Lib.hid (ralign_any x.B x.R N L w h.rd (by have := h.few; omega))
  obtain ⟨lD, q0, -, -, -, -, -, -⟩ := h.cells
  have hfew := h.few
  have H := Lib.hid h
  clear h
  go_enter Tryd.func53, Tryd.ntmps53
  go_wp2_with fail
  refine HAL.out.mono ?_
  rintro e w1 ⟨rfl, hr, hg⟩
  have hf : Fr (fun k => k = x.B) w w1 := (Fr.of_grown hg).more (fun _ _ e => by injection e)
  have H1 := Lib.hid (H.out.keep hf hr (by omega))
  have HF1 := Lib.hid (Fl.ofB (x := x) hf)
  obtain ⟨N1, hN1⟩ : ∃ N1, N / 2 ^ (L % 8) = N1 := ⟨_, rfl⟩
  obtain ⟨L1, hL1⟩ : ∃ L1, L - L % 8 = L1 := ⟨_, rfl⟩
  have hL1d : L1 % 8 = 0 ∧ L1 ≤ L := by omega
  rw [hN1, hL1] at H1
  have HP := Lib.hid (show storedP x.most a N L = (bnd (fieldsP [16, 16]) fun n => if n.getD 0 0 + n.getD 1 0 = 65535 then bnd (bytesP (n.getD 0 0)) fun bs => addAll x.most bs a else bad 4 : Ps Acc) N1 L1 by rw [← hN1, ← hL1]; rfl)
  clear hr hg hf HAL q0 lD hN1 hL1
  obtain ⟨lD, -, -, -, -, -, -, -⟩ := H1.out.cells
  obtain ⟨wA, hwA⟩ : ∃ wA, w1.alloc (.cells #[.int .i64 16, .int .i64 16] 3) = wA := ⟨_, rfl⟩
  have hbA : Below w1.heap.size w1 wA := by rw [← hwA]; exact (Below.refl _ _).alloc (Nat.le_refl _) _
  have hwk : Whole wA w1.heap.size 3 (iiv ([16, 16].map Int.ofNat)).toArray := by rw [← hwA]; exact Whole.made _ _ _
  have HFI := Lib.hid (fields_any x p3 p4 a N1 L1 (some ⟨w1.heap.size, 0, none⟩) 2 2 [16, 16] wA (H1.out.later hbA) (IntsAt.of_whole hwk (by decide)) (fun R o e => by
    injection e with e
    injection e with e
    obtain ⟨rc, hrw⟩ := H1.out.rd.whole
    have := hrw.lt
    omega) (by decide) (by decide))
  have HA := Lib.hid (H1.out.later hbA)
  have HFA := Lib.hid (HF1.out.trans (Fl.new hbA))
  clear hwk hbA
  go_wp2_with fail
  refine HFI.out.mono ?_
  rintro e w3 ⟨A3, c3, vs, E, rfl, hf, hv⟩
  have HFB := Lib.hid hf
  have HF3 := Lib.hid (HFA.out.trans (Fl.ofB hf))
  clear hf HFI
  rcases hv with ⟨rfl, N2, L2, G, hp, hvl, hL, hr, rfl, hG, rfl, hw, hlt⟩ | ⟨hE, rfl, hp⟩
  rotate_left
  · have d1 : (E != 0) = true := by simp [hE]
    have HZ := Lib.hid (show storedP x.most a N L = .error E by rw [HP.out, bnd_er hp])
    clear hp
    go_wp2_with fail
    go_ret
    exact .inr ⟨E, HZ.out, hE, rfl, HF3.out⟩
  obtain ⟨v0, v1, rfl⟩ : ∃ v0 v1, vs = [v0, v1] := by
    match vs, hvl with
    | [v0, v1], _ => exact ⟨v0, v1, rfl⟩
  have hv0 := hlt v0 (by simp)
  have hv1 := hlt v1 (by simp)
  have hLs := fieldsP_len _ hp
  have H3 := Lib.hid (HA.out.keep HFB.out hr hL)
  have HW := Lib.hid hw
  have HP3 := Lib.hid (show storedP x.most a N L = (if v0 + v1 = 65535 then bnd (bytesP v0) fun bs => addAll x.most bs a else bad 4 : Ps Acc) N2 L2 by rw [HP.out, bnd_ok hp]; rfl)
  have g0 : w3.cell? ⟨G, 0, none⟩ = some (.int .i64 (v0 : Int)) := hw.reads 0
  have g1 : w3.cell? ⟨G, 1, none⟩ = some (.int .i64 (v1 : Int)) := hw.reads 1
  have lG := hw.lt
  have h28 : L2 % 8 = 0 := by simp at hLs; omega
  have hL2 : L2 ≤ 1000000000 := by omega
  have hL2L : L2 ≤ L := by omega
  clear hp hr hw hlt lD hLs
  have ew : IntKind.i64.wrap ((v0 : Int) + (v1 : Int)) = ((v0 + v1 : Nat) : Int) := by rw [IntKind.wrap_i64]; omega
  by_cases hsum : v0 + v1 = 65535
  rotate_left
  · have d1 : (((v0 + v1 : Nat) : Int) != 65535) = true := by simp; omega
    have d1' : ((v0 : Int) + (v1 : Int) != 65535) = true := by simp; omega
    have HZ := Lib.hid (show storedP x.most a N L = .error 4 by rw [HP3.out, if_neg hsum]; rfl)
    clear hsum
    go_wp2_with fail
    go_quiet (fail)
    all_goals
      go_wp2_with fail
      go_ret
      exact .inr ⟨4, HZ.out, by decide, rfl, HF3.out.trans (Fr.drewN (Fl.refl _ _) _)⟩
  have d1 : (((v0 + v1 : Nat) : Int) != 65535) = false := by simp; omega
  have d1' : ((v0 : Int) + (v1 : Int) != 65535) = false := by simp; omega
  rw [if_pos hsum] at HP3
  clear hsum

  go_wp2_with fail
  go_quiet (fail)
  go_upto_region 7 with fail
  generalize hwD : w3.drewN nq = wD
  have hbD : Below w3.heap.size w3 wD := by rw [← hwD]; exact below_drewN (Below.refl _ _) _
  have H4 := Lib.hid (H3.out.later hbD)
  have HF4 := Lib.hid (HF3.out.trans (Fl.new hbD))
  have hW4 := HW.out.here hbD
  obtain ⟨lD, q0, -, -, -, -, -, -⟩ := H4.out.cells
  obtain ⟨rc, hrw⟩ := H4.out.rd.whole
  have k0 : wD.cell? ⟨G, 0, none⟩ = some (.int .i64 (v0 : Int)) := hW4.reads 0
  have HQ := Lib.hid (And.intro H4.out.apart (And.intro lD (And.intro q0 (And.intro (hW4.apart hrw (by decide)) (And.intro hW4.lt k0)))))
  have HC := Lib.hid (bytes_is x.B x.R N2 L2 v0 wD.drew H4.out.rd.drew H4.out.rR h28 hL2)
  clear q0 hrw k0 hW4 hbD hwD g0 g1 lG
  have HCC : Hid (∀ v, Fr (fun k => k = x.B) wD v → (fun v => v.cell? ⟨x.D, 0, none⟩ = some (.pointer (some ⟨x.B, 0, none⟩)) ∧ v.cell? ⟨G, 0, none⟩ = some (.int .i64 (v0 : Int))) v) := Lib.hid (fun v hb => ⟨(hb.cell' HQ.out.1 HQ.out.2.1).trans HQ.out.2.2.1, (hb.cell' HQ.out.2.2.2.1 HQ.out.2.2.2.2.1).trans HQ.out.2.2.2.2.2⟩)
  have hbd : Fr (fun k => k = x.B) wD wD.drew := (Fr.refl _ _).drew
  have hS := HCC.out wD.drew hbd
  refine wp_region_C (fun v => v.cell? ⟨x.D, 0, none⟩ = some (.pointer (some ⟨x.B, 0, none⟩)) ∧ v.cell? ⟨G, 0, none⟩ = some (.int .i64 (v0 : Int))) (by kernel_rfl) ?_
  refine wpAnyC_take (i := 0) (v := ?v1) rfl (by kernel_rfl) (fun _ _ _ h => h) (Or.inl ⟨by rfl, ?y1⟩) hS ?r1
  case y1 => intro wq _; go_simp; all_goals (first | with_reducible rfl | go_num | (simp; done) | (simp; omega) | skip)
  try simp only [Act.put, List.setIfInBounds_toArray, List.set_cons_zero, List.set_cons_succ]
  refine wpAnyC_take (i := 1) (v := ?v2) rfl (by kernel_rfl) (fun _ _ _ h => h) (Or.inl ⟨by rfl, ?y2⟩) hS ?r2
  case y2 => intro wq _; go_simp; all_goals (first | with_reducible rfl | go_num | (simp; done) | (simp; omega) | skip)
  try simp only [Act.put, List.setIfInBounds_toArray, List.set_cons_zero, List.set_cons_succ]
  refine wpAnyC_take (i := 2) (v := ?v3) rfl (by kernel_rfl) (fun _ _ _ h => h) (Or.inl ⟨by rfl, ?y3⟩) hS ?r3
  case y3 => intro wq _; go_simp; all_goals (first | with_reducible rfl | go_num | (simp; done) | (simp; omega) | skip)
  try simp only [Act.put, List.setIfInBounds_toArray, List.set_cons_zero, List.set_cons_succ]
  refine wpAnyC_take (i := 3) (v := .pointer (some ⟨x.B, 0, none⟩)) rfl (by kernel_rfl) (fun _ _ _ h => h) (Or.inl ⟨by rfl, ?y4⟩) hS ?r4
  case y4 => rintro wq ⟨c0, -⟩; go_simp; try with_reducible rfl
  try simp only [Act.put, List.setIfInBounds_toArray, List.set_cons_zero, List.set_cons_succ]
  refine wpAnyC_take (i := 4) (v := ?v5) rfl (by kernel_rfl) (fun _ _ _ h => h) (Or.inl ⟨by rfl, ?y5⟩) hS ?r5
  case y5 => intro wq _; go_simp; all_goals (first | with_reducible rfl | go_num | (simp; done) | (simp; omega) | skip)
  try simp only [Act.put, List.setIfInBounds_toArray, List.set_cons_zero, List.set_cons_succ]
  refine wpAnyC_take (i := 5) (v := ?v6) rfl (by kernel_rfl) (fun _ _ _ h => h) (Or.inl ⟨by rfl, ?y6⟩) hS ?r6
  case y6 => intro wq _; go_simp; all_goals (first | with_reducible rfl | go_num | (simp; done) | (simp; omega) | skip)
  try simp only [Act.put, List.setIfInBounds_toArray, List.set_cons_zero, List.set_cons_succ]
  refine wpAnyC_take (i := 6) (v := .int .i64 (v0 : Int)) rfl (by kernel_rfl) (fun _ _ _ h => h) (Or.inl ⟨by rfl, ?y7⟩) hS ?r7
  case y7 => rintro wq ⟨-, c0⟩; go_simp; try with_reducible rfl
  try simp only [Act.put, List.setIfInBounds_toArray, List.set_cons_zero, List.set_cons_succ]
  refine wpAnyC_one (j := 7) (by kernel_rfl) rfl (fun K hK => ?_)
  go_simp
  go_at_call 71
  refine HC.out.mono ?_
  rintro e v2 ⟨A5, c5, bs, E, rfl, kk, hv⟩
  have hb2 : Fr (fun k => k = x.B) wD v2 := hbd.trans kk (fun _ _ e => e)
  have HV := Lib.hid hv
  clear kk hv
  have hS := HCC.out v2 hb2
  go_wp2_with fail
  refine hK.out _ _ ⟨hS, ?_⟩
  clear hK K
  try simp only [Act.put, List.setIfInBounds_toArray, List.set_cons_zero, List.set_cons_succ]
  refine wpAnyC_take (i := 8) (v := ?v8) rfl (by kernel_rfl) (fun _ _ _ h => h) (Or.inl ⟨by rfl, ?y8⟩) hS ?r8
  case y8 => intro wq _; go_simp; all_goals (first | with_reducible rfl | go_num | (simp; done) | (simp; omega) | skip)
  try simp only [Act.put, List.setIfInBounds_toArray, List.set_cons_zero, List.set_cons_succ]
  refine wpAnyC_take (i := 9) (v := ?v9) rfl (by kernel_rfl) (fun _ _ _ h => h) (Or.inl ⟨by rfl, ?y9⟩) hS ?r9
  case y9 => intro wq _; go_simp; all_goals (first | with_reducible rfl | go_num | (simp; done) | (simp; omega) | skip)
  try simp only [Act.put, List.setIfInBounds_toArray, List.set_cons_zero, List.set_cons_succ]
  refine wpAnyC_take (i := 10) (v := ?v10) rfl (by kernel_rfl) (fun _ _ _ h => h) (Or.inl ⟨by rfl, ?y10⟩) hS ?r10
  case y10 => intro wq _; go_simp; all_goals (first | with_reducible rfl | go_num | (simp; done) | (simp; omega) | skip)
  try simp only [Act.put, List.setIfInBounds_toArray, List.set_cons_zero, List.set_cons_succ]
  refine wpAnyC_take (i := 11) (v := ?v11) rfl (by kernel_rfl) (fun _ _ _ h => h) (Or.inl ⟨by rfl, ?y11⟩) hS ?r11
  case y11 => intro wq _; go_simp; all_goals (first | with_reducible rfl | go_num | (simp; done) | (simp; omega) | skip)
  try simp only [Act.put, List.setIfInBounds_toArray, List.set_cons_zero, List.set_cons_succ]
  refine wpAnyC_take (i := 12) (v := ?v12) rfl (by kernel_rfl) (fun _ _ _ h => h) (Or.inl ⟨by rfl, ?y12⟩) hS ?r12
  case y12 => intro wq _; go_simp; all_goals (first | with_reducible rfl | go_num | (simp; done) | (simp; omega) | skip)
  try simp only [Act.put, List.setIfInBounds_toArray, List.set_cons_zero, List.set_cons_succ]
  refine wpAnyC_done (by kernel_rfl) ?_ _
  clear hS HCC hbd HC
  have HFC := Lib.hid hb2
  clear hb2
  rcases HV.out with ⟨rfl, N3, L3, g5, hp, hL, hr, rfl, rfl, hw, hby, hbl⟩ | ⟨hE, rfl, hp⟩
  rotate_left
  · have d2 : (E != 0) = true := by simp [hE]
    have HZ := Lib.hid (show storedP x.most a N L = .error E by rw [HP3.out, bnd_er hp])
    have HFZ := Lib.hid (HF4.out.trans (Fl.ofB HFC.out))
    clear hp
    go_wp2_with fail
    go_ret
    exact .inr ⟨E, HZ.out, hE, rfl, HFZ.out⟩
  have H5 := Lib.hid (H4.out.keep HFC.out hr hL)
  have HF5 := Lib.hid (HF4.out.trans (Fl.ofB HFC.out))
  have HP5 := Lib.hid (show storedP x.most a N L = addAll x.most bs a N3 L3 by rw [HP3.out, bnd_ok hp])
  have HW5 := Lib.hid hw
  have HBY := Lib.hid hby
  have hL3 : L3 ≤ L := by omega
  clear hp hr hw hby hL
  go_wp2_with fail
  go_loopw [47] (fun s47 wr => ∃ (i : Nat) (a' : Acc), s47 = .int .i64 (i : Int) ∧ i ≤ bs.length ∧ Hid (addAll x.most bs a N3 L3 = addAll x.most (bs.drop i) a' N3 L3) ∧ Hid (DecS x wr p3 p4 a' N3 L3) ∧ Hid (Fl x v2 wr)) (fun s47 _ => bs.length - (intOf s47).toNat)
  case atStart => exact ⟨0, a, rfl, by omega, Lib.hid (by rw [List.drop_zero]), H5, Lib.hid (Fl.refl _ _)⟩
  case round =>
    obtain ⟨i, a', rfl, hi, HA', HD, HL'⟩ := hrel
    have HFW := Lib.hid (HF5.out.trans HL'.out)
    by_cases hlt : i < bs.length
    · have d3 : decide ((i : Int) < (bs.length : Int)) = true := decide_eq_true (by omega)
      obtain ⟨b, hb⟩ : ∃ b, bs[i]? = some b := ⟨_, List.getElem?_eq_getElem hlt⟩
      have hb256 := HBY.out b (List.mem_of_getElem? hb)
      have hWr := HW5.out.fl H5.out HL'.out (by decide) (by decide) (by decide)
      have c0 : wr.cell? ⟨g5, i, none⟩ = some (.int .u8 (b : Int)) := by
        rw [hWr.reads i]
        unfold bvs
        simp [hb]
      have b1 : (0 : Int) ≤ (i : Int) := by omega
      have b2 : (i : Int) < (bs.length : Int) := by omega
      have ewb : IntKind.i64.wrap (b : Int) = (b : Int) := by rw [IntKind.wrap_i64]; omega
      have HAS := Lib.hid (addAll_step (most := x.most) a' hb)
      have HAD := Lib.hid (add_any x p3 p4 a' N3 L3 ⟨(b : Int), 0, 0⟩ _ HD.out)
      have lg5 := hWr.lt
      clear hb hWr
      go_wp2_with fail
      refine HAD.out.mono ?_
      rintro e w6 hst
      have HST := Lib.hid hst
      clear hst
      rcases HST.out with ⟨a2, N4, L4, hp, rfl, hL4, hd, hf⟩ | ⟨E, hp, hE, rfl, hf⟩
      · have hnl : N4 = N3 ∧ L4 = L3 := by
          unfold addP at hp
          split at hp
          · cases hp
          · injection hp with hp
            injection hp with _ hp
            injection hp with h1 h2
            exact ⟨h1.symm, h2.symm⟩
        obtain ⟨rfl, rfl⟩ := hnl
        have HZ := Lib.hid (And.intro hd (HL'.out.trans hf))
        have HPZ := Lib.hid (show addAll x.most bs a N4 L4 = addAll x.most (bs.drop (i + 1)) a2 N4 L4 by rw [HA'.out, HAS.out, bnd_ok hp])
        clear hd hf hp
        go_wp2_with fail
        go_roundw
        case rel => exact ⟨i + 1, a2, by go_num, by omega, HPZ, Lib.hid HZ.out.1, Lib.hid HZ.out.2⟩
        case measure => simp [intOf]; omega
      · have d4 : (E != 0) = true := by simp [hE]
        have HPZ := Lib.hid (show storedP x.most a N L = .error E by rw [HP5.out, HA'.out, HAS.out, bnd_er hp])
        have HZ := Lib.hid (HFW.out.trans hf)
        clear hf hp
        go_wp2_with fail
        go_ret
        exact .inr ⟨E, HPZ.out, hE, rfl, HZ.out⟩
    · obtain rfl : i = bs.length := by omega
      have d3 : decide ((bs.length : Int) < (bs.length : Int)) = false := by simp
      have HPZ := Lib.hid (show storedP x.most a N L = .ok (a', N3, L3) by rw [HP5.out, HA'.out, List.drop_length]; rfl)
      go_wp2_with fail
      go_ret
      exact .inl ⟨a', N3, L3, HPZ.out, rfl, hL3, HD.out, HFW.out⟩
end Go.Proofs.YtnjdnldoopgcpaaDoor
