/- raster: Pack at any image; RasterBack. Written by gen_rback.py. -/
import Derived.Test.YtmleoagdelgddaaRasSh
namespace Go.Proofs.Ytmleoagdelgddaa
open Go.RowKit Dec

theorem Bytes.whole {w : World} {R n : Nat} {bs : List Nat} (h : Whole w R 5 (bvs bs).toArray) (hl : bs.length = n) (hn : n ≤ 9223372036854775807) (hb : ∀ x ∈ bs, x < 256) : Bytes w (some ⟨R, 0, none⟩) n n bs :=
  ⟨hl, Nat.le_refl _, hn, hb, fun _ => ⟨R, 0, rfl, h.lt, fun i b hi => by rw [Nat.zero_add]; exact (h.reads i).trans (bvs_get hi)⟩⟩
/-- The numbers of a format that is right. -/
structure FmtN (W H B C : Int) (W' H' B' C' P S : Nat) : Prop where
  eq : W = (W' : Int) ∧ H = (H' : Int) ∧ B = (B' : Int) ∧ C = (C' : Int)
  b : B' = 1 ∨ B' = 2 ∨ B' = 4 ∨ B' = 8 ∨ B' = 16
  p : W' * C' = P
  s : (P * B' + 7) / 8 = S
  p0 : 0 < P
  c0 : 0 < C'
  p2 : P ≤ 262144
  n2 : H' * P ≤ 262144
  pb : P * B' ≤ 4194304
  hs : H' * S ≤ 786432
  rs : rowS W' B' C' = S
  wh : W' * H' ≤ 65536
theorem fmt_n {W H B C : Int} (h : fmtB W H B C = true) : ∃ W' H' B' C' P S : Nat, FmtN W H B C W' H' B' C' P S := by
  obtain ⟨W', H', B', C', e1, e2, e3, e4, h0, h1, h2, hB, hC, hC4⟩ := fmt_of h
  obtain ⟨z1, z2, z3, z4, z5⟩ := fmt_sizes h0 h1 h2 hB hC hC4
  exact ⟨W', H', B', C', W' * C', (W' * C' * B' + 7) / 8, ⟨e1, e2, e3, e4⟩, hB, rfl, rfl, z1, by omega, z2, z3, z4, z5, rfl, h2⟩
theorem FmtN.chk {W H B C : Int} {W' H' B' C' P S : Nat} (h : FmtN W H B C W' H' B' C' P S) (hF : fmtB W H B C = true) : chkB (W' : Int) (H' : Int) (B' : Int) (C' : Int) (H' * S) = true := by
  obtain ⟨e1, e2, e3, e4⟩ := h.eq
  rw [e1, e2, e3, e4] at hF
  unfold chkB
  rw [hF, Bool.true_and, Int.toNat_natCast, Int.toNat_natCast, Int.toNat_natCast, h.rs, ← Int.natCast_mul]
  exact decide_eq_true rfl
theorem FmtN.good {W H B C : Int} {W' H' B' C' P S : Nat} (h : FmtN W H B C W' H' B' C' P S) {l : List Int} (hl : l.length = H' * P) (hg : ∀ v ∈ l, goodV B' v) :
    (pkN (l.map Int.toNat) B' S P (H' * S) (H' * P)).length = H' * S ∧ (∀ x ∈ pkN (l.map Int.toNat) B' S P (H' * S) (H' * P), x < 256) ∧ (List.range (H' * P)).map (fun i => ((smp (pkN (l.map Int.toNat) B' S P (H' * S) (H' * P)) B' S P i : Nat) : Int)) = l := by
  obtain ⟨i1, i2, i3⟩ := pkN_is (H := H') (l := l.map Int.toNat) h.b h.s h.p0 (H' * P) (Nat.le_refl _) (fun j hj => by
    have hj2 : j < l.length := by omega
    rw [List.getD_eq_getElem?_getD, List.getElem?_map, List.getElem?_eq_getElem hj2]
    have := hg l[j] (List.getElem_mem _)
    show l[j].toNat < 2 ^ B'
    have := this.1
    have := (hg l[j] (List.getElem_mem _)).2
    omega)
  refine ⟨i1, i2, ?_⟩
  apply List.ext_getElem
  · simp [hl]
  · intro i h1 h2
    simp only [List.getElem_map, List.getElem_range]
    rw [i3 i (by omega), if_pos (by omega), List.getD_eq_getElem?_getD, List.getElem?_map, List.getElem?_eq_getElem h2]
    have := (hg l[i] (List.getElem_mem _)).1
    show ((l[i].toNat : Nat) : Int) = l[i]
    omega
/-- What Pack answers at any image. -/
def PackIs (W H B C : Int) (l : List Int) (w : World) (e : Ending) (w' : World) : Prop :=
  (¬ (fmtB W H B C = true ∧ (l.length : Int) = H * (W * C) ∧ ∀ v ∈ l, goodV B.toNat v) ∧ NoImg w e w') ∨
  (∃ W' H' B' C' P S : Nat, fmtB W H B C = true ∧ FmtN W H B C W' H' B' C' P S ∧ l.length = H' * P ∧ (∀ v ∈ l, goodV B' v) ∧ PackGo W' H' B' C' P S (H' * P) l w e w')
theorem pack_any (W H B C : Int) (A : Option Addr) (n c : Nat) (A2 : Option Addr) (n2 c2 : Nat) (l : List Int) (w : World) (hl : IntsAt w A2 n2 c2 l) :
    Calls Try.prog 12 #[.agg #[.int .i64 W, .int .i64 H, .int .i64 B, .int .i64 C, .slice A n c], .slice A2 n2 c2] w (PackIs W H B C l w) := by
  cases hF : fmtB W H B C
  · exact (pack_fmt W H B C A n c A2 n2 c2 w hF).mono fun e w' h => .inl ⟨(fun k => by rw [hF] at k; cases k.1), h⟩
  · obtain ⟨W', H', B', C', P, S, hf⟩ := fmt_n hF
    obtain ⟨rfl, rfl, rfl, rfl⟩ := hf.eq
    by_cases hn : n2 = H' * P
    · subst hn
      refine (pack_go W' H' B' C' P S (H' * P) A n c A2 c2 l w hF hf.p hf.p2 hf.p0 hf.b hf.s (by have := hf.pb; omega) (by have := hf.hs; omega) rfl hf.n2 hl).mono fun e w' h => ?_
      rcases h with ⟨h1, h2⟩ | ⟨h1, h2⟩
      · exact .inr ⟨W', H', B', C', P, S, hF, hf, hl.len, h1, h2⟩
      · exact .inl ⟨fun k => h1 k.2.2, h2⟩
    · refine (pack_len W' H' B' C' P (H' * P) A n c A2 n2 c2 w hF hf.p hf.p2 rfl hf.n2 hn).mono fun e w' h => .inl ⟨fun k => hn ?_, h⟩
      have := k.2.1
      rw [hl.len, ← Int.natCast_mul, hf.p, ← Int.natCast_mul] at this
      omega
/-- What Samples answers of a sound image. -/
theorem samples_fmt {W H B C : Int} {W' H' B' C' P S : Nat} (hf : FmtN W H B C W' H' B' C' P S) (hF : fmtB W H B C = true) {A : Option Addr} {c : Nat} {bs : List Nat} {w : World} (hA : Bytes w A (H' * S) c bs) :
    Calls Try.prog 10 #[.agg #[.int .i64 (W' : Int), .int .i64 (H' : Int), .int .i64 (B' : Int), .int .i64 (C' : Int), .slice A (H' * S) c]] w fun e w' => ∃ R, e = .returned (.tuple #[.slice (some ⟨R, 0, none⟩) (H' * P) (H' * P), .int .i64 0]) ∧ IntsAt w' (some ⟨R, 0, none⟩) (H' * P) (H' * P) ((List.range (H' * P)).map (fun i => ((smp bs B' S P i : Nat) : Int))) ∧ Below w.heap.size w w' ∧ w.heap.size ≤ R := by
  refine (samples_good W' H' B' C' P S (H' * P) A (H' * S) c bs w hA (hf.chk hF) hf.p hf.p2 rfl hf.n2 hf.s hf.p0 hf.b rfl).mono ?_
  rintro e w' ⟨R, he, hR, hw, hb⟩
  refine ⟨R, he, IntsAt.whole hw (by simp) (by have := hf.n2; omega) (fun i x hx => ?_), hb, hR⟩
  have hi : i < H' * P := by
    have := (List.getElem?_eq_some_iff.1 hx).1
    simpa using this
  simp [List.getElem?_range hi] at hx
  subst hx
  simp [nvs, List.getElem?_range hi]
set_option maxRecDepth 100000 in
set_option maxHeartbeats 8000000 in
theorem back_law (W H B C : Int) (A : Option Addr) (n c : Nat) (A2 : Option Addr) (n2 c2 : Nat) (l : List Int) (w : World) (hl : IntsAt w A2 n2 c2 l) :
    Calls Try.prog 5 #[.agg #[.int .i64 W, .int .i64 H, .int .i64 B, .int .i64 C, .slice A n c], .slice A2 n2 c2] w fun e w' => e = .returned (.bool true) ∧ Below w.heap.size w w' := by
  have HFEW := Lib.hid (fun w => few_any W H B C A n c w)
  have HPK := Lib.hid (fun w hl => pack_any W H B C A n c A2 n2 c2 l w hl)
  have HL := Lib.hid hl
  have HI := Lib.hid (Whole.made w 24 #[.int .i64 W, .int .i64 H, .int .i64 B, .int .i64 C, .slice A n c])
  have HV := Lib.hid ((Below.refl w.heap.size w).alloc (Nat.le_refl _) (.cells #[.int .i64 W, .int .i64 H, .int .i64 B, .int .i64 C, .slice A n c] 24))
  clear hl
  go_enter Try.func5, Try.ntmps5
  go_wp2_with fail
  refine (HFEW.out _).mono ?_
  rintro e w1 ⟨⟨r, rfl⟩, hb⟩
  have HB1 := Lib.hid (HV.out.trans (hb.mono HV.out.size))
  have HI1 := Lib.hid (HI.out.here hb)
  clear hb
  cases r
  · go_wp2_with fail
    go_ret
    exact ⟨rfl, HB1.out⟩
  by_cases h2 : 2000 < n2
  · have d1 : decide ((2000 : Int) < (n2 : Int)) = true := decide_eq_true (by omega)
    clear h2
    go_wp2_with fail
    go_ret
    exact ⟨rfl, HB1.out⟩
  have d1 : decide ((2000 : Int) < (n2 : Int)) = false := decide_eq_false (by omega)
  clear h2
  obtain ⟨i1, i2, i3⟩ := five_facts HI1.out
  go_wp2_with fail
  refine (HPK.out _ (HL.out.below HB1.out)).mono ?_
  clear i1 i2 i3 HI1
  rintro e w2 (⟨-, rfl, hb⟩ | ⟨W', H', B', C', P, S, hF, hf, hll, hg, R, rfl, hrow, hb⟩)
  · have HB2 := Lib.hid ((HB1.out.trans (hb.mono HB1.out.size)).alloc (HB1.out.trans (hb.mono HB1.out.size)).size (.cells #[.int .i64 0, .int .i64 0, .int .i64 0, .int .i64 0, .slice none 0 0] 24))
    have HO := Lib.hid (Whole.made w2 24 #[.int .i64 0, .int .i64 0, .int .i64 0, .int .i64 0, .slice none 0 0])
    clear hb
    go_wp2_with fail
    refine (awake_any _).mono ?_
    rintro e w3 ⟨rfl, hb⟩
    have HB3 := Lib.hid (HB2.out.trans (hb.mono HB2.out.size))
    obtain ⟨i1, i2, i3⟩ := five_facts (HO.out.here hb)
    clear hb
    go_wp2_with fail
    go_ret
    exact ⟨rfl, HB3.out⟩
  · have hb2 := HB1.out.trans (hb.mono HB1.out.size)
    have HB2 := Lib.hid hb2
    obtain ⟨g1, g2, g3⟩ := hf.good hll hg
    obtain ⟨rfl, rfl, rfl, rfl⟩ := hf.eq
    obtain ⟨pk, hpk⟩ : ∃ p, pkN (l.map Int.toNat) B' S P (H' * S) (H' * P) = p := ⟨_, rfl⟩
    rw [hpk] at g1 g2 g3 hrow
    have HF := Lib.hid hF
    have HFN := Lib.hid hf
    have hnn : n2 = H' * P := by rw [← HL.out.len]; exact hll
    subst hnn
    have hG := hf.hs
    have hN := hf.n2
    obtain ⟨G, hGe⟩ : ∃ G, H' * S = G := ⟨_, rfl⟩
    obtain ⟨N, hNe⟩ : ∃ N, H' * P = N := ⟨_, rfl⟩
    have HSM : Hid (∀ (A : Option Addr) (c : Nat) (w : World), Bytes w A G c pk → Calls Try.prog 10 #[.agg #[.int .i64 (W' : Int), .int .i64 (H' : Int), .int .i64 (B' : Int), .int .i64 (C' : Int), .slice A G c]] w fun e w' => ∃ R, e = .returned (.tuple #[.slice (some ⟨R, 0, none⟩) N N, .int .i64 0]) ∧ IntsAt w' (some ⟨R, 0, none⟩) N N l ∧ Below w.heap.size w w') := Lib.hid (by
      intro A c w hA
      rw [← hGe] at hA ⊢
      have := samples_fmt HFN.out HF.out hA
      rw [g3, hNe] at this
      exact this.mono fun e w' ⟨R, h1, h2, h3, _⟩ => ⟨R, h1, h2, h3⟩)
    have HCK : Hid (∀ (A : Option Addr) (c : Nat) (w : World), Calls Try.prog 17 #[.agg #[.int .i64 (W' : Int), .int .i64 (H' : Int), .int .i64 (B' : Int), .int .i64 (C' : Int), .slice A G c]] w fun e w' => e = .returned (.int .i64 0) ∧ Below w.heap.size w w') := Lib.hid (by
      intro A c w
      have := rcheck_any (W' : Int) (H' : Int) (B' : Int) (C' : Int) A G c w
      rw [← hGe, HFN.out.chk HF.out] at this
      rw [← hGe]
      exact this)
    have HPK2 : Hid (∀ (A A3 : Option Addr) (c c3 : Nat) (w : World), IntsAt w A3 N c3 l → Calls Try.prog 12 #[.agg #[.int .i64 (W' : Int), .int .i64 (H' : Int), .int .i64 (B' : Int), .int .i64 (C' : Int), .slice A G c], .slice A3 N c3] w fun e w' => ∃ R, e = .returned (.tuple #[.agg #[.int .i64 (W' : Int), .int .i64 (H' : Int), .int .i64 (B' : Int), .int .i64 (C' : Int), .slice (some ⟨R, 0, none⟩) G G], .int .i64 0]) ∧ Bytes w' (some ⟨R, 0, none⟩) G G pk ∧ Below w.heap.size w w') := Lib.hid (by
      intro A A3 c c3 w hA
      refine (pack_go W' H' B' C' P S N A G c A3 c3 l w HF.out HFN.out.p HFN.out.p2 HFN.out.p0 HFN.out.b HFN.out.s (by have := HFN.out.pb; omega) (by omega) hNe (by omega) hA).mono ?_
      rintro e w' (⟨-, R, he, hw, hb⟩ | ⟨k, -⟩)
      · rw [← hNe, hpk] at hw
        rw [hGe] at he
        exact ⟨R, he, Bytes.whole hw (by rw [g1, hGe]) (by omega) g2, hb⟩
      · exact absurd hg k)
    rw [hGe] at g1 ⊢
    rw [hNe] at HL ⊢
    have HBY := Lib.hid (Bytes.whole hrow g1 (by omega) g2)
    have HLI := Lib.hid (HL.out.below hb2)
    clear hb hb2 hrow hpk hGe hNe hF hf hg hll g3 HPK HFEW g1 g2
    have HO := Lib.hid (Whole.made w2 24 #[.int .i64 (W' : Int), .int .i64 (H' : Int), .int .i64 (B' : Int), .int .i64 (C' : Int), .slice (some ⟨R, 0, none⟩) G G])
    have hbA : Below w2.heap.size w2 (w2.alloc (.cells #[.int .i64 (W' : Int), .int .i64 (H' : Int), .int .i64 (B' : Int), .int .i64 (C' : Int), .slice (some ⟨R, 0, none⟩) G G] 24)) := (Below.refl _ _).alloc (Nat.le_refl _) _
    have HB3 := Lib.hid (HB2.out.trans (hbA.mono HB2.out.size))
    have HBY3 := Lib.hid (HBY.out.below hbA)
    have HLI3 := Lib.hid (HLI.out.below hbA)
    have cm := HO.out.reads
    have lm := HO.out.lt
    clear hbA HB2 HBY HLI
    go_wp2_with fail
    refine (HSM.out _ _ _ HBY3.out).mono ?_
    rintro e w4 ⟨R4, rfl, hi, hb⟩
    have HB4 := Lib.hid (HB3.out.trans (hb.mono HB3.out.size))
    have HA4 := Lib.hid (And.intro (HBY3.out.below hb) (And.intro (HLI3.out.below hb) (And.intro hi (HO.out.here hb))))
    have cm := HA4.out.2.2.2.reads
    have lm := HA4.out.2.2.2.lt
    clear hi hb HB3 HBY3 HLI3 HO
    go_wp2_with fail
    refine (HPK2.out _ _ _ _ _ HA4.out.2.2.1).mono ?_
    rintro e w5 ⟨R5, rfl, hi, hb⟩
    have hbA : Below w4.heap.size w4 (w5.alloc (.cells #[.int .i64 (W' : Int), .int .i64 (H' : Int), .int .i64 (B' : Int), .int .i64 (C' : Int), .slice (some ⟨R5, 0, none⟩) G G] 24)) := hb.alloc hb.size _
    have HB5 := Lib.hid (HB4.out.trans (hbA.mono HB4.out.size))
    have HA5 := Lib.hid (And.intro (HA4.out.1.below hbA) (And.intro (HA4.out.2.1.below hbA) (And.intro (HA4.out.2.2.1.below hbA) (And.intro (HA4.out.2.2.2.here hbA) (And.intro (hi.below ((Below.refl _ _).alloc (Nat.le_refl _) (.cells #[.int .i64 (W' : Int), .int .i64 (H' : Int), .int .i64 (B' : Int), .int .i64 (C' : Int), .slice (some ⟨R5, 0, none⟩) G G] 24))) (Whole.made w5 24 #[.int .i64 (W' : Int), .int .i64 (H' : Int), .int .i64 (B' : Int), .int .i64 (C' : Int), .slice (some ⟨R5, 0, none⟩) G G]))))))
    clear hi hb hbA HA4 HB4 cm lm
    go_wp2_with fail
    refine (awake_any _).mono ?_
    rintro e w6 ⟨rfl, hb⟩
    have HB6 := Lib.hid (HB5.out.trans (hb.mono HB5.out.size))
    have HA6 := Lib.hid (And.intro (HA5.out.1.below hb) (And.intro (HA5.out.2.1.below hb) (And.intro (HA5.out.2.2.1.below hb) (And.intro (HA5.out.2.2.2.1.here hb) (And.intro (HA5.out.2.2.2.2.1.below hb) (HA5.out.2.2.2.2.2.here hb))))))
    have cm := HA6.out.2.2.2.1.reads
    have lm := HA6.out.2.2.2.1.lt
    clear hb HA5 HB5
    go_wp2_with fail
    refine (HCK.out _ _ _).mono ?_
    rintro e w7 ⟨rfl, hb⟩
    have HB7 := Lib.hid (HB6.out.trans (hb.mono HB6.out.size))
    have HA7 := Lib.hid (And.intro (HA6.out.1.below hb) (And.intro (HA6.out.2.1.below hb) (And.intro (HA6.out.2.2.1.below hb) (And.intro (HA6.out.2.2.2.1.here hb) (And.intro (HA6.out.2.2.2.2.1.below hb) (HA6.out.2.2.2.2.2.here hb))))))
    clear hb HA6 HB6 cm lm
    go_wp2_with fail
    refine (ints_same _ _ _ _ _ _ _ _ HA7.out.2.1 HA7.out.2.2.1).mono ?_
    rintro e w8 ⟨rfl, j, rfl⟩
    have hb : Below w7.heap.size w7 (w7.drewN j) := bdrewNr (Below.refl _ _) _
    generalize w7.drewN j = W8 at hb ⊢
    have HB8 := Lib.hid (HB7.out.trans (hb.mono HB7.out.size))
    have HA8 := Lib.hid (And.intro (HA7.out.1.below hb) (And.intro (HA7.out.2.2.2.1.here hb) (And.intro (HA7.out.2.2.2.2.1.below hb) (HA7.out.2.2.2.2.2.here hb))))
    have cm := HA8.out.2.1.reads
    have lm := HA8.out.2.1.lt
    have cn := HA8.out.2.2.2.reads
    have ln := HA8.out.2.2.2.lt
    clear hb HA7 HB7
    go_wp2_with fail
    refine (same_true _ _ _ _ _ _ _ _ _ _ _ _ HA8.out.1 HA8.out.2.2.1).mono ?_
    rintro e w9 ⟨rfl, hb⟩
    have HB9 := Lib.hid (HB8.out.trans (hb.mono HB8.out.size))
    clear hb
    go_wp2_with fail
    go_ret
    exact ⟨rfl, HB9.out⟩
end Go.Proofs.Ytmleoagdelgddaa
