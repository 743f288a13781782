/- raster: Blank at any image; RasterBlanks. Written by gen_blanks.py. -/
import Derived.Test.YtmleoagdelgddaaRasBl
namespace Go.Proofs.Ytmleoagdelgddaa
open Go.RowKit Dec

set_option maxRecDepth 100000 in
set_option maxHeartbeats 4000000 in
theorem blank_chk (W H B C : Int) (A : Option Addr) (n c : Nat) (A2 : Option Addr) (n2 c2 : Nat) (w : World) (hk : chkB W H B C n = false) :
    Calls Try.prog 14 #[.agg #[.int .i64 W, .int .i64 H, .int .i64 B, .int .i64 C, .slice A n c], .slice A2 n2 c2] w (NoImg w) := by
  have HC := Lib.hid (fun w => rcheck_any W H B C A n c w)
  rw [hk] at HC
  obtain ⟨hI, hC1, hO, hB0⟩ := start_blank w (.int .i64 W) (.int .i64 H) (.int .i64 B) (.int .i64 C) (.slice A n c) (.slice A2 n2 c2)
  have HO0 := Lib.hid hO
  have HB0 := Lib.hid hB0
  clear hI hC1 hO hB0 hk
  go_enter Try.func14, Try.ntmps14
  go_wp2_with fail
  refine (HC.out _).mono ?_
  rintro x v ⟨rfl, kk⟩
  have HO := Lib.hid (HO0.out.here kk)
  have HB := Lib.hid (HB0.out.trans (kk.mono HB0.out.size))
  obtain ⟨p1, p2, p3⟩ := five_facts HO.out
  clear kk
  go_wp2_with fail
  refine ret_img (E := 1) (g := w.heap.size + 1 + 1) (five_set HO.out) (fun V hV => by have rv := hV.reads; simp [results, Try.results14, go_sem, rv]) rfl ?_
  exact ⟨rfl, five_below HB.out (by omega) _ _ _ _ _⟩
set_option maxRecDepth 100000 in
set_option maxHeartbeats 4000000 in
theorem blank_len (W H B C : Nat) (A : Option Addr) (n c : Nat) (A2 : Option Addr) (n2 c2 : Nat) (w : World) (hk : chkB (W : Int) (H : Int) (B : Int) (C : Int) n = true) (hwh : W * H ≤ 65536) (hne : n2 ≠ W * H) :
    Calls Try.prog 14 #[.agg #[.int .i64 (W : Int), .int .i64 (H : Int), .int .i64 (B : Int), .int .i64 (C : Int), .slice A n c], .slice A2 n2 c2] w (NoImg w) := by
  have HC := Lib.hid (fun w => rcheck_any (W : Int) (H : Int) (B : Int) (C : Int) A n c w)
  rw [hk] at HC
  obtain ⟨Q, hQ⟩ : ∃ Q, W * H = Q := ⟨_, rfl⟩
  rw [hQ] at hwh hne
  have e2 : IntKind.i64.wrap ((W : Int) * (H : Int)) = (Q : Int) := by rw [← Int.natCast_mul, hQ, IntKind.wrap_i64]; omega
  have d1 : ((n2 : Int) != (Q : Int)) = true := by simp; omega
  have d2 : ¬ (n2 : Int) = (Q : Int) := by omega
  obtain ⟨hI, hC1, hO, hB0⟩ := start_blank w (.int .i64 (W : Int)) (.int .i64 (H : Int)) (.int .i64 (B : Int)) (.int .i64 (C : Int)) (.slice A n c) (.slice A2 n2 c2)
  have HI0 := Lib.hid hI
  have HC0 := Lib.hid hC1
  have HO0 := Lib.hid hO
  have HB0 := Lib.hid hB0
  clear hI hC1 hO hB0 hk hQ
  go_enter Try.func14, Try.ntmps14
  go_wp2_with fail
  refine (HC.out _).mono ?_
  rintro x v ⟨rfl, kk⟩
  have HO := Lib.hid (HO0.out.here kk)
  have HB := Lib.hid (HB0.out.trans (kk.mono HB0.out.size))
  obtain ⟨p1, p2, p3⟩ := five_facts HO.out
  obtain ⟨i1, i2, i3⟩ := five_facts (HI0.out.here kk)
  have cc := (HC0.out.here kk).reads 0
  have lc := (HC0.out.here kk).lt
  clear kk
  go_wp2_with fail
  refine ret_img (E := 1) (g := w.heap.size + 1 + 1) (five_set HO.out) (fun V hV => by have rv := hV.reads; simp [results, Try.results14, go_sem, rv]) rfl ?_
  exact ⟨rfl, five_below HB.out (by omega) _ _ _ _ _⟩
/-- What Blank answers at any image. -/
def BlankIs (W H B C : Int) (n n2 : Nat) (bs : List Nat) (cl : List Bool) (w : World) (e : Ending) (w' : World) : Prop :=
  (¬ (chkB W H B C n = true ∧ (n2 : Int) = W * H) ∧ NoImg w e w') ∨
  (∃ W' H' B' C' P S : Nat, fmtB W H B C = true ∧ FmtN W H B C W' H' B' C' P S ∧ n = H' * S ∧ n2 = W' * H' ∧ PackGo W' H' B' C' P S (H' * P) ((List.range (H' * P)).map fun i => ((msk cl C' (smp bs B' S P) i : Nat) : Int)) w e w')
theorem chk_fmt {W H B C : Int} {n : Nat} (h : chkB W H B C n = true) : fmtB W H B C = true ∧ ∃ W' H' B' C' P S : Nat, FmtN W H B C W' H' B' C' P S ∧ n = H' * S := by
  have hF : fmtB W H B C = true := by
    unfold chkB at h
    exact (Bool.and_eq_true _ _ ▸ h).1
  obtain ⟨W', H', B', C', P, S, hf⟩ := fmt_n hF
  refine ⟨hF, W', H', B', C', P, S, hf, ?_⟩
  obtain ⟨rfl, rfl, rfl, rfl⟩ := hf.eq
  unfold chkB at h
  rw [hF, Bool.true_and] at h
  have := of_decide_eq_true h
  rw [Int.toNat_natCast, Int.toNat_natCast, Int.toNat_natCast, hf.rs, ← Int.natCast_mul] at this
  omega
theorem blank_any (W H B C : Int) (A : Option Addr) (n c : Nat) (bs : List Nat) (A2 : Option Addr) (n2 c2 : Nat) (cl : List Bool) (w : World) (hA : Bytes w A n c bs) (h2 : BoolsAt w A2 n2 c2 cl) :
    Calls Try.prog 14 #[.agg #[.int .i64 W, .int .i64 H, .int .i64 B, .int .i64 C, .slice A n c], .slice A2 n2 c2] w (BlankIs W H B C n n2 bs cl w) := by
  cases hk : chkB W H B C n
  · exact (blank_chk W H B C A n c A2 n2 c2 w hk).mono fun e w' h => .inl ⟨(fun k => by rw [hk] at k; cases k.1), h⟩
  · obtain ⟨hF, W', H', B', C', P, S, hf, hn⟩ := chk_fmt hk
    have hf0 := hf
    obtain ⟨rfl, rfl, rfl, rfl⟩ := hf.eq
    by_cases hq : n2 = W' * H'
    · subst hq
      exact (blank_good W' H' B' C' P S (H' * P) A n c bs A2 c2 cl w hA h2 hF hf rfl hn).mono fun e w' h => .inr ⟨W', H', B', C', P, S, hF, hf0, hn, rfl, h⟩
    · exact (blank_len W' H' B' C' A n c A2 n2 c2 w hk hf.wh hq).mono fun e w' h => .inl ⟨(fun k => hq (by have := k.2; rw [← Int.natCast_mul] at this; omega)), h⟩
theorem msk_msk {cl : List Bool} {C N : Nat} {f g : Nat → Nat} (h : ∀ i, i < N → g i = msk cl C f i) : (List.range N).map (fun i => ((msk cl C g i : Nat) : Int)) = (List.range N).map (fun i => ((msk cl C f i : Nat) : Int)) := by
  apply List.map_congr_left
  intro i hi
  have := h i (List.mem_range.1 hi)
  unfold msk at this ⊢
  rw [this]
  split <;> rfl
theorem IntsAt.cell0 {w : World} {R n c k : Nat} {l : List Int} {x : Int} (h : IntsAt w (some ⟨R, 0, none⟩) n c l) (hx : l[k]? = some x) : w.cell? ⟨R, k, none⟩ = some (.int .i64 x) := by
  have hk := (List.getElem?_eq_some_iff.1 hx).1
  obtain ⟨R', o', e, _, hc⟩ := h.at_ (by have := h.len; omega)
  injection e with e
  injection e with e1 e2
  subst e1 e2
  have := hc k x hx
  rwa [Nat.zero_add] at this
set_option maxRecDepth 100000 in
set_option maxHeartbeats 8000000 in
theorem blanks_law (W H B C : Int) (A : Option Addr) (n c : Nat) (bs : List Nat) (A2 : Option Addr) (n2 c2 : Nat) (cl : List Bool) (w : World) (hA : Bytes w A n c bs) (h2 : BoolsAt w A2 n2 c2 cl) :
    Calls Try.prog 6 #[.agg #[.int .i64 W, .int .i64 H, .int .i64 B, .int .i64 C, .slice A n c], .slice A2 n2 c2] w fun e w' => e = .returned (.bool true) ∧ Below w.heap.size w w' := by
  have HFEW := Lib.hid (fun w => few_any W H B C A n c w)
  have HBK := Lib.hid (fun w hA h2 => blank_any W H B C A n c bs A2 n2 c2 cl w hA h2)
  have HAA := Lib.hid hA
  have HCC := Lib.hid h2
  have HI := Lib.hid (Whole.made w 24 #[.int .i64 W, .int .i64 H, .int .i64 B, .int .i64 C, .slice A n c])
  have HV := Lib.hid ((Below.refl w.heap.size w).alloc (Nat.le_refl _) (.cells #[.int .i64 W, .int .i64 H, .int .i64 B, .int .i64 C, .slice A n c] 24))
  clear hA h2
  go_enter Try.func6, Try.ntmps6
  go_wp2_with fail
  refine (HFEW.out _).mono ?_
  rintro e w1 ⟨⟨r, rfl⟩, hb⟩
  have HB1 := Lib.hid (HV.out.trans (hb.mono HV.out.size))
  have HI1 := Lib.hid (HI.out.here hb)
  clear hb
  cases r
  · go_wp2_with fail
    go_ret
    exact ⟨rfl, HB1.out⟩
  by_cases h2 : 2000 < n2
  · have d1 : decide ((2000 : Int) < (n2 : Int)) = true := decide_eq_true (by omega)
    clear h2
    go_wp2_with fail
    go_ret
    exact ⟨rfl, HB1.out⟩
  have d1 : decide ((2000 : Int) < (n2 : Int)) = false := decide_eq_false (by omega)
  clear h2
  obtain ⟨i1, i2, i3⟩ := five_facts HI1.out
  go_wp2_with fail
  refine (HBK.out _ (HAA.out.below HB1.out) (HCC.out.below HB1.out)).mono ?_
  clear i1 i2 i3
  rintro e w2 (⟨-, rfl, hb⟩ | ⟨W', H', B', C', P, S, hF, hf, hn, hn2, R, rfl, hrow, hb⟩)
  · have HB2 := Lib.hid ((HB1.out.trans (hb.mono HB1.out.size)).alloc (HB1.out.trans (hb.mono HB1.out.size)).size (.cells #[.int .i64 0, .int .i64 0, .int .i64 0, .int .i64 0, .slice none 0 0] 24))
    have HO := Lib.hid (Whole.made w2 24 #[.int .i64 0, .int .i64 0, .int .i64 0, .int .i64 0, .slice none 0 0])
    clear hb
    go_wp2_with fail
    refine (awake_any _).mono ?_
    rintro e w3 ⟨rfl, hb⟩
    have HB3 := Lib.hid (HB2.out.trans (hb.mono HB2.out.size))
    obtain ⟨i1, i2, i3⟩ := five_facts (HO.out.here hb)
    clear hb
    go_wp2_with fail
    go_ret
    exact ⟨rfl, HB3.out⟩
  have hb2 := HB1.out.trans (hb.mono HB1.out.size)
  have HB2 := Lib.hid hb2
  have hl0 : ((List.range (H' * P)).map fun i => ((msk cl C' (smp bs B' S P) i : Nat) : Int)).length = H' * P := by simp
  have hB16 : B' = 16 ∨ B' ≤ 8 := by have := hf.b; omega
  have hgv : ∀ v ∈ (List.range (H' * P)).map fun i => ((msk cl C' (smp bs B' S P) i : Nat) : Int), goodV B' v := fun v hv => by
    obtain ⟨i, -, rfl⟩ := List.mem_map.1 hv
    have : msk cl C' (smp bs B' S P) i < 2 ^ B' := by
      unfold msk
      split
      · exact Nat.two_pow_pos _
      · exact smp_lt S P i HAA.out.byte hB16
    exact ⟨by omega, by omega⟩
  obtain ⟨g1, g2, g3⟩ := hf.good hl0 hgv
  obtain ⟨rfl, rfl, rfl, rfl⟩ := hf.eq
  subst hn hn2
  have hC0 := hf.c0
  have hN := hf.n2
  have hG := hf.hs
  have hQ9 := hf.wh
  have hQN : H' * P = W' * H' * C' := by rw [← hf.p, ← Nat.mul_assoc, Nat.mul_comm H' W']
  obtain ⟨pk, hpk⟩ : ∃ p, pkN (((List.range (H' * P)).map fun i => ((msk cl C' (smp bs B' S P) i : Nat) : Int)).map Int.toNat) B' S P (H' * S) (H' * P) = p := ⟨_, rfl⟩
  rw [hpk] at g1 g2 g3 hrow
  have hsm : ∀ i, i < H' * P → smp pk B' S P i = msk cl C' (smp bs B' S P) i := fun i hi => by
    have := congrArg (fun l => l[i]?) g3
    simp [List.getElem?_range hi] at this
    omega
  have HF := Lib.hid hF
  have HFN := Lib.hid hf
  have HSM := Lib.hid hsm
  obtain ⟨G, hGe⟩ : ∃ G, H' * S = G := ⟨_, rfl⟩
  obtain ⟨N, hNe⟩ : ∃ N, H' * P = N := ⟨_, rfl⟩
  obtain ⟨Q, hQe⟩ : ∃ Q, W' * H' = Q := ⟨_, rfl⟩
  have HBK2 : Hid (∀ (A : Option Addr) (w : World) (c : Nat), Bytes w A G c pk → BoolsAt w A2 Q c2 cl → Calls Try.prog 14 #[.agg #[.int .i64 (W' : Int), .int .i64 (H' : Int), .int .i64 (B' : Int), .int .i64 (C' : Int), .slice A G c], .slice A2 Q c2] w fun e w' => ∃ R, e = .returned (.tuple #[.agg #[.int .i64 (W' : Int), .int .i64 (H' : Int), .int .i64 (B' : Int), .int .i64 (C' : Int), .slice (some ⟨R, 0, none⟩) G G], .int .i64 0]) ∧ Bytes w' (some ⟨R, 0, none⟩) G G pk ∧ Below w.heap.size w w') := Lib.hid (fun A w c hA h2 => by
    rw [← hGe] at hA
    rw [← hQe] at h2
    have := blank_good W' H' B' C' P S (H' * P) A (H' * S) c pk A2 c2 cl w hA h2 HF.out HFN.out rfl rfl
    rw [msk_msk hsm] at this
    rw [← hGe, ← hQe]
    exact this.mono fun e w' ⟨R, he, hw, hb⟩ => ⟨R, he, Bytes.whole (by rw [hpk] at hw; exact hw) g1 (by omega) g2, hb⟩)
  have HS1 : Hid (∀ (A : Option Addr) (w : World) (c : Nat) (bs : List Nat), Bytes w A G c bs → Calls Try.prog 10 #[.agg #[.int .i64 (W' : Int), .int .i64 (H' : Int), .int .i64 (B' : Int), .int .i64 (C' : Int), .slice A G c]] w fun e w' => ∃ R, e = .returned (.tuple #[.slice (some ⟨R, 0, none⟩) N N, .int .i64 0]) ∧ IntsAt w' (some ⟨R, 0, none⟩) N N ((List.range N).map (fun i => ((smp bs B' S P i : Nat) : Int))) ∧ Below w.heap.size w w') := Lib.hid (fun A w c bs hA => by
    rw [← hGe] at hA ⊢
    have := samples_fmt HFN.out HF.out hA
    rw [hNe] at this
    exact this.mono fun e w' ⟨R, h1, h2, h3, _⟩ => ⟨R, h1, h2, h3⟩)
  rw [hGe] at g1 HAA HBK HFEW hG ⊢
  rw [hQe] at HCC hQ9 hQN HBK ⊢
  rw [hNe] at HSM hQN hN
  have HBY := Lib.hid (Bytes.whole hrow g1 (by omega) g2)
  have HI2 := Lib.hid (HI1.out.here hb)
  clear hb hb2 hrow hpk hNe hF hf g3 HBK HFEW g1 g2 HI1 HI hsm hgv hl0 hQe
  rw [hGe] at HI2
  clear hGe
  have HO := Lib.hid (Whole.made w2 24 #[.int .i64 (W' : Int), .int .i64 (H' : Int), .int .i64 (B' : Int), .int .i64 (C' : Int), .slice (some ⟨R, 0, none⟩) G G])
  have hbA : Below w2.heap.size w2 (w2.alloc (.cells #[.int .i64 (W' : Int), .int .i64 (H' : Int), .int .i64 (B' : Int), .int .i64 (C' : Int), .slice (some ⟨R, 0, none⟩) G G] 24)) := (Below.refl _ _).alloc (Nat.le_refl _) _
  have HB3 := Lib.hid (HB2.out.trans (hbA.mono HB2.out.size))
  have HBY3 := Lib.hid (HBY.out.below hbA)
  have HI3 := Lib.hid (HI2.out.here hbA)
  have cm := HO.out.reads
  have lm := HO.out.lt
  clear hbA HB2 HBY HI2
  go_wp2_with fail
  refine (HBK2.out _ _ _ HBY3.out (HCC.out.below HB3.out)).mono ?_
  rintro e w4 ⟨R4, rfl, hby, hb⟩
  have hbA : Below (w2.alloc (.cells #[.int .i64 (W' : Int), .int .i64 (H' : Int), .int .i64 (B' : Int), .int .i64 (C' : Int), .slice (some ⟨R, 0, none⟩) G G] 24)).heap.size (w2.alloc (.cells #[.int .i64 (W' : Int), .int .i64 (H' : Int), .int .i64 (B' : Int), .int .i64 (C' : Int), .slice (some ⟨R, 0, none⟩) G G] 24)) (w4.alloc (.cells #[.int .i64 (W' : Int), .int .i64 (H' : Int), .int .i64 (B' : Int), .int .i64 (C' : Int), .slice (some ⟨R4, 0, none⟩) G G] 24)) := hb.alloc hb.size _
  have HB4 := Lib.hid (HB3.out.trans (hbA.mono HB3.out.size))
  have HA4 := Lib.hid (And.intro (HBY3.out.below hbA) (And.intro (HO.out.here hbA) (And.intro (HI3.out.here hbA) (And.intro (hby.below ((Below.refl _ _).alloc (Nat.le_refl _) (.cells #[.int .i64 (W' : Int), .int .i64 (H' : Int), .int .i64 (B' : Int), .int .i64 (C' : Int), .slice (some ⟨R4, 0, none⟩) G G] 24))) (Whole.made w4 24 #[.int .i64 (W' : Int), .int .i64 (H' : Int), .int .i64 (B' : Int), .int .i64 (C' : Int), .slice (some ⟨R4, 0, none⟩) G G])))))
  have cm := HA4.out.2.2.1.reads
  have lm := HA4.out.2.2.1.lt
  clear hby hb hbA HB3 HBY3 HI3 HO
  go_wp2_with fail
  refine (HS1.out _ _ _ _ (HAA.out.below HB4.out)).mono ?_
  rintro e w5 ⟨R5, rfl, hi, hb⟩
  have HB5 := Lib.hid (HB4.out.trans (hb.mono HB4.out.size))
  have HA5 := Lib.hid (And.intro (HA4.out.1.below hb) (And.intro (HA4.out.2.1.here hb) (And.intro (HA4.out.2.2.1.here hb) (And.intro (HA4.out.2.2.2.1.below hb) (And.intro (HA4.out.2.2.2.2.here hb) hi)))))
  have cm := HA5.out.2.1.reads
  have lm := HA5.out.2.1.lt
  clear hi hb HA4 HB4
  go_wp2_with fail
  refine (HS1.out _ _ _ _ HA5.out.1).mono ?_
  rintro e w6 ⟨R6, rfl, hi, hb⟩
  have HB6 := Lib.hid (HB5.out.trans (hb.mono HB5.out.size))
  have HA6 := Lib.hid (And.intro (HA5.out.1.below hb) (And.intro (HA5.out.2.1.here hb) (And.intro (HA5.out.2.2.1.here hb) (And.intro (HA5.out.2.2.2.1.below hb) (And.intro (HA5.out.2.2.2.2.1.here hb) (And.intro (HA5.out.2.2.2.2.2.below hb) hi))))))
  have cm := HA6.out.2.1.reads
  have lm := HA6.out.2.1.lt
  have cn := HA6.out.2.2.2.2.1.reads
  have ln := HA6.out.2.2.2.2.1.lt
  clear hi hb HA5 HB5
  go_wp2_with fail
  refine (same_true _ _ _ _ _ _ _ _ _ _ _ _ HA6.out.1 HA6.out.2.2.2.1).mono ?_
  rintro e w7 ⟨rfl, hb⟩
  have HB7 := Lib.hid (HB6.out.trans (hb.mono HB6.out.size))
  have HA7 := Lib.hid (And.intro (HA6.out.2.2.1.here hb) (And.intro (HA6.out.2.2.2.2.2.1.below hb) (HA6.out.2.2.2.2.2.2.below hb)))
  clear hb HA6 HB6 cm lm cn ln
  go_wp2_with fail
  go_loopw [13] (fun i wr => ∃ k : Nat, i = .int .i64 (k : Int) ∧ k ≤ N ∧ Hid (Below w7.heap.size w7 wr)) (fun i _ => N - (intOf i).toNat)
  case atStart => exact ⟨0, rfl, by omega, Lib.hid (Below.refl _ _)⟩
  case round =>
    obtain ⟨k, rfl, hk, HR⟩ := hrel
    have sR := HR.out.size
    by_cases hlt : k < N
    · have d2 : decide ((k : Int) < (N : Int)) = true := decide_eq_true (by omega)
      have hmq : k / C' < Q := by rw [Nat.div_lt_iff_lt_mul hC0, ← hQN]; exact hlt
      obtain ⟨cv, hcv⟩ : ∃ cv, cl[k / C']? = some cv := ⟨_, List.getElem?_eq_getElem (by rw [HCC.out.len]; exact hmq)⟩
      obtain ⟨R2, o2, eA2, hR2, hcell⟩ := (HCC.out.below (HB7.out.trans (HR.out.mono HB7.out.size))).at_ (Nat.lt_of_le_of_lt (Nat.zero_le _) hmq)
      subst eA2
      have hcq := hcell (k / C') cv hcv
      have hgd : cl.getD (k / C') false = cv := by rw [List.getD_eq_getElem?_getD, hcv]; rfl
      have hl1 := (HA7.out.2.1.below HR.out)
      have hl2 := (HA7.out.2.2.below HR.out)
      have x1 := hl1.cell0 (k := k) (x := ((smp bs B' S P k : Nat) : Int)) (by simp [List.getElem?_range hlt])
      have x2 := hl2.cell0 (k := k) (x := ((smp pk B' S P k : Nat) : Int)) (by simp [List.getElem?_range hlt])
      rw [HSM.out k hlt] at x2
      unfold msk at x2
      rw [hgd] at x2
      obtain ⟨y, hy⟩ : ∃ y, smp bs B' S P k = y := ⟨_, rfl⟩
      rw [hy] at x1 x2
      have lx1 := World.block_lt_of_cell? _ _ x1
      have lx2 := World.block_lt_of_cell? _ _ x2
      obtain ⟨q, hq⟩ : ∃ q, k / C' = q := ⟨_, rfl⟩
      have t1 : (k : Int).tdiv (C' : Int) = (q : Int) := by rw [Int.tdiv_eq_ediv_of_nonneg (by omega), ← hq]; rfl
      have t3 : IntKind.i64.wrap (q : Int) = (q : Int) := by rw [IntKind.wrap_i64]; omega
      rw [hq] at hcq hmq
      have hC9 : ¬ (C' : Int) = 0 := by omega
      have hC8 : ¬ C' = 0 := by omega
      have hC7 : decide ((C' : Int) < 1) = false := decide_eq_false (by omega)
      have d4 : decide ((Q : Int) ≤ (q : Int)) = false := decide_eq_false (by omega)
      have d5 : decide (Q ≤ q) = false := decide_eq_false (by omega)
      have b0 : (0 : Int) ≤ (q : Int) := by omega
      have b1 : (q : Int) < (Q : Int) := by omega
      have bk0 : (0 : Int) ≤ (k : Int) := by omega
      have bk1 : (k : Int) < (N : Int) := by omega
      obtain ⟨i1, i2, i3⟩ := five_facts (HA7.out.1.here HR.out)
      clear hq hcv hcell hgd hl1 hl2 hy hR2
      cases cv
      · have x3 : wr.cell? ⟨R6, k, none⟩ = some (.int .i64 (y : Int)) := by simpa using x2
        clear x2
        go_wp2_with fail
        go_roundw
        case rel => exact ⟨k + 1, by go_num, by omega, HR⟩
        case measure => simp [intOf]; omega
      · have x3 : wr.cell? ⟨R6, k, none⟩ = some (.int .i64 0) := by simpa using x2
        clear x2
        go_wp2_with fail
        go_roundw
        case rel => exact ⟨k + 1, by go_num, by omega, HR⟩
        case measure => simp [intOf]; omega
    · obtain rfl : k = N := by omega
      have d2 : decide ((k : Int) < (k : Int)) = false := by simp
      go_wp2_with fail
      refine (awake_any _).mono ?_
      rintro e w8 ⟨rfl, hb⟩
      have HB8 := Lib.hid (HB7.out.trans ((HR.out.trans (hb.mono HR.out.size)).mono HB7.out.size))
      clear hb
      go_wp2_with fail
      go_ret
      exact ⟨rfl, HB8.out⟩
end Go.Proofs.Ytmleoagdelgddaa
