/- raster's law: what the code and the reference both answer. Written by gen_dj.py. -/
import Derived.Test.YtmleoagdelgddaaRasDi
namespace Go.Proofs.Ytmleoagdelgddaa
open Go.RowKit Dec

set_option maxRecDepth 100000 in
set_option maxHeartbeats 4000000 in
theorem few_le (W H B C : Int) (A : Option Addr) (n c : Nat) (w : World) :
    Calls Try.prog 9 #[.agg #[.int .i64 W, .int .i64 H, .int .i64 B, .int .i64 C, .slice A n c]] w fun e w' => (∃ r : Bool, e = .returned (.bool r) ∧ (r = true → n ≤ 600)) ∧ Below w.heap.size w w' := by
  have HS := Lib.hid (fun w => shape_any W H B C A n c w)
  have HV := Lib.hid ((Below.refl w.heap.size w).alloc (Nat.le_refl _) (.cells #[.int .i64 W, .int .i64 H, .int .i64 B, .int .i64 C, .slice A n c] 24))
  obtain ⟨fm, hfm⟩ : ∃ s, fmtB W H B C = s := ⟨_, rfl⟩
  rw [hfm] at HS
  clear hfm
  by_cases h1 : n ≤ 600
  · have H1 := Lib.hid h1
    have d1 : decide ((n : Int) ≤ 600) = true := decide_eq_true (by omega)
    by_cases h2 : W ≤ 40
    · have d2 : decide (W ≤ 40) = true := decide_eq_true h2
      by_cases h3 : H ≤ 40
      · have d3 : decide (H ≤ 40) = true := decide_eq_true h3
        clear h1 h2 h3
        go_enter Try.func9, Try.ntmps9
        go_wp2_with fail
        go_ret
        exact ⟨⟨_, rfl, fun _ => H1.out⟩, HV.out⟩
      · have d3 : decide (H ≤ 40) = false := decide_eq_false h3
        clear h1 h2 h3
        go_enter Try.func9, Try.ntmps9
        go_wp2_with fail
        refine (HS.out _).mono ?_
        rintro e w1 ⟨rfl, hb⟩
        have HB := Lib.hid (HV.out.trans (hb.mono HV.out.size))
        clear hb
        go_wp2_with fail
        go_ret
        exact ⟨⟨_, rfl, fun _ => H1.out⟩, HB.out⟩
    · have d2 : decide (W ≤ 40) = false := decide_eq_false h2
      clear h1 h2
      go_enter Try.func9, Try.ntmps9
      go_wp2_with fail
      refine (HS.out _).mono ?_
      rintro e w1 ⟨rfl, hb⟩
      have HB := Lib.hid (HV.out.trans (hb.mono HV.out.size))
      clear hb
      go_wp2_with fail
      go_ret
      exact ⟨⟨_, rfl, fun _ => H1.out⟩, HB.out⟩
  · have d1 : decide ((n : Int) ≤ 600) = false := decide_eq_false (by omega)
    clear h1
    go_enter Try.func9, Try.ntmps9
    go_wp2_with fail
    go_ret
    exact ⟨⟨_, rfl, fun h => by simp at h⟩, HV.out⟩
/-- A call that answers these samples. -/
def SamIs (N : Nat) (l : List Int) (E : Int) (w : World) (e : Ending) (w' : World) : Prop :=
  ∃ A c, e = .returned (.tuple #[.slice A N c, .int .i64 E]) ∧ IntsAt w' A N c l ∧ Below w.heap.size w w'
/-- A call that answers this image. -/
def ImgIs (W H B C : Int) (G : Nat) (ob : List Nat) (E : Int) (w : World) (e : Ending) (w' : World) : Prop :=
  ∃ A c, e = .returned (.tuple #[.agg #[.int .i64 W, .int .i64 H, .int .i64 B, .int .i64 C, .slice A G c], .int .i64 E]) ∧ Bytes w' A G c ob ∧ Below w.heap.size w w'
theorem NoImg.img {w w' : World} {e : Ending} (h : NoImg w e w') : ImgIs 0 0 0 0 0 [] 1 w e w' :=
  ⟨none, 0, h.1, ⟨rfl, Nat.le_refl _, by omega, fun b hb => (by cases hb), fun h => absurd h (by omega)⟩, h.2⟩
theorem sam_nil (w : World) : IntsAt w none 0 0 [] := ⟨rfl, Nat.le_refl _, by omega, fun h => absurd h (by omega)⟩
theorem PackGo.img {W H B C P S N : Nat} {l : List Int} {w w' : World} {e : Ending} (hl : (pkN (l.map Int.toNat) B S P (H * S) N).length = H * S) (hb : ∀ x ∈ pkN (l.map Int.toNat) B S P (H * S) N, x < 256) (hm : H * S ≤ 786432) (h : PackGo W H B C P S N l w e w') :
    ImgIs W H B C (H * S) (pkN (l.map Int.toNat) B S P (H * S) N) 0 w e w' := by
  obtain ⟨R, he, hw, hbl⟩ := h
  exact ⟨_, _, he, Bytes.whole hw hl (by omega) hb, hbl⟩
theorem RPackGo.img {W H B C P S N : Nat} {l : List Int} {w w' : World} {e : Ending} (h : RPackGo W H B C P S N l w e w') :
    ImgIs W H B C (H * S) (pkN (l.map Int.toNat) B S P (H * S) N) 0 w e w' := by
  obtain ⟨v, he, ho, hb, hbl⟩ := h
  obtain ⟨A, c, rfl, hy⟩ := bytes_of ho hb
  exact ⟨A, c, he, hy, hbl⟩
theorem RPackGo.len {W H B C P S N : Nat} {l : List Int} {w w' : World} {e : Ending} (h : RPackGo W H B C P S N l w e w') : (pkN (l.map Int.toNat) B S P (H * S) N).length = H * S := by
  obtain ⟨v, he, ho, hb, hbl⟩ := h
  obtain ⟨A, c, rfl, hy⟩ := bytes_of ho hb
  exact hy.len
/-- Both sides' samples. -/
theorem sam_both (W H B C : Int) (n : Nat) (bs : List Nat) : ∃ (N : Nat) (l : List Int) (E : Int),
    (∀ A c w, Bytes w A n c bs → Calls Try.prog 10 #[.agg #[.int .i64 W, .int .i64 H, .int .i64 B, .int .i64 C, .slice A n c]] w (SamIs N l E w)) ∧
    (∀ A c w, Bytes w A n c bs → Calls Try.prog 11 #[.agg #[.int .i64 W, .int .i64 H, .int .i64 B, .int .i64 C, .slice A n c]] w (SamIs N l E w)) := by
  cases hk : chkB W H B C n
  · refine ⟨0, [], 1, fun A c w hA => (samples_bad W H B C A n c w hk).mono ?_, fun A c w hA => (rsamples_bad W H B C A n c w hk).mono ?_⟩
    · rintro e w' ⟨he, hb⟩
      exact ⟨none, 0, he, sam_nil _, hb⟩
    · rintro e w' ⟨he, hb⟩
      exact ⟨none, 0, he, sam_nil _, hb⟩
  · obtain ⟨hF, W', H', B', C', P, S, hf, rfl⟩ := chk_fmt hk
    obtain ⟨rfl, rfl, rfl, rfl⟩ := hf.eq
    refine ⟨H' * P, (List.range (H' * P)).map (fun i => ((smp bs B' S P i : Nat) : Int)), 0, fun A c w hA => (samples_fmt hf hF hA).mono ?_, fun A c w hA => (rsamples_good W' H' B' C' P S (H' * P) A (H' * S) c bs w hA hF hf rfl rfl (rfmt_h hF)).mono ?_⟩
    · rintro e w' ⟨R, he, hi, hb, -⟩
      exact ⟨_, _, he, hi, hb⟩
    · rintro e w' ⟨v, he, ho, hb⟩
      have hN : 0 < H' * P := Nat.mul_pos (rfmt_h hF) hf.p0
      obtain ⟨a, c5, rfl⟩ := own_sl' ho
      obtain ⟨g, rfl⟩ : ∃ g, a = some ⟨g, 0, none⟩ := by
        rcases ho.2 with ⟨e, e0⟩ | ⟨g, cap, cur, e, hg, _⟩
        · omega
        · injection e with e1 e2 e3
          exact ⟨g, e1⟩
      have hi := ints_own ho
      rw [List.map_map] at hi
      exact ⟨_, _, he, hi, hb⟩
/-- Both sides' packed image. -/
theorem pack_both (W H B C : Int) (n n2 : Nat) (l : List Int) : ∃ (W1 H1 B1 C1 : Int) (G : Nat) (ob : List Nat) (E : Int),
    (∀ A c A2 c2 w, IntsAt w A2 n2 c2 l → Calls Try.prog 12 #[.agg #[.int .i64 W, .int .i64 H, .int .i64 B, .int .i64 C, .slice A n c], .slice A2 n2 c2] w (ImgIs W1 H1 B1 C1 G ob E w)) ∧
    (∀ A c A2 c2 w, IntsAt w A2 n2 c2 l → Calls Try.prog 13 #[.agg #[.int .i64 W, .int .i64 H, .int .i64 B, .int .i64 C, .slice A n c], .slice A2 n2 c2] w (ImgIs W1 H1 B1 C1 G ob E w)) := by
  by_cases hc : fmtB W H B C = true ∧ (l.length : Int) = H * (W * C) ∧ ∀ v ∈ l, goodV B.toNat v
  · obtain ⟨hF, hll, hg⟩ := hc
    obtain ⟨W', H', B', C', P, S, hf⟩ := fmt_n hF
    obtain ⟨rfl, rfl, rfl, rfl⟩ := hf.eq
    rw [Int.toNat_natCast] at hg
    have hl9 : l.length = H' * P := by
      rw [← Int.natCast_mul, hf.p, ← Int.natCast_mul] at hll
      omega
    obtain ⟨g1, g2, -⟩ := hf.good hl9 hg
    refine ⟨W', H', B', C', H' * S, pkN (l.map Int.toNat) B' S P (H' * S) (H' * P), 0, fun A c A2 c2 w hA => ?_, fun A c A2 c2 w hA => ?_⟩
    · obtain rfl : n2 = H' * P := by rw [← hA.len]; exact hl9
      refine (pack_go W' H' B' C' P S (H' * P) A n c A2 c2 l w hF hf.p hf.p2 hf.p0 hf.b hf.s (by have := hf.pb; omega) (by have := hf.hs; omega) rfl hf.n2 hA).mono fun e w' h => ?_
      rcases h with ⟨-, h⟩ | ⟨h, -⟩
      · exact h.img g1 g2 hf.hs
      · exact absurd hg h
    · obtain rfl : n2 = H' * P := by rw [← hA.len]; exact hl9
      refine (rpack_go W' H' B' C' P S (H' * P) A n c A2 c2 l w hF hf rfl hA).mono fun e w' h => ?_
      rcases h with ⟨-, h⟩ | ⟨h, -⟩
      · exact h.img
      · exact absurd hg h
  · refine ⟨0, 0, 0, 0, 0, [], 1, fun A c A2 c2 w hA => (pack_any W H B C A n c A2 n2 c2 l w hA).mono fun e w' h => ?_, fun A c A2 c2 w hA => (rpack_any W H B C A n c A2 n2 c2 l w hA).mono fun e w' h => ?_⟩
    · rcases h with ⟨-, h⟩ | ⟨W', H', B', C', P, S, h1, h2, h3, h4, -⟩
      · exact h.img
      · refine absurd ⟨h1, ?_, ?_⟩ hc
        · obtain ⟨rfl, rfl, rfl, rfl⟩ := h2.eq
          rw [h3, ← Int.natCast_mul, h2.p, ← Int.natCast_mul]
        · obtain ⟨rfl, rfl, rfl, rfl⟩ := h2.eq
          rw [Int.toNat_natCast]; exact h4
    · rcases h with ⟨-, h⟩ | ⟨W', H', B', C', P, S, h1, h2, h3, h4, -⟩
      · exact h.img
      · refine absurd ⟨h1, ?_, ?_⟩ hc
        · obtain ⟨rfl, rfl, rfl, rfl⟩ := h2.eq
          rw [h3, ← Int.natCast_mul, h2.p, ← Int.natCast_mul]
        · obtain ⟨rfl, rfl, rfl, rfl⟩ := h2.eq
          rw [Int.toNat_natCast]; exact h4
/-- Both sides' blanked image. -/
theorem blank_both (W H B C : Int) (n : Nat) (bs : List Nat) (n2 : Nat) (cl : List Bool) : ∃ (W1 H1 B1 C1 : Int) (G : Nat) (ob : List Nat) (E : Int),
    (∀ A c A2 c2 w, Bytes w A n c bs → BoolsAt w A2 n2 c2 cl → Calls Try.prog 14 #[.agg #[.int .i64 W, .int .i64 H, .int .i64 B, .int .i64 C, .slice A n c], .slice A2 n2 c2] w (ImgIs W1 H1 B1 C1 G ob E w)) ∧
    (∀ A c A2 c2 w, Bytes w A n c bs → BoolsAt w A2 n2 c2 cl → Calls Try.prog 15 #[.agg #[.int .i64 W, .int .i64 H, .int .i64 B, .int .i64 C, .slice A n c], .slice A2 n2 c2] w (ImgIs W1 H1 B1 C1 G ob E w)) := by
  by_cases hc : chkB W H B C n = true ∧ (n2 : Int) = W * H
  · obtain ⟨hk, hq⟩ := hc
    obtain ⟨hF, W', H', B', C', P, S, hf, rfl⟩ := chk_fmt hk
    obtain ⟨rfl, rfl, rfl, rfl⟩ := hf.eq
    obtain rfl : n2 = W' * H' := by rw [← Int.natCast_mul] at hq; omega
    refine ⟨W', H', B', C', H' * S, pkN (((List.range (H' * P)).map fun i => ((msk cl C' (smp bs B' S P) i : Nat) : Int)).map Int.toNat) B' S P (H' * S) (H' * P), 0, fun A c A2 c2 w hA h2 => ?_, fun A c A2 c2 w hA h2 => ?_⟩
    · have hg : ∀ v ∈ (List.range (H' * P)).map (fun i => ((msk cl C' (smp bs B' S P) i : Nat) : Int)), goodV B' v := fun v hv => by
        obtain ⟨i, -, rfl⟩ := List.mem_map.1 hv
        have : msk cl C' (smp bs B' S P) i < 2 ^ B' := by
          unfold msk
          split
          · exact Nat.two_pow_pos _
          · exact smp_lt S P i hA.byte (by have := hf.b; omega)
        exact ⟨by omega, by omega⟩
      obtain ⟨g1, g2, -⟩ := hf.good (l := (List.range (H' * P)).map (fun i => ((msk cl C' (smp bs B' S P) i : Nat) : Int))) (by simp) hg
      exact (blank_good W' H' B' C' P S (H' * P) A (H' * S) c bs A2 c2 cl w hA h2 hF hf rfl rfl).mono fun e w' h => h.img g1 g2 hf.hs
    · exact (rblank_good W' H' B' C' P S (H' * P) A (H' * S) c bs A2 c2 cl w hA h2 hF hf rfl rfl).mono fun e w' h => h.img
  · refine ⟨0, 0, 0, 0, 0, [], 1, fun A c A2 c2 w hA h2 => (blank_any W H B C A n c bs A2 n2 c2 cl w hA h2).mono fun e w' h => ?_, fun A c A2 c2 w hA h2 => (rblank_any W H B C A n c bs A2 n2 c2 cl w hA h2).mono fun e w' h => ?_⟩
    · rcases h with ⟨-, h⟩ | ⟨W', H', B', C', P, S, h1, k2, h3, h4, -⟩
      · exact h.img
      · refine absurd ?_ hc
        obtain ⟨rfl, rfl, rfl, rfl⟩ := k2.eq
        subst h3 h4
        exact ⟨k2.chk h1, by rw [← Int.natCast_mul]⟩
    · rcases h with ⟨-, h⟩ | ⟨W', H', B', C', P, S, h1, k2, h3, h4, -⟩
      · exact h.img
      · refine absurd ?_ hc
        obtain ⟨rfl, rfl, rfl, rfl⟩ := k2.eq
        subst h3 h4
        exact ⟨k2.chk h1, by rw [← Int.natCast_mul]⟩
end Go.Proofs.Ytmleoagdelgddaa
/- raster: RasterDoes. Written by gen_dk.py. -/
namespace Go.Proofs.Ytmleoagdelgddaa
open Go.RowKit Dec

/-- What stays through the law's calls. -/
structure DoSt (w v : World) (Q : Nat) (W H B C : Int) (A : Option Addr) (n c : Nat) (bs : List Nat) (a6 : Option Addr) (c6 : Nat) (A2 : Option Addr) (n2 c2 : Nat) (l : List Int) (A3 : Option Addr) (n3 c3 : Nat) (cl : List Bool) : Prop where
  im : Whole v w.heap.size 24 #[.int .i64 W, .int .i64 H, .int .i64 B, .int .i64 C, .slice A n c]
  own : Whole v Q 24 #[.int .i64 W, .int .i64 H, .int .i64 B, .int .i64 C, .slice a6 n c6]
  ba : Bytes v A n c bs
  bo : Bytes v a6 n c6 bs
  li : IntsAt v A2 n2 c2 l
  bl : BoolsAt v A3 n3 c3 cl
  below : Below w.heap.size w v
theorem DoSt.call {w v v' : World} {Q : Nat} {W H B C : Int} {A : Option Addr} {n c : Nat} {bs : List Nat} {a6 : Option Addr} {c6 : Nat} {A2 : Option Addr} {n2 c2 : Nat} {l : List Int} {A3 : Option Addr} {n3 c3 : Nat} {cl : List Bool} (h : DoSt w v Q W H B C A n c bs a6 c6 A2 n2 c2 l A3 n3 c3 cl) (k : Below v.heap.size v v') : DoSt w v' Q W H B C A n c bs a6 c6 A2 n2 c2 l A3 n3 c3 cl :=
  ⟨h.im.here k, h.own.here k, h.ba.below k, h.bo.below k, h.li.below k, h.bl.below k, h.below.trans (k.mono h.below.size)⟩
theorem drewN_below (w : World) (j : Nat) : Below w.heap.size w (w.drewN j) := bdrewNr (Below.refl _ _) j
theorem ints_same_b (A : Option Addr) (n c : Nat) (A2 : Option Addr) (n2 c2 : Nat) (l : List Int) (w : World) (h : IntsAt w A n c l) (h2 : IntsAt w A2 n2 c2 l) :
    Calls Try.prog 19 #[.slice A n c, .slice A2 n2 c2] w fun e w' => e = .returned (.bool true) ∧ Below w.heap.size w w' :=
  (ints_same A n c A2 n2 c2 l w h h2).mono fun _ _ ⟨h, j, e2⟩ => ⟨h, e2 ▸ drewN_below w j⟩
set_option maxRecDepth 100000 in
set_option maxHeartbeats 8000000 in
theorem does_law (W H B C : Int) (A : Option Addr) (n c : Nat) (bs : List Nat) (A2 : Option Addr) (n2 c2 : Nat) (l : List Int) (A3 : Option Addr) (n3 c3 : Nat) (cl : List Bool) (w : World) (hA : Bytes w A n c bs) (hl : IntsAt w A2 n2 c2 l) (hc : BoolsAt w A3 n3 c3 cl) :
    Calls Try.prog 3 #[.agg #[.int .i64 W, .int .i64 H, .int .i64 B, .int .i64 C, .slice A n c], .slice A2 n2 c2, .slice A3 n3 c3] w fun e w' => e = .returned (.bool true) ∧ Below w.heap.size w w' := by
  have HFEW := Lib.hid (fun w => few_le W H B C A n c w)
  obtain ⟨N, sl, E1, hs1, hs2⟩ := sam_both W H B C n bs
  obtain ⟨W1, H1, B1, C1, G1, ob1, E2, hp1, hp2⟩ := pack_both W H B C n n2 l
  obtain ⟨W2, H2, B2, C2, G2, ob2, E3, hb1, hb2⟩ := blank_both W H B C n bs n3 cl
  have HS1 := Lib.hid hs1
  have HS2 := Lib.hid hs2
  have HP1 := Lib.hid hp1
  have HP2 := Lib.hid hp2
  have HBL1 := Lib.hid hb1
  have HBL2 := Lib.hid hb2
  have HCK := Lib.hid (fun w => rcheck_any W H B C A n c w)
  have HRT := Lib.hid (fun w => rright22_any W H B C A n c w)
  obtain ⟨kb, hkb⟩ : ∃ k, chkB W H B C n = k := ⟨_, rfl⟩
  rw [hkb] at HCK HRT
  obtain ⟨ck, hck⟩ : ∃ k : Int, (if kb = true then (0 : Int) else 1) = k := ⟨_, rfl⟩
  rw [hck] at HCK
  have k1 : (ck == 0) = kb := by rw [← hck]; cases kb <;> rfl
  have k2 : decide (ck = 0) = kb := by rw [← hck]; cases kb <;> rfl
  have HAA := Lib.hid hA
  have HLL := Lib.hid hl
  have HCC := Lib.hid hc
  clear hs1 hs2 hp1 hp2 hb1 hb2 hA hl hc hkb hck
  have HI := Lib.hid (Whole.made w 24 #[.int .i64 W, .int .i64 H, .int .i64 B, .int .i64 C, .slice A n c])
  have HV := Lib.hid ((Below.refl w.heap.size w).alloc (Nat.le_refl _) (.cells #[.int .i64 W, .int .i64 H, .int .i64 B, .int .i64 C, .slice A n c] 24))
  go_enter Try.func3, Try.ntmps3
  go_wp2_with fail
  refine (HFEW.out _).mono ?_
  rintro e w1 ⟨⟨r, rfl, hr6⟩, hb⟩
  have HB1 := Lib.hid (HV.out.trans (hb.mono HV.out.size))
  have HI1 := Lib.hid (HI.out.here hb)
  clear hb HI HV HFEW
  cases r
  · go_wp2_with fail
    go_ret
    exact ⟨rfl, HB1.out⟩
  have hn6 := hr6 rfl
  clear hr6
  by_cases h2 : 2000 < n2
  · have d1 : decide ((2000 : Int) < (n2 : Int)) = true := decide_eq_true (by omega)
    clear h2
    go_wp2_with fail
    go_ret
    exact ⟨rfl, HB1.out⟩
  have d1 : decide ((2000 : Int) < (n2 : Int)) = false := decide_eq_false (by omega)
  by_cases h3 : 2000 < n3
  · have d2 : decide ((2000 : Int) < (n3 : Int)) = true := decide_eq_true (by omega)
    clear h2 h3
    go_wp2_with fail
    go_ret
    exact ⟨rfl, HB1.out⟩
  have d2 : decide ((2000 : Int) < (n3 : Int)) = false := decide_eq_false (by omega)
  clear h2 h3
  obtain ⟨i1, i2, i3⟩ := five_facts HI1.out
  have hs0 : w.heap.size < w1.heap.size := i3
  have HY0 := Lib.hid (HAA.out.below HB1.out)
  have hown0 : ((w1.alloc (.cells #[.int .i64 W, .int .i64 H, .int .i64 B, .int .i64 C, .slice A n c] 24)).alloc (.cells #[] 5)).ownsRow (w1.heap.size + 1) 5 1 (.slice (some ⟨w1.heap.size + 1, 0, none⟩) 0 0) 0 (bvs []) :=
    ⟨rfl, .inr ⟨w1.heap.size + 1, 0, #[], rfl, Nat.le_refl _, by have := Whole.made (w1.alloc (.cells #[.int .i64 W, .int .i64 H, .int .i64 B, .int .i64 C, .slice A n c] 24)) 5 #[]; rwa [World.size_alloc] at this, Nat.le_refl _, by unfold maxLen; omega, rfl, rfl⟩⟩
  have HOW0 := Lib.hid hown0
  have HBA0 := Lib.hid (show Below w1.heap.size w1 ((w1.alloc (.cells #[.int .i64 W, .int .i64 H, .int .i64 B, .int .i64 C, .slice A n c] 24)).alloc (.cells #[] 5)) from ((Below.refl _ _).alloc (Nat.le_refl _) _).alloc (by simp) _)
  have HQ0 := Lib.hid ((Whole.made w1 24 #[.int .i64 W, .int .i64 H, .int .i64 B, .int .i64 C, .slice A n c]).old (.cells #[] 5))
  clear hown0
  go_wp2_with (at_builtin; refine wpList_app rfl _ _ rfl (w1.heap.size + 1) 0 n c _ [] bs A rfl rfl HOW0.out (HY0.out.below HBA0.out) (by omega) (by simp) ?_)
  intro v' w6 hown' hgrow
  (try rw [Nat.zero_add] at hown')
  (try rw [List.nil_append] at hown')
  obtain ⟨a6, c6, rfl⟩ := own_sl' hown'
  have hb6 : Below (w1.heap.size + 1) ((w1.alloc (.cells #[.int .i64 W, .int .i64 H, .int .i64 B, .int .i64 C, .slice A n c] 24)).alloc (.cells #[] 5)) w6 := (Below.refl _ _).grown hgrow (by simp) (fun j e => by have := own_lt' HOW0.out e; omega)
  have hq6 := HQ0.out.later hb6 (by omega)
  have hz6 := hb6.size
  simp only [World.size_alloc] at hz6
  have hD : DoSt w (w6.setCell ⟨w1.heap.size, 4, none⟩ (.slice a6 n c6)) w1.heap.size W H B C A n c bs a6 c6 A2 n2 c2 l A3 n3 c3 cl := by
    have hbw : Below w1.heap.size w1 (w6.setCell ⟨w1.heap.size, 4, none⟩ (.slice a6 n c6)) := (HBA0.out.trans (hb6.mono (by omega))).setCell (p := ⟨w1.heap.size, 4, none⟩) (Nat.le_refl _) _
    obtain ⟨A9, c9, e9, hy9⟩ := bytes_of (ownsRow_setCell_below hown' (a := ⟨w1.heap.size, 4, none⟩) (by show w1.heap.size < w1.heap.size + 1; omega) (.slice a6 n c6)) HAA.out.byte
    injection e9 with x1 x2 x3
    subst x1 x3
    exact ⟨HI1.out.here hbw, by simpa using hq6.set 4 (.slice a6 n c6), HY0.out.below hbw, hy9, (HLL.out.below HB1.out).below hbw, (HCC.out.below HB1.out).below hbw, HB1.out.trans (hbw.mono HB1.out.size)⟩
  have HD := Lib.hid hD
  obtain ⟨o1, o2, o3⟩ := five_facts hq6
  clear hown' hgrow hb6 hD HOW0 HBA0 HQ0 HY0 HI1 HB1 HAA HLL HCC i1 i2 i3
  go_wp2_with fail
  clear o1 o2 o3 hq6 hz6 hs0
  generalize w6.setCell ⟨w1.heap.size, 4, none⟩ (.slice a6 n c6) = V0 at *
  obtain ⟨Q, hQ⟩ : ∃ q, w1.heap.size = q := ⟨_, rfl⟩
  rw [hQ] at HD ⊢
  clear hQ
  obtain ⟨i1, i2, i3⟩ := five_facts HD.out.own
  go_wp2_with fail
  refine (HS1.out _ _ _ HD.out.bo).mono ?_
  rintro e V ⟨S1A, S1c, rfl, hi, hb⟩
  clear i1 i2 i3
  replace HD := Lib.hid (HD.out.call hb)
  have S1 := Lib.hid hi
  clear hi hb
  obtain ⟨i1, i2, i3⟩ := five_facts HD.out.im
  go_wp2_with fail
  refine (HS2.out _ _ _ HD.out.ba).mono ?_
  rintro e V ⟨S2A, S2c, rfl, hi, hb⟩
  clear i1 i2 i3
  replace HD := Lib.hid (HD.out.call hb)
  replace S1 := Lib.hid (S1.out.below hb)
  have S2 := Lib.hid hi
  clear hi hb
  obtain ⟨i1, i2, i3⟩ := five_facts HD.out.own
  go_wp2_with fail
  refine (HP1.out _ _ _ _ _ HD.out.li).mono ?_
  rintro e V ⟨P1A, P1c, rfl, hi, hb⟩
  clear i1 i2 i3
  have hb := hb.alloc hb.size (.cells #[.int .i64 W1, .int .i64 H1, .int .i64 B1, .int .i64 C1, .slice P1A G1 P1c] 24)
  replace HD := Lib.hid (HD.out.call hb)
  replace S1 := Lib.hid (S1.out.below hb)
  replace S2 := Lib.hid (S2.out.below hb)
  have P1 := Lib.hid (hi.below ((Below.refl _ _).alloc (Nat.le_refl _) (.cells #[.int .i64 W1, .int .i64 H1, .int .i64 B1, .int .i64 C1, .slice P1A G1 P1c] 24)))
  have P1W := Lib.hid (Whole.made V 24 #[.int .i64 W1, .int .i64 H1, .int .i64 B1, .int .i64 C1, .slice P1A G1 P1c])
  clear hi hb
  obtain ⟨i1, i2, i3⟩ := five_facts HD.out.im
  go_wp2_with fail
  obtain ⟨P1G, hP1G⟩ : ∃ q, V.heap.size = q := ⟨_, rfl⟩
  rw [hP1G] at P1W ⊢
  generalize V.alloc (.cells #[.int .i64 W1, .int .i64 H1, .int .i64 B1, .int .i64 C1, .slice P1A G1 P1c] 24) = V1 at *
  clear hP1G
  refine (HP2.out _ _ _ _ _ HD.out.li).mono ?_
  rintro e V ⟨P2A, P2c, rfl, hi, hb⟩
  clear i1 i2 i3
  have hb := hb.alloc hb.size (.cells #[.int .i64 W1, .int .i64 H1, .int .i64 B1, .int .i64 C1, .slice P2A G1 P2c] 24)
  replace HD := Lib.hid (HD.out.call hb)
  replace S1 := Lib.hid (S1.out.below hb)
  replace S2 := Lib.hid (S2.out.below hb)
  replace P1 := Lib.hid (P1.out.below hb)
  replace P1W := Lib.hid (P1W.out.here hb)
  have P2 := Lib.hid (hi.below ((Below.refl _ _).alloc (Nat.le_refl _) (.cells #[.int .i64 W1, .int .i64 H1, .int .i64 B1, .int .i64 C1, .slice P2A G1 P2c] 24)))
  have P2W := Lib.hid (Whole.made V 24 #[.int .i64 W1, .int .i64 H1, .int .i64 B1, .int .i64 C1, .slice P2A G1 P2c])
  clear hi hb
  obtain ⟨i1, i2, i3⟩ := five_facts HD.out.own
  go_wp2_with fail
  obtain ⟨P2G, hP2G⟩ : ∃ q, V.heap.size = q := ⟨_, rfl⟩
  rw [hP2G] at P2W ⊢
  generalize V.alloc (.cells #[.int .i64 W1, .int .i64 H1, .int .i64 B1, .int .i64 C1, .slice P2A G1 P2c] 24) = V2 at *
  clear hP2G
  refine (HBL1.out _ _ _ _ _ HD.out.bo HD.out.bl).mono ?_
  rintro e V ⟨X1A, X1c, rfl, hi, hb⟩
  clear i1 i2 i3
  have hb := hb.alloc hb.size (.cells #[.int .i64 W2, .int .i64 H2, .int .i64 B2, .int .i64 C2, .slice X1A G2 X1c] 24)
  replace HD := Lib.hid (HD.out.call hb)
  replace S1 := Lib.hid (S1.out.below hb)
  replace S2 := Lib.hid (S2.out.below hb)
  replace P1 := Lib.hid (P1.out.below hb)
  replace P1W := Lib.hid (P1W.out.here hb)
  replace P2 := Lib.hid (P2.out.below hb)
  replace P2W := Lib.hid (P2W.out.here hb)
  have X1 := Lib.hid (hi.below ((Below.refl _ _).alloc (Nat.le_refl _) (.cells #[.int .i64 W2, .int .i64 H2, .int .i64 B2, .int .i64 C2, .slice X1A G2 X1c] 24)))
  have X1W := Lib.hid (Whole.made V 24 #[.int .i64 W2, .int .i64 H2, .int .i64 B2, .int .i64 C2, .slice X1A G2 X1c])
  clear hi hb
  obtain ⟨i1, i2, i3⟩ := five_facts HD.out.im
  go_wp2_with fail
  obtain ⟨X1G, hX1G⟩ : ∃ q, V.heap.size = q := ⟨_, rfl⟩
  rw [hX1G] at X1W ⊢
  generalize V.alloc (.cells #[.int .i64 W2, .int .i64 H2, .int .i64 B2, .int .i64 C2, .slice X1A G2 X1c] 24) = V3 at *
  clear hX1G
  refine (HBL2.out _ _ _ _ _ HD.out.ba HD.out.bl).mono ?_
  rintro e V ⟨X2A, X2c, rfl, hi, hb⟩
  clear i1 i2 i3
  have hb := hb.alloc hb.size (.cells #[.int .i64 W2, .int .i64 H2, .int .i64 B2, .int .i64 C2, .slice X2A G2 X2c] 24)
  replace HD := Lib.hid (HD.out.call hb)
  replace S1 := Lib.hid (S1.out.below hb)
  replace S2 := Lib.hid (S2.out.below hb)
  replace P1 := Lib.hid (P1.out.below hb)
  replace P1W := Lib.hid (P1W.out.here hb)
  replace P2 := Lib.hid (P2.out.below hb)
  replace P2W := Lib.hid (P2W.out.here hb)
  replace X1 := Lib.hid (X1.out.below hb)
  replace X1W := Lib.hid (X1W.out.here hb)
  have X2 := Lib.hid (hi.below ((Below.refl _ _).alloc (Nat.le_refl _) (.cells #[.int .i64 W2, .int .i64 H2, .int .i64 B2, .int .i64 C2, .slice X2A G2 X2c] 24)))
  have X2W := Lib.hid (Whole.made V 24 #[.int .i64 W2, .int .i64 H2, .int .i64 B2, .int .i64 C2, .slice X2A G2 X2c])
  clear hi hb
  go_wp2_with fail
  obtain ⟨X2G, hX2G⟩ : ∃ q, V.heap.size = q := ⟨_, rfl⟩
  rw [hX2G] at X2W ⊢
  generalize V.alloc (.cells #[.int .i64 W2, .int .i64 H2, .int .i64 B2, .int .i64 C2, .slice X2A G2 X2c] 24) = V4 at *
  clear hX2G
  have hS := (Below.refl V4.heap.size V4).drew
  refine wp_region_C (fun v => Below V4.heap.size V4 v) (by kernel_rfl) ?_
  refine wpAnyC_one (j := 0) (by kernel_rfl) rfl (fun K hK => ?_)
  go_simp
  go_at_call 16
  refine (awake_any _).mono ?_
  rintro e V ⟨rfl, kk⟩
  have hS := hS.trans (kk.mono hS.size)
  clear kk
  go_wp2_with fail
  refine hK.out _ _ ⟨hS, ?_⟩
  clear hK K
  try simp only [Act.put, List.setIfInBounds_toArray, List.set_cons_zero, List.set_cons_succ]
  refine wpAnyC_take (i := 1) (v := .bool true) rfl (by kernel_rfl) (fun _ _ _ h => h) (Or.inl ⟨by rfl, ?y1⟩) hS ?r1
  case y1 => intro wq _; go_simp; all_goals (first | with_reducible rfl | (simp only []; done) | (simp []; done) | (simp; omega) | skip)
  try simp only [Act.put, List.setIfInBounds_toArray, List.set_cons_zero, List.set_cons_succ]
  refine wpAnyC_take (i := 2) (v := .agg #[.int .i64 W, .int .i64 H, .int .i64 B, .int .i64 C, .slice A n c]) rfl (by kernel_rfl) (fun _ _ _ h => h) (Or.inl ⟨by rfl, ?y2⟩) hS ?r2
  case y2 => intro wq hq; obtain ⟨c0, c1, c2, c3, c4⟩ := img_cells (HD.out.im.here hq); go_simp; all_goals (first | with_reducible rfl | (simp only []; done) | (simp []; done) | (simp; omega) | skip)
  try simp only [Act.put, List.setIfInBounds_toArray, List.set_cons_zero, List.set_cons_succ]
  refine wpAnyC_take (i := 5) (v := .agg #[.int .i64 W, .int .i64 H, .int .i64 B, .int .i64 C, .slice A n c]) rfl (by kernel_rfl) (fun _ _ _ h => h) (Or.inl ⟨by rfl, ?y3⟩) hS ?r3
  case y3 => intro wq hq; obtain ⟨c0, c1, c2, c3, c4⟩ := img_cells (HD.out.im.here hq); go_simp; all_goals (first | with_reducible rfl | (simp only []; done) | (simp []; done) | (simp; omega) | skip)
  try simp only [Act.put, List.setIfInBounds_toArray, List.set_cons_zero, List.set_cons_succ]
  refine wpAnyC_one (j := 3) (by kernel_rfl) rfl (fun K hK => ?_)
  go_simp
  go_at_call 17
  refine (HCK.out _).mono ?_
  rintro e V ⟨rfl, kk⟩
  have hS := hS.trans (kk.mono hS.size)
  clear kk
  go_wp2_with fail
  refine hK.out _ _ ⟨hS, ?_⟩
  clear hK K
  try simp only [Act.put, List.setIfInBounds_toArray, List.set_cons_zero, List.set_cons_succ]
  refine wpAnyC_take (i := 4) (v := .bool kb) rfl (by kernel_rfl) (fun _ _ _ h => h) (Or.inl ⟨by rfl, ?y4⟩) hS ?r4
  case y4 => intro wq _; go_simp; all_goals (first | with_reducible rfl | (simp only []; done) | (simp []; done) | (simp [k1]; done) | (simp [k2]; done) | (simp; omega) | skip)
  try simp only [Act.put, List.setIfInBounds_toArray, List.set_cons_zero, List.set_cons_succ]
  refine wpAnyC_one (j := 6) (by kernel_rfl) rfl (fun K hK => ?_)
  go_simp
  go_at_call 18
  refine (HRT.out _).mono ?_
  rintro e V ⟨rfl, kk⟩
  have hS := hS.trans (kk.mono hS.size)
  clear kk
  go_wp2_with fail
  refine hK.out _ _ ⟨hS, ?_⟩
  clear hK K
  try simp only [Act.put, List.setIfInBounds_toArray, List.set_cons_zero, List.set_cons_succ]
  refine wpAnyC_take (i := 7) (v := .bool true) rfl (by kernel_rfl) (fun _ _ _ h => h) (Or.inl ⟨by rfl, ?y5⟩) hS ?r5
  case y5 => intro wq _; go_simp; all_goals (first | with_reducible rfl | (simp only []; done) | (simp []; done) | (simp; omega) | skip)
  try simp only [Act.put, List.setIfInBounds_toArray, List.set_cons_zero, List.set_cons_succ]
  refine wpAnyC_take (i := 8) (v := .bool true) rfl (by kernel_rfl) (fun _ _ _ h => h) (Or.inl ⟨by rfl, ?y6⟩) hS ?r6
  case y6 => intro wq _; go_simp; all_goals (first | with_reducible rfl | (simp only []; done) | (simp []; done) | (simp; omega) | skip)
  try simp only [Act.put, List.setIfInBounds_toArray, List.set_cons_zero, List.set_cons_succ]
  refine wpAnyC_take (i := 9) (v := .bool true) rfl (by kernel_rfl) (fun _ _ _ h => h) (Or.inl ⟨by rfl, ?y7⟩) hS ?r7
  case y7 => intro wq _; go_simp; all_goals (first | with_reducible rfl | (simp only []; done) | (simp []; done) | (simp; omega) | skip)
  try simp only [Act.put, List.setIfInBounds_toArray, List.set_cons_zero, List.set_cons_succ]
  refine wpAnyC_take (i := 10) (v := .slice S1A N S1c) rfl (by kernel_rfl) (fun _ _ _ h => h) (Or.inl ⟨by rfl, ?y8⟩) hS ?r8
  case y8 => intro wq _; go_simp; all_goals (first | with_reducible rfl | (simp only []; done) | (simp []; done) | (simp; omega) | skip)
  try simp only [Act.put, List.setIfInBounds_toArray, List.set_cons_zero, List.set_cons_succ]
  refine wpAnyC_take (i := 11) (v := .slice S2A N S2c) rfl (by kernel_rfl) (fun _ _ _ h => h) (Or.inl ⟨by rfl, ?y9⟩) hS ?r9
  case y9 => intro wq _; go_simp; all_goals (first | with_reducible rfl | (simp only []; done) | (simp []; done) | (simp; omega) | skip)
  try simp only [Act.put, List.setIfInBounds_toArray, List.set_cons_zero, List.set_cons_succ]
  refine wpAnyC_one (j := 12) (by kernel_rfl) rfl (fun K hK => ?_)
  go_simp
  go_at_call 19
  refine (ints_same_b _ _ _ _ _ _ sl _ (S1.out.below hS) (S2.out.below hS)).mono ?_
  rintro e V ⟨rfl, kk⟩
  have hS := hS.trans (kk.mono hS.size)
  clear kk
  go_wp2_with fail
  refine hK.out _ _ ⟨hS, ?_⟩
  clear hK K
  try simp only [Act.put, List.setIfInBounds_toArray, List.set_cons_zero, List.set_cons_succ]
  refine wpAnyC_take (i := 13) (v := .bool true) rfl (by kernel_rfl) (fun _ _ _ h => h) (Or.inl ⟨by rfl, ?y10⟩) hS ?r10
  case y10 => intro wq _; go_simp; all_goals (first | with_reducible rfl | (simp only []; done) | (simp []; done) | (simp; omega) | skip)
  try simp only [Act.put, List.setIfInBounds_toArray, List.set_cons_zero, List.set_cons_succ]
  refine wpAnyC_take (i := 14) (v := .bool true) rfl (by kernel_rfl) (fun _ _ _ h => h) (Or.inl ⟨by rfl, ?y11⟩) hS ?r11
  case y11 => intro wq _; go_simp; all_goals (first | with_reducible rfl | (simp only []; done) | (simp []; done) | (simp; omega) | skip)
  try simp only [Act.put, List.setIfInBounds_toArray, List.set_cons_zero, List.set_cons_succ]
  refine wpAnyC_take (i := 15) (v := .int .i64 E1) rfl (by kernel_rfl) (fun _ _ _ h => h) (Or.inl ⟨by rfl, ?y12⟩) hS ?r12
  case y12 => intro wq _; go_simp; all_goals (first | with_reducible rfl | (simp only []; done) | (simp []; done) | (simp; omega) | skip)
  try simp only [Act.put, List.setIfInBounds_toArray, List.set_cons_zero, List.set_cons_succ]
  refine wpAnyC_take (i := 16) (v := .int .i64 E1) rfl (by kernel_rfl) (fun _ _ _ h => h) (Or.inl ⟨by rfl, ?y13⟩) hS ?r13
  case y13 => intro wq _; go_simp; all_goals (first | with_reducible rfl | (simp only []; done) | (simp []; done) | (simp; omega) | skip)
  try simp only [Act.put, List.setIfInBounds_toArray, List.set_cons_zero, List.set_cons_succ]
  refine wpAnyC_take (i := 17) (v := .bool true) rfl (by kernel_rfl) (fun _ _ _ h => h) (Or.inl ⟨by rfl, ?y14⟩) hS ?r14
  case y14 => intro wq _; go_simp; all_goals (first | with_reducible rfl | (simp only []; done) | (simp []; done) | (simp; omega) | skip)
  try simp only [Act.put, List.setIfInBounds_toArray, List.set_cons_zero, List.set_cons_succ]
  refine wpAnyC_take (i := 18) (v := .bool true) rfl (by kernel_rfl) (fun _ _ _ h => h) (Or.inl ⟨by rfl, ?y15⟩) hS ?r15
  case y15 => intro wq _; go_simp; all_goals (first | with_reducible rfl | (simp only []; done) | (simp []; done) | (simp; omega) | skip)
  try simp only [Act.put, List.setIfInBounds_toArray, List.set_cons_zero, List.set_cons_succ]
  refine wpAnyC_take (i := 19) (v := .bool true) rfl (by kernel_rfl) (fun _ _ _ h => h) (Or.inl ⟨by rfl, ?y16⟩) hS ?r16
  case y16 => intro wq _; go_simp; all_goals (first | with_reducible rfl | (simp only []; done) | (simp []; done) | (simp; omega) | skip)
  try simp only [Act.put, List.setIfInBounds_toArray, List.set_cons_zero, List.set_cons_succ]
  refine wpAnyC_take (i := 20) (v := .agg #[.int .i64 W1, .int .i64 H1, .int .i64 B1, .int .i64 C1, .slice P1A G1 P1c]) rfl (by kernel_rfl) (fun _ _ _ h => h) (Or.inl ⟨by rfl, ?y17⟩) hS ?r17
  case y17 => intro wq hq; obtain ⟨c0, c1, c2, c3, c4⟩ := img_cells (P1W.out.here hq); go_simp; all_goals (first | with_reducible rfl | (simp only []; done) | (simp []; done) | (simp; omega) | skip)
  try simp only [Act.put, List.setIfInBounds_toArray, List.set_cons_zero, List.set_cons_succ]
  refine wpAnyC_take (i := 21) (v := .agg #[.int .i64 W1, .int .i64 H1, .int .i64 B1, .int .i64 C1, .slice P2A G1 P2c]) rfl (by kernel_rfl) (fun _ _ _ h => h) (Or.inl ⟨by rfl, ?y18⟩) hS ?r18
  case y18 => intro wq hq; obtain ⟨c0, c1, c2, c3, c4⟩ := img_cells (P2W.out.here hq); go_simp; all_goals (first | with_reducible rfl | (simp only []; done) | (simp []; done) | (simp; omega) | skip)
  try simp only [Act.put, List.setIfInBounds_toArray, List.set_cons_zero, List.set_cons_succ]
  refine wpAnyC_one (j := 22) (by kernel_rfl) rfl (fun K hK => ?_)
  go_simp
  go_at_call 20
  refine (same_true _ _ _ _ _ _ _ _ _ _ ob1 _ (P1.out.below hS) (P2.out.below hS)).mono ?_
  rintro e V ⟨rfl, kk⟩
  have hS := hS.trans (kk.mono hS.size)
  clear kk
  go_wp2_with fail
  refine hK.out _ _ ⟨hS, ?_⟩
  clear hK K
  try simp only [Act.put, List.setIfInBounds_toArray, List.set_cons_zero, List.set_cons_succ]
  refine wpAnyC_take (i := 23) (v := .bool true) rfl (by kernel_rfl) (fun _ _ _ h => h) (Or.inl ⟨by rfl, ?y19⟩) hS ?r19
  case y19 => intro wq _; go_simp; all_goals (first | with_reducible rfl | (simp only []; done) | (simp []; done) | (simp; omega) | skip)
  try simp only [Act.put, List.setIfInBounds_toArray, List.set_cons_zero, List.set_cons_succ]
  refine wpAnyC_take (i := 24) (v := .bool true) rfl (by kernel_rfl) (fun _ _ _ h => h) (Or.inl ⟨by rfl, ?y20⟩) hS ?r20
  case y20 => intro wq _; go_simp; all_goals (first | with_reducible rfl | (simp only []; done) | (simp []; done) | (simp; omega) | skip)
  try simp only [Act.put, List.setIfInBounds_toArray, List.set_cons_zero, List.set_cons_succ]
  refine wpAnyC_take (i := 25) (v := .int .i64 E2) rfl (by kernel_rfl) (fun _ _ _ h => h) (Or.inl ⟨by rfl, ?y21⟩) hS ?r21
  case y21 => intro wq _; go_simp; all_goals (first | with_reducible rfl | (simp only []; done) | (simp []; done) | (simp; omega) | skip)
  try simp only [Act.put, List.setIfInBounds_toArray, List.set_cons_zero, List.set_cons_succ]
  refine wpAnyC_take (i := 26) (v := .int .i64 E2) rfl (by kernel_rfl) (fun _ _ _ h => h) (Or.inl ⟨by rfl, ?y22⟩) hS ?r22
  case y22 => intro wq _; go_simp; all_goals (first | with_reducible rfl | (simp only []; done) | (simp []; done) | (simp; omega) | skip)
  try simp only [Act.put, List.setIfInBounds_toArray, List.set_cons_zero, List.set_cons_succ]
  refine wpAnyC_take (i := 27) (v := .bool true) rfl (by kernel_rfl) (fun _ _ _ h => h) (Or.inl ⟨by rfl, ?y23⟩) hS ?r23
  case y23 => intro wq _; go_simp; all_goals (first | with_reducible rfl | (simp only []; done) | (simp []; done) | (simp; omega) | skip)
  try simp only [Act.put, List.setIfInBounds_toArray, List.set_cons_zero, List.set_cons_succ]
  refine wpAnyC_take (i := 28) (v := .bool true) rfl (by kernel_rfl) (fun _ _ _ h => h) (Or.inl ⟨by rfl, ?y24⟩) hS ?r24
  case y24 => intro wq _; go_simp; all_goals (first | with_reducible rfl | (simp only []; done) | (simp []; done) | (simp; omega) | skip)
  try simp only [Act.put, List.setIfInBounds_toArray, List.set_cons_zero, List.set_cons_succ]
  refine wpAnyC_take (i := 29) (v := .bool true) rfl (by kernel_rfl) (fun _ _ _ h => h) (Or.inl ⟨by rfl, ?y25⟩) hS ?r25
  case y25 => intro wq _; go_simp; all_goals (first | with_reducible rfl | (simp only []; done) | (simp []; done) | (simp; omega) | skip)
  try simp only [Act.put, List.setIfInBounds_toArray, List.set_cons_zero, List.set_cons_succ]
  refine wpAnyC_take (i := 30) (v := .agg #[.int .i64 W2, .int .i64 H2, .int .i64 B2, .int .i64 C2, .slice X1A G2 X1c]) rfl (by kernel_rfl) (fun _ _ _ h => h) (Or.inl ⟨by rfl, ?y26⟩) hS ?r26
  case y26 => intro wq hq; obtain ⟨c0, c1, c2, c3, c4⟩ := img_cells (X1W.out.here hq); go_simp; all_goals (first | with_reducible rfl | (simp only []; done) | (simp []; done) | (simp; omega) | skip)
  try simp only [Act.put, List.setIfInBounds_toArray, List.set_cons_zero, List.set_cons_succ]
  refine wpAnyC_take (i := 31) (v := .agg #[.int .i64 W2, .int .i64 H2, .int .i64 B2, .int .i64 C2, .slice X2A G2 X2c]) rfl (by kernel_rfl) (fun _ _ _ h => h) (Or.inl ⟨by rfl, ?y27⟩) hS ?r27
  case y27 => intro wq hq; obtain ⟨c0, c1, c2, c3, c4⟩ := img_cells (X2W.out.here hq); go_simp; all_goals (first | with_reducible rfl | (simp only []; done) | (simp []; done) | (simp; omega) | skip)
  try simp only [Act.put, List.setIfInBounds_toArray, List.set_cons_zero, List.set_cons_succ]
  refine wpAnyC_one (j := 32) (by kernel_rfl) rfl (fun K hK => ?_)
  go_simp
  go_at_call 20
  refine (same_true _ _ _ _ _ _ _ _ _ _ ob2 _ (X1.out.below hS) (X2.out.below hS)).mono ?_
  rintro e V ⟨rfl, kk⟩
  have hS := hS.trans (kk.mono hS.size)
  clear kk
  go_wp2_with fail
  refine hK.out _ _ ⟨hS, ?_⟩
  clear hK K
  try simp only [Act.put, List.setIfInBounds_toArray, List.set_cons_zero, List.set_cons_succ]
  refine wpAnyC_take (i := 33) (v := .bool true) rfl (by kernel_rfl) (fun _ _ _ h => h) (Or.inl ⟨by rfl, ?y28⟩) hS ?r28
  case y28 => intro wq _; go_simp; all_goals (first | with_reducible rfl | (simp only []; done) | (simp []; done) | (simp; omega) | skip)
  try simp only [Act.put, List.setIfInBounds_toArray, List.set_cons_zero, List.set_cons_succ]
  refine wpAnyC_take (i := 34) (v := .bool true) rfl (by kernel_rfl) (fun _ _ _ h => h) (Or.inl ⟨by rfl, ?y29⟩) hS ?r29
  case y29 => intro wq _; go_simp; all_goals (first | with_reducible rfl | (simp only []; done) | (simp []; done) | (simp; omega) | skip)
  try simp only [Act.put, List.setIfInBounds_toArray, List.set_cons_zero, List.set_cons_succ]
  refine wpAnyC_take (i := 35) (v := .int .i64 E3) rfl (by kernel_rfl) (fun _ _ _ h => h) (Or.inl ⟨by rfl, ?y30⟩) hS ?r30
  case y30 => intro wq _; go_simp; all_goals (first | with_reducible rfl | (simp only []; done) | (simp []; done) | (simp; omega) | skip)
  try simp only [Act.put, List.setIfInBounds_toArray, List.set_cons_zero, List.set_cons_succ]
  refine wpAnyC_take (i := 36) (v := .int .i64 E3) rfl (by kernel_rfl) (fun _ _ _ h => h) (Or.inl ⟨by rfl, ?y31⟩) hS ?r31
  case y31 => intro wq _; go_simp; all_goals (first | with_reducible rfl | (simp only []; done) | (simp []; done) | (simp; omega) | skip)
  try simp only [Act.put, List.setIfInBounds_toArray, List.set_cons_zero, List.set_cons_succ]
  refine wpAnyC_take (i := 37) (v := .bool true) rfl (by kernel_rfl) (fun _ _ _ h => h) (Or.inl ⟨by rfl, ?y32⟩) hS ?r32
  case y32 => intro wq _; go_simp; all_goals (first | with_reducible rfl | (simp only []; done) | (simp []; done) | (simp; omega) | skip)
  try simp only [Act.put, List.setIfInBounds_toArray, List.set_cons_zero, List.set_cons_succ]
  refine wpAnyC_take (i := 38) (v := .bool true) rfl (by kernel_rfl) (fun _ _ _ h => h) (Or.inl ⟨by rfl, ?y33⟩) hS ?r33
  case y33 => intro wq _; go_simp; all_goals (first | with_reducible rfl | (simp only []; done) | (simp []; done) | (simp; omega) | skip)
  try simp only [Act.put, List.setIfInBounds_toArray, List.set_cons_zero, List.set_cons_succ]
  refine wpAnyC_take (i := 39) (v := .bool true) rfl (by kernel_rfl) (fun _ _ _ h => h) (Or.inl ⟨by rfl, ?y34⟩) hS ?r34
  case y34 => intro wq _; go_simp; all_goals (first | with_reducible rfl | (simp only []; done) | (simp []; done) | (simp; omega) | skip)
  try simp only [Act.put, List.setIfInBounds_toArray, List.set_cons_zero, List.set_cons_succ]
  refine wpAnyC_take (i := 40) (v := .agg #[.int .i64 W, .int .i64 H, .int .i64 B, .int .i64 C, .slice a6 n c6]) rfl (by kernel_rfl) (fun _ _ _ h => h) (Or.inl ⟨by rfl, ?y35⟩) hS ?r35
  case y35 => intro wq hq; obtain ⟨c0, c1, c2, c3, c4⟩ := img_cells (HD.out.own.here hq); go_simp; all_goals (first | with_reducible rfl | (simp only []; done) | (simp []; done) | (simp; omega) | skip)
  try simp only [Act.put, List.setIfInBounds_toArray, List.set_cons_zero, List.set_cons_succ]
  refine wpAnyC_take (i := 41) (v := .agg #[.int .i64 W, .int .i64 H, .int .i64 B, .int .i64 C, .slice A n c]) rfl (by kernel_rfl) (fun _ _ _ h => h) (Or.inl ⟨by rfl, ?y36⟩) hS ?r36
  case y36 => intro wq hq; obtain ⟨c0, c1, c2, c3, c4⟩ := img_cells (HD.out.im.here hq); go_simp; all_goals (first | with_reducible rfl | (simp only []; done) | (simp []; done) | (simp; omega) | skip)
  try simp only [Act.put, List.setIfInBounds_toArray, List.set_cons_zero, List.set_cons_succ]
  refine wpAnyC_one (j := 42) (by kernel_rfl) rfl (fun K hK => ?_)
  go_simp
  go_at_call 20
  refine (same_true _ _ _ _ _ _ _ _ _ _ bs _ (HD.out.bo.below hS) (HD.out.ba.below hS)).mono ?_
  rintro e V ⟨rfl, kk⟩
  have hS := hS.trans (kk.mono hS.size)
  clear kk
  go_wp2_with fail
  refine hK.out _ _ ⟨hS, ?_⟩
  clear hK K
  try simp only [Act.put, List.setIfInBounds_toArray, List.set_cons_zero, List.set_cons_succ]
  refine wpAnyC_take (i := 43) (v := .bool true) rfl (by kernel_rfl) (fun _ _ _ h => h) (Or.inl ⟨by rfl, ?y37⟩) hS ?r37
  case y37 => intro wq _; go_simp; all_goals (first | with_reducible rfl | (simp only []; done) | (simp []; done) | (simp; omega) | skip)
  try simp only [Act.put, List.setIfInBounds_toArray, List.set_cons_zero, List.set_cons_succ]
  refine wpAnyC_take (i := 44) (v := .bool true) rfl (by kernel_rfl) (fun _ _ _ h => h) (Or.inl ⟨by rfl, ?y38⟩) hS ?r38
  case y38 => intro wq _; go_simp; all_goals (first | with_reducible rfl | (simp only []; done) | (simp []; done) | (simp; omega) | skip)
  try simp only [Act.put, List.setIfInBounds_toArray, List.set_cons_zero, List.set_cons_succ]
  refine wpAnyC_done (by kernel_rfl) ?_ _
  have HE := Lib.hid (HD.out.below.trans (hS.mono HD.out.below.size))
  clear hS
  go_wp2_with fail
  go_ret
  exact ⟨rfl, HE.out⟩
end Go.Proofs.Ytmleoagdelgddaa
