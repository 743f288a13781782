/- raster's reference: Pack at any image, Samples refused, Blank. Written by gen_di.py. -/
import Derived.Test.YtmleoagdelgddaaRasDh
import Derived.Test.YtmleoagdelgddaaRasBm
import Derived.Laws.OwnMore
namespace Go.Proofs.Ytmleoagdelgddaa
open Go.RowKit Dec

/-- What the reference's Pack answers at any image. -/
def RPackIs (W H B C : Int) (l : List Int) (w : World) (e : Ending) (w' : World) : Prop :=
  (¬ (fmtB W H B C = true ∧ (l.length : Int) = H * (W * C) ∧ ∀ v ∈ l, goodV B.toNat v) ∧ NoImg w e w') ∨
  (∃ W' H' B' C' P S : Nat, fmtB W H B C = true ∧ FmtN W H B C W' H' B' C' P S ∧ l.length = H' * P ∧ (∀ v ∈ l, goodV B' v) ∧ RPackGo W' H' B' C' P S (H' * P) l w e w')
theorem rpack_any (W H B C : Int) (A : Option Addr) (n c : Nat) (A2 : Option Addr) (n2 c2 : Nat) (l : List Int) (w : World) (hl : IntsAt w A2 n2 c2 l) :
    Calls Try.prog 13 #[.agg #[.int .i64 W, .int .i64 H, .int .i64 B, .int .i64 C, .slice A n c], .slice A2 n2 c2] w (RPackIs W H B C l w) := by
  cases hF : fmtB W H B C
  · exact (rpack_fmt W H B C A n c A2 n2 c2 w hF).mono fun e w' h => .inl ⟨(fun k => by rw [hF] at k; cases k.1), h⟩
  · obtain ⟨W', H', B', C', P, S, hf⟩ := fmt_n hF
    have hf0 := hf
    obtain ⟨rfl, rfl, rfl, rfl⟩ := hf.eq
    by_cases hn : n2 = H' * P
    · subst hn
      refine (rpack_go W' H' B' C' P S (H' * P) A n c A2 c2 l w hF hf rfl hl).mono fun e w' h => ?_
      rcases h with ⟨h1, h2⟩ | ⟨h1, h2⟩
      · exact .inr ⟨W', H', B', C', P, S, hF, hf0, hl.len, h1, h2⟩
      · exact .inl ⟨fun k => h1 (by rw [Int.toNat_natCast] at k; exact k.2.2), h2⟩
    · refine (rpack_len W' H' B' C' P (H' * P) A n c A2 n2 c2 w hF hf.p rfl hf.n2 hf.wh hn).mono fun e w' h => .inl ⟨fun k => hn ?_, h⟩
      have := k.2.1
      rw [hl.len, ← Int.natCast_mul, ← Int.natCast_mul, hf.p] at this
      omega
set_option maxRecDepth 100000 in
theorem rsamples_bad (W H B C : Int) (A : Option Addr) (n c : Nat) (w : World) (hk : chkB W H B C n = false) :
    Calls Try.prog 11 #[.agg #[.int .i64 W, .int .i64 H, .int .i64 B, .int .i64 C, .slice A n c]] w fun e w' => e = .returned (.tuple #[.slice none 0 0, .int .i64 1]) ∧ Below w.heap.size w w' := by
  have HRT := Lib.hid (fun w => rright22_any W H B C A n c w)
  rw [hk] at HRT
  have HI := Lib.hid (Whole.made w 24 #[.int .i64 W, .int .i64 H, .int .i64 B, .int .i64 C, .slice A n c])
  have HV := Lib.hid ((Below.refl w.heap.size w).alloc (Nat.le_refl _) (.cells #[.int .i64 W, .int .i64 H, .int .i64 B, .int .i64 C, .slice A n c] 24))
  clear hk
  go_enter Try.func11, Try.ntmps11
  go_wp2_with fail
  refine (HRT.out _).mono ?_
  rintro e w1 ⟨rfl, hb⟩
  have HB1 := Lib.hid (HV.out.trans (hb.mono HV.out.size))
  clear hb HI HV HRT
  go_wp2_with fail
  go_ret2
  exact ⟨rfl, HB1.out⟩
theorem rfmt_h {W H B C : Nat} (h : fmtB (W : Int) (H : Int) (B : Int) (C : Int) = true) : 0 < H := by
  obtain ⟨W', H', B', C', e1, e2, e3, e4, h0, h1, h2, hB, hC, hC4⟩ := fmt_of h
  omega
set_option maxRecDepth 100000 in
set_option maxHeartbeats 4000000 in
theorem rblank_chk (W H B C : Int) (A : Option Addr) (n c : Nat) (A2 : Option Addr) (n2 c2 : Nat) (w : World) (hk : chkB W H B C n = false) :
    Calls Try.prog 15 #[.agg #[.int .i64 W, .int .i64 H, .int .i64 B, .int .i64 C, .slice A n c], .slice A2 n2 c2] w (NoImg w) := by
  have HS := Lib.hid (fun w => rsamples_bad W H B C A n c w hk)
  clear hk
  obtain ⟨hI, hO, hB⟩ := start_img w (.int .i64 W) (.int .i64 H) (.int .i64 B) (.int .i64 C) (.slice A n c)
  have HI := Lib.hid hI
  have HO0 := Lib.hid hO
  have HB0 := Lib.hid hB
  clear hI hO hB
  go_enter Try.func15, Try.ntmps15
  go_wp2_with fail
  generalize hW0 : (w.alloc (.cells #[.int .i64 W, .int .i64 H, .int .i64 B, .int .i64 C, .slice A n c] 24)).alloc (.cells #[.int .i64 0, .int .i64 0, .int .i64 0, .int .i64 0, .slice none 0 0] 24) = W0 at *
  clear hW0
  have i3 := img_cells HI.out
  have i4 := HI.out.lt
  go_wp2_with fail
  refine (HS.out _).mono ?_
  rintro e V ⟨rfl, kk⟩
  have HO := Lib.hid (HO0.out.here kk)
  have HB := Lib.hid (HB0.out.trans (kk.mono HB0.out.size))
  clear kk HI HO0 HB0 i3 i4
  obtain ⟨p1, p2, p3⟩ := five_facts HO.out
  go_wp2_with fail
  refine ret_img (E := 1) (g := w.heap.size + 1) (five_set HO.out) (fun V hV => by have rv := hV.reads; simp [results, Try.results15, go_sem, rv]) rfl ?_
  exact ⟨rfl, five_below HB.out (by omega) _ _ _ _ _⟩
set_option maxRecDepth 100000 in
set_option maxHeartbeats 4000000 in
theorem rblank_len (W H B C P S N : Nat) (A : Option Addr) (n c : Nat) (bs : List Nat) (A2 : Option Addr) (n2 c2 : Nat) (w : World) (hA : Bytes w A n c bs) (hF : fmtB (W : Int) (H : Int) (B : Int) (C : Int) = true) (hf : FmtN (W : Int) (H : Int) (B : Int) (C : Int) W H B C P S) (hN : H * P = N) (hn : n = H * S) (hne : n2 ≠ W * H) :
    Calls Try.prog 15 #[.agg #[.int .i64 (W : Int), .int .i64 (H : Int), .int .i64 (B : Int), .int .i64 (C : Int), .slice A n c], .slice A2 n2 c2] w (NoImg w) := by
  have HS := Lib.hid (fun w hA => rsamples_good W H B C P S N A n c bs w hA hF hf hN hn (rfmt_h hF))
  have HAA := Lib.hid hA
  have hwh := hf.wh
  obtain ⟨M, hM⟩ : ∃ M, W * H = M := ⟨_, rfl⟩
  rw [hM] at hwh hne
  have e1 : IntKind.i64.wrap ((W : Int) * (H : Int)) = (M : Int) := by rw [← Int.natCast_mul, hM, IntKind.wrap_i64]; omega
  have d1 : ((n2 : Int) != (M : Int)) = true := by simp; omega
  have d2 : ¬ (n2 : Int) = (M : Int) := by omega
  clear hF hf hN hn hM hA
  obtain ⟨hI, hO, hB⟩ := start_img w (.int .i64 (W : Int)) (.int .i64 (H : Int)) (.int .i64 (B : Int)) (.int .i64 (C : Int)) (.slice A n c)
  have HI := Lib.hid hI
  have HO0 := Lib.hid hO
  have HB0 := Lib.hid hB
  clear hI hO hB
  go_enter Try.func15, Try.ntmps15
  go_wp2_with fail
  generalize hW0 : (w.alloc (.cells #[.int .i64 (W : Int), .int .i64 (H : Int), .int .i64 (B : Int), .int .i64 (C : Int), .slice A n c] 24)).alloc (.cells #[.int .i64 0, .int .i64 0, .int .i64 0, .int .i64 0, .slice none 0 0] 24) = W0 at *
  clear hW0
  have i3 := img_cells HI.out
  have i4 := HI.out.lt
  go_wp2_with fail
  refine (HS.out _ (HAA.out.below HB0.out)).mono ?_
  rintro e V ⟨v, rfl, hown, kk⟩
  have HO := Lib.hid (HO0.out.here kk)
  have HIV := Lib.hid (HI.out.here kk)
  have HB := Lib.hid (HB0.out.trans (kk.mono HB0.out.size))
  have hw0 := HO0.out.lt
  obtain ⟨i0, i1, i2⟩ := five_facts HIV.out
  obtain ⟨a5, c5, rfl⟩ := own_sl' hown
  clear kk HI HO0 HB0 i3 i4 hown
  obtain ⟨p1, p2, p3⟩ := five_facts HO.out
  go_wp2_with fail
  refine ret_img (E := 1) (g := w.heap.size + 1) (five_set HO.out) (fun V hV => by have rv := hV.reads; simp [results, Try.results15, go_sem, rv]) rfl ?_
  exact ⟨rfl, five_below HB.out (by omega) _ _ _ _ _⟩
/-- The samples when k of them are blanked. -/
def mkL (cl : List Bool) (C : Nat) (f : Nat → Nat) (N k : Nat) : List Nat := (List.range N).map fun i => if i < k then msk cl C f i else f i
theorem mkL_zero (cl : List Bool) (C : Nat) (f : Nat → Nat) (N : Nat) : mkL cl C f N 0 = (List.range N).map f := by unfold mkL; simp
theorem mkL_all (cl : List Bool) (C : Nat) (f : Nat → Nat) (N : Nat) : mkL cl C f N N = (List.range N).map (msk cl C f) := by
  unfold mkL
  apply List.map_congr_left
  intro i hi
  rw [if_pos (List.mem_range.1 hi)]
theorem mkL_skip {cl : List Bool} {C : Nat} {f : Nat → Nat} {N k : Nat} (h : msk cl C f k = f k) : mkL cl C f N (k + 1) = mkL cl C f N k := by
  unfold mkL
  apply List.map_congr_left
  intro i hi
  by_cases e : i < k
  · rw [if_pos e, if_pos (by omega)]
  · rw [if_neg e]
    by_cases e2 : i = k
    · subst e2; rw [if_pos (by omega), h]
    · rw [if_neg (by omega)]
theorem mkL_step (cl : List Bool) (C : Nat) (f : Nat → Nat) {N k : Nat} : mkL cl C f N (k + 1) = (mkL cl C f N k).set k (msk cl C f k) := by
  unfold mkL
  apply List.ext_getElem
  · simp
  · intro i h1 h2
    rw [List.getElem_set]
    simp only [List.getElem_map, List.getElem_range]
    by_cases e2 : k = i
    · subst e2; rw [if_pos (by omega), if_pos rfl]
    · rw [if_neg e2]
      by_cases e : i < k
      · rw [if_pos e, if_pos (by omega)]
      · rw [if_neg e, if_neg (by omega)]
theorem nvs_set (l : List Nat) (k x : Nat) : (nvs l).set k (.int .i64 (x : Int)) = nvs (l.set k x) := by simp [nvs, List.map_set]
theorem ints_own {w : World} {base g N cap : Nat} {l : List Nat} (h : w.ownsRow base 3 1 (.slice (some ⟨g, 0, none⟩) N cap) N (nvs l)) : IntsAt w (some ⟨g, 0, none⟩) N cap (l.map fun x : Nat => (x : Int)) := by
  obtain ⟨hl, h2⟩ := h
  have hl : l.length = N := by simpa [nvs] using hl
  rcases h2 with ⟨e, _⟩ | ⟨g', cap', cur, e, hg, hw, hnc, hc, hs, ht⟩
  · cases e
  · injection e with e1 e2 e3
    injection e1 with e1
    injection e1 with e1
    subst e1 e3
    have hlt : g < w.heap.size := Whole.lt (T := 3) hw
    refine ⟨by simpa using hl, hnc, by unfold maxLen at hc; omega, fun hn => ⟨g, 0, rfl, hlt, fun i x hi => ?_⟩⟩
    rw [List.getElem?_map] at hi
    have hil : i < l.length := by
      rcases Nat.lt_or_ge i l.length with h | h
      · exact h
      · rw [List.getElem?_eq_none h] at hi; cases hi
    rw [List.getElem?_eq_getElem hil] at hi
    injection hi with hi
    subst hi
    rw [Nat.zero_add, World.ownsRow.cellAt (w := w) (base := base) (e := 3) (size := 1) (g := g) (cap := cap) (n := N) (xs := nvs l) ⟨by simpa [nvs] using hl, .inr ⟨g, cap, cur, rfl, hg, hw, hnc, hc, hs, ht⟩⟩ i (by omega)]
    simp [nvs, hil]
set_option maxRecDepth 100000 in
set_option maxHeartbeats 8000000 in
theorem rblank_good (W H B C P S N : Nat) (A : Option Addr) (n c : Nat) (bs : List Nat) (A2 : Option Addr) (c2 : Nat) (cl : List Bool) (w : World) (hA : Bytes w A n c bs) (h2 : BoolsAt w A2 (W * H) c2 cl) (hF : fmtB (W : Int) (H : Int) (B : Int) (C : Int) = true) (hf : FmtN (W : Int) (H : Int) (B : Int) (C : Int) W H B C P S) (hN : H * P = N) (hn : n = H * S) :
    Calls Try.prog 15 #[.agg #[.int .i64 (W : Int), .int .i64 (H : Int), .int .i64 (B : Int), .int .i64 (C : Int), .slice A n c], .slice A2 (W * H) c2] w (RPackGo W H B C P S N ((List.range N).map fun i => ((msk cl C (smp bs B S P) i : Nat) : Int)) w) := by
  have HS := Lib.hid (fun w hA => rsamples_good W H B C P S N A n c bs w hA hF hf hN hn (rfmt_h hF))
  have HAA := Lib.hid hA
  have hQ9 := hf.wh
  have hN0 : 0 < N := by rw [← hN]; exact Nat.mul_pos (rfmt_h hF) hf.p0
  have hN2 : N ≤ 262144 := by rw [← hN]; exact hf.n2
  have hC0 := hf.c0
  have hQN : W * H * C = N := by rw [← hN, ← hf.p, Nat.mul_comm W H, Nat.mul_assoc]
  obtain ⟨Q, hQ⟩ : ∃ Q, W * H = Q := ⟨_, rfl⟩
  rw [hQ] at hQ9 hQN h2 ⊢
  have hC9 : ¬ (C : Int) = 0 := by omega
  have hC8 : ¬ C = 0 := by omega
  have e1 : IntKind.i64.wrap ((W : Int) * (H : Int)) = (Q : Int) := by rw [← Int.natCast_mul, hQ, IntKind.wrap_i64]; omega
  have HPG := Lib.hid (fun (w : World) (g cap : Nat) hl => rpack_go W H B C P S N A n c (some ⟨g, 0, none⟩) cap ((List.range N).map fun i => ((msk cl C (smp bs B S P) i : Nat) : Int)) w hF hf hN hl)
  have HGV := Lib.hid (show ∀ v ∈ (List.range N).map (fun i => ((msk cl C (smp bs B S P) i : Nat) : Int)), goodV B v from fun v hv => by
    obtain ⟨i, -, rfl⟩ := List.mem_map.1 hv
    have : msk cl C (smp bs B S P) i < 2 ^ B := by
      unfold msk
      split
      · exact Nat.two_pow_pos _
      · exact smp_lt S P i hA.byte (by have := hf.b; omega)
    exact ⟨by omega, by omega⟩)
  have HBL := Lib.hid h2
  have HQN := Lib.hid hQN
  have HFN := Lib.hid hf
  clear hF hf hN hn hQ hA h2 hQN
  obtain ⟨hI, hO, hB⟩ := start_img w (.int .i64 (W : Int)) (.int .i64 (H : Int)) (.int .i64 (B : Int)) (.int .i64 (C : Int)) (.slice A n c)
  have HI := Lib.hid hI
  have HO0 := Lib.hid hO
  have HB0 := Lib.hid hB
  clear hI hO hB
  go_enter Try.func15, Try.ntmps15
  go_wp2_with fail
  generalize hW0 : (w.alloc (.cells #[.int .i64 (W : Int), .int .i64 (H : Int), .int .i64 (B : Int), .int .i64 (C : Int), .slice A n c] 24)).alloc (.cells #[.int .i64 0, .int .i64 0, .int .i64 0, .int .i64 0, .slice none 0 0] 24) = W0 at *
  clear hW0
  have i3 := img_cells HI.out
  have i4 := HI.out.lt
  go_wp2_with fail
  refine (HS.out _ (HAA.out.below HB0.out)).mono ?_
  rintro e V ⟨v, rfl, hown, kk⟩
  have HO := Lib.hid (HO0.out.here kk)
  have HIV := Lib.hid (HI.out.here kk)
  have HB := Lib.hid (HB0.out.trans (kk.mono HB0.out.size))
  have hw0 := HO0.out.lt
  obtain ⟨i0, i1, i2⟩ := five_facts HIV.out
  obtain ⟨a5, c5, rfl⟩ := own_sl' hown
  obtain ⟨g, rfl, hgb⟩ : ∃ g, a5 = some ⟨g, 0, none⟩ ∧ W0.heap.size ≤ g := by
    rcases hown.2 with ⟨e, e0⟩ | ⟨g, cap, cur, e, hg, _⟩
    · omega
    · injection e with e1 e2 e3
      exact ⟨g, e1, hg⟩
  obtain ⟨f, hfe⟩ : ∃ f, smp bs B S P = f := ⟨_, rfl⟩
  rw [hfe] at hown HPG HGV
  have HFE := Lib.hid hfe
  rw [← mkL_zero cl C f N] at hown
  have HOW := Lib.hid (And.intro hown kk)
  clear kk i3 i4 hown hfe HIV HO HB HS
  go_wp2_with fail
  clear i0 i1 i2
  go_loopw [8] (fun s8 wr => ∃ k : Nat, k ≤ N ∧ s8 = .int .i64 (k : Int) ∧ Hid (wr.ownsRow W0.heap.size 3 1 (.slice (some ⟨g, 0, none⟩) N c5) N (nvs (mkL cl C f N k)) ∧ Below W0.heap.size W0 wr)) (fun s8 _ => N - (intOf s8).toNat)
  case atStart => exact ⟨0, by omega, rfl, HOW⟩
  case round =>
    obtain ⟨k, hk, rfl, HR⟩ := hrel
    have HIV := Lib.hid (HI.out.here HR.out.2)
    obtain ⟨i0, i1, i2⟩ := five_facts HIV.out
    by_cases hlt : k < N
    · have d1 : decide ((k : Int) < (N : Int)) = true := decide_eq_true (by omega)
      have hkq : k / C < Q := by rw [Nat.div_lt_iff_lt_mul hC0, HQN.out]; exact hlt
      obtain ⟨cv, hcv⟩ : ∃ cv, cl[k / C]? = some cv := ⟨_, List.getElem?_eq_getElem (by rw [HBL.out.len]; exact hkq)⟩
      obtain ⟨R2, o2, rfl, hR2, hcell⟩ := (HBL.out.below (HB0.out.trans (HR.out.2.mono HB0.out.size))).at_ (Nat.lt_of_le_of_lt (Nat.zero_le _) hkq)
      have hcq := hcell (k / C) cv hcv
      have hgd : cl.getD (k / C) false = cv := by rw [List.getD_eq_getElem?_getD, hcv]; rfl
      obtain ⟨q, hq⟩ : ∃ q, k / C = q := ⟨_, rfl⟩
      have d3 : (k : Int).tdiv (C : Int) = (q : Int) := by rw [Int.tdiv_eq_ediv_of_nonneg (by omega), ← hq]; rfl
      have d4 : IntKind.i64.wrap (q : Int) = (q : Int) := by rw [IntKind.wrap_i64]; omega
      rw [hq] at hcq hkq
      have b0 : (0 : Int) ≤ (q : Int) := by omega
      have b1 : (q : Int) < (Q : Int) := by omega
      have b2 : (0 : Int) ≤ (k : Int) := by omega
      have hfz := HR.out.1.frozenAt k
      have hgl : g < wr.heap.size := (HR.out.1.lt g rfl).2
      have hck : wr.cell? ⟨g, k, none⟩ = (nvs (mkL cl C f N k))[k]? := HR.out.1.cellAt k (by omega)
      rw [List.getElem?_eq_getElem (by simp [nvs, mkL]; exact hlt)] at hck
      have HGD := Lib.hid hgd
      clear hcell hcv hgd hq
      cases cv
      · have HN := Lib.hid (And.intro (show wr.ownsRow W0.heap.size 3 1 (.slice (some ⟨g, 0, none⟩) N c5) N (nvs (mkL cl C f N (k + 1))) from by
          rw [mkL_skip (by unfold msk; rw [HGD.out]; rfl)]; exact HR.out.1) HR.out.2)
        clear HR
        go_wp2_with fail
        go_roundw
        case rel => exact ⟨k + 1, by omega, by go_num, HN⟩
        case measure => simp [intOf]; omega
      · have HN := Lib.hid (And.intro (show (wr.setCell ⟨g, k, none⟩ (.int .i64 0)).ownsRow W0.heap.size 3 1 (.slice (some ⟨g, 0, none⟩) N c5) N (nvs (mkL cl C f N (k + 1))) from by
          rw [mkL_step cl C f, show msk cl C f k = 0 by unfold msk; rw [HGD.out]; rfl, ← nvs_set]
          exact (HR.out.1.stored k (.int .i64 0)).1) (HR.out.2.setCell (p := ⟨g, k, none⟩) hgb (.int .i64 0)))
        clear HR
        go_wp2_with fail
        go_roundw
        case rel => exact ⟨k + 1, by omega, by go_num, HN⟩
        case measure => simp [intOf]; omega
    · obtain rfl : k = N := by omega
      have d1 : decide ((k : Int) < (k : Int)) = false := by simp
      have hl := ints_own HR.out.1
      rw [mkL_all, List.map_map] at hl
      have HPK := Lib.hid (HPG.out wr g c5 hl)
      have HO := Lib.hid (HO0.out.here HR.out.2)
      have HB := Lib.hid (HB0.out.trans (HR.out.2.mono HB0.out.size))
      clear hl HPG HR HI HO0 HB0
      go_wp2_with fail
      refine HPK.out.mono ?_
      rintro e w5 h5
      rcases h5 with ⟨-, v, rfl, hown, hby, hb5⟩ | ⟨hno, -⟩
      · obtain ⟨a6, c6, rfl⟩ := own_sl' hown
        have HO5 := Lib.hid (HO.out.here hb5)
        have HB5 := Lib.hid (HB.out.trans (hb5.mono HB.out.size))
        have hlt5 := HO.out.lt
        have HF5 := Lib.hid (And.intro hown hby)
        obtain ⟨p1, p2, p3⟩ := five_facts HO5.out
        clear hown hby hb5
        go_wp2_with fail
        refine ret_img (E := 0) (g := w.heap.size + 1) (five_set HO5.out) (fun V hV => by have rv := hV.reads; simp [results, Try.results15, go_sem, rv]) rfl ?_
        have hsz := HB.out.size
        have hfe := HFE.out
        subst hfe
        exact ⟨_, rfl, own_down (own_five (g := w.heap.size + 1) HF5.out.1 hlt5 _ _ _ _ _) hsz, HF5.out.2, five_below HB5.out (by omega) _ _ _ _ _⟩
      · exact absurd HGV.out hno
/-- What the reference's Blank answers at any image. -/
def RBlankIs (W H B C : Int) (n n2 : Nat) (bs : List Nat) (cl : List Bool) (w : World) (e : Ending) (w' : World) : Prop :=
  (¬ (chkB W H B C n = true ∧ (n2 : Int) = W * H) ∧ NoImg w e w') ∨
  (∃ W' H' B' C' P S : Nat, fmtB W H B C = true ∧ FmtN W H B C W' H' B' C' P S ∧ n = H' * S ∧ n2 = W' * H' ∧ RPackGo W' H' B' C' P S (H' * P) ((List.range (H' * P)).map fun i => ((msk cl C' (smp bs B' S P) i : Nat) : Int)) w e w')
theorem rblank_any (W H B C : Int) (A : Option Addr) (n c : Nat) (bs : List Nat) (A2 : Option Addr) (n2 c2 : Nat) (cl : List Bool) (w : World) (hA : Bytes w A n c bs) (h2 : BoolsAt w A2 n2 c2 cl) :
    Calls Try.prog 15 #[.agg #[.int .i64 W, .int .i64 H, .int .i64 B, .int .i64 C, .slice A n c], .slice A2 n2 c2] w (RBlankIs W H B C n n2 bs cl w) := by
  cases hk : chkB W H B C n
  · exact (rblank_chk W H B C A n c A2 n2 c2 w hk).mono fun e w' h => .inl ⟨(fun k => by rw [hk] at k; cases k.1), h⟩
  · obtain ⟨hF, W', H', B', C', P, S, hf, hn⟩ := chk_fmt hk
    have hf0 := hf
    obtain ⟨rfl, rfl, rfl, rfl⟩ := hf.eq
    by_cases hq : n2 = W' * H'
    · subst hq
      exact (rblank_good W' H' B' C' P S (H' * P) A n c bs A2 c2 cl w hA h2 hF hf rfl hn).mono fun e w' h => .inr ⟨W', H', B', C', P, S, hF, hf0, hn, rfl, h⟩
    · exact (rblank_len W' H' B' C' P S (H' * P) A n c bs A2 n2 c2 w hA hF hf rfl hn hq).mono fun e w' h => .inl ⟨(fun k => hq (by have := k.2; rw [← Int.natCast_mul] at this; omega)), h⟩
end Go.Proofs.Ytmleoagdelgddaa
