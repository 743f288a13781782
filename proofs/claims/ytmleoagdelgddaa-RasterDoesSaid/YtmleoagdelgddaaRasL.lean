/- raster: Covered. -/
import Derived.Test.YtmleoagdelgddaaRasF
import Derived.Test.YtmleoagdelgddaaRasK
import Derived.Test.YtmleoagdelgddaaMatMap
namespace Go.Proofs.Ytmleoagdelgddaa
open Go.RowKit Dec

/-- May there be so many pixels? -/
def sizeB (W H : Int) : Bool := decide (0 < W) && (decide (0 < H) && decide (W ≤ 65536 / H))
set_option maxRecDepth 100000 in
theorem isSize_any (W H : Int) (w : World) : Calls Try.prog 35 #[.int .i64 W, .int .i64 H] w fun e w' => e = .returned (.bool (sizeB W H)) ∧ w = w' := by
  by_cases h1 : 0 < W
  · by_cases h2 : 0 < H
    · have d1 : decide (0 < W) = true := decide_eq_true h1
      have d2 : decide (0 < H) = true := decide_eq_true h2
      have z1 : (H == 0) = false := beq_false_of_ne (by omega)
      have z2 : ¬ H = 0 := by omega
      have q1 : (65536 : Int).tdiv H = 65536 / H := Int.tdiv_eq_ediv_of_nonneg (by omega)
      have q3 : 0 ≤ 65536 / H := Int.ediv_nonneg (by omega) (by omega)
      have q4 : 65536 / H ≤ 65536 := Int.ediv_le_self _ (by omega)
      obtain ⟨q, hq⟩ : ∃ q, 65536 / H = q := ⟨_, rfl⟩
      have HS := Lib.hid (show sizeB W H = decide (W ≤ q) by unfold sizeB; rw [d1, d2, hq, Bool.true_and, Bool.true_and])
      rw [hq] at q1 q3 q4
      have q2 : IntKind.i64.wrap q = q := by rw [IntKind.wrap_i64]; omega
      clear hq
      go_enter Try.func35, Try.ntmps35
      go_wp2_with fail
      go_ret
      exact ⟨by rw [HS.out]; rfl, rfl⟩
    · have d1 : decide (0 < W) = true := decide_eq_true h1
      have d2 : decide (0 < H) = false := decide_eq_false h2
      have HS := Lib.hid (show sizeB W H = false by unfold sizeB; rw [d1, d2]; rfl)
      go_enter Try.func35, Try.ntmps35
      go_wp2_with fail
      go_ret
      exact ⟨by rw [HS.out]; rfl, rfl⟩
  · have d1 : decide (0 < W) = false := decide_eq_false h1
    have HS := Lib.hid (show sizeB W H = false by unfold sizeB; rw [d1]; rfl)
    go_enter Try.func35, Try.ntmps35
    go_wp2_with fail
    go_ret
    exact ⟨by rw [HS.out]; rfl, rfl⟩
theorem sizeB_nat {W H : Int} (h : sizeB W H = true) : ∃ X Z : Nat, W = (X : Int) ∧ H = (Z : Int) ∧ 1 ≤ X ∧ 1 ≤ Z ∧ X * Z ≤ 65536 := by
  unfold sizeB at h
  simp only [Bool.and_eq_true, decide_eq_true_eq] at h
  obtain ⟨h1, h2, h3⟩ := h
  obtain ⟨X, rfl⟩ : ∃ X : Nat, W = (X : Int) := ⟨W.toNat, by omega⟩
  obtain ⟨Z, rfl⟩ : ∃ Z : Nat, H = (Z : Int) := ⟨H.toNat, by omega⟩
  have := (Int.le_ediv_iff_mul_le (by omega : (0 : Int) < (Z : Int))).1 h3
  exact ⟨X, Z, rfl, rfl, by omega, by omega, by rw [← Int.natCast_mul] at this; omega⟩
/-- The first error of boxes that are multiplied. -/
noncomputable def bE (l : List BV) (N : Int) : Int := l.foldl (fun e b => kp e (be b N)) 0
theorem bE_snoc (l : List BV) (b : BV) (N : Int) : bE (l ++ [b]) N = kp (bE l N) (be b N) := by unfold bE; rw [List.foldl_append]; rfl
/-- What Covered answers: its error. -/
noncomputable def covE (m : MV) (W H : Int) (l : List BV) : Int := open Classical in
  if sizeB W H = true ∧ m.Ok ∧ ∀ b ∈ l, b.Ok then kp (gridE m W.toNat H.toNat) (bE l (((W.toNat * H.toNat : Nat)) : Int)) else 1
def CovIs (m : MV) (W H : Int) (l : List BV) (w : World) (e : Ending) (w' : World) : Prop :=
  Below w.heap.size w w' ∧ ((covE m W H l ≠ 0 ∧ e = .returned (.tuple #[.slice none 0 0, .int .i64 (covE m W H l)])) ∨
    (covE m W H l = 0 ∧ ∃ X Z B : Nat, W = (X : Int) ∧ H = (Z : Int) ∧ 1 ≤ X ∧ 1 ≤ Z ∧ X * Z ≤ 65536 ∧ e = .returned (.tuple #[.slice (some ⟨B, 0, none⟩) (X * Z) (X * Z), .int .i64 0]) ∧
      Whole w' B 4 (rowBl (cov (pF m X Z) ((Z + 1) * (X + 1)) X Z (l.map (bm · ((X * Z : Nat) : Int)))) (X * Z) (X * Z))))
theorem CovIs.bad {m : MV} {W H : Int} {l : List BV} {w w' : World} (h : ¬ (sizeB W H = true ∧ m.Ok ∧ ∀ b ∈ l, b.Ok)) (hb : Below w.heap.size w w') : CovIs m W H l w (.returned (.tuple #[.slice none 0 0, .int .i64 1])) w' := by
  have he : covE m W H l = 1 := by unfold covE; rw [if_neg h]
  exact ⟨hb, .inl (by rw [he]; exact ⟨by decide, rfl⟩)⟩
theorem BV.oks {b : BV} (h : b.Ok) : b.x0.Ok ∧ b.y0.Ok ∧ b.x1.Ok ∧ b.y1.Ok := by
  obtain ⟨h1, h2⟩ := h
  unfold leB at h1 h2
  have h1 := of_decide_eq_true h1
  have h2 := of_decide_eq_true h2
  exact ⟨h1.1, h2.1, h1.2.1, h2.2.1⟩
theorem mat_facts {v : World} {g : Nat} {T : TypeId} {m : MV} (h : Whole v g T #[.int .i64 m.a.m, .int .i64 m.a.s, .int .i64 m.b.m, .int .i64 m.b.s, .int .i64 m.c.m, .int .i64 m.c.s, .int .i64 m.d.m, .int .i64 m.d.s, .int .i64 m.e.m, .int .i64 m.e.s, .int .i64 m.f.m, .int .i64 m.f.s]) : v.cell? ⟨g, 0, none⟩ = some (.int .i64 m.a.m) ∧ v.cell? ⟨g, 1, none⟩ = some (.int .i64 m.a.s) ∧ v.cell? ⟨g, 2, none⟩ = some (.int .i64 m.b.m) ∧ v.cell? ⟨g, 3, none⟩ = some (.int .i64 m.b.s) ∧ v.cell? ⟨g, 4, none⟩ = some (.int .i64 m.c.m) ∧ v.cell? ⟨g, 5, none⟩ = some (.int .i64 m.c.s) ∧ v.cell? ⟨g, 6, none⟩ = some (.int .i64 m.d.m) ∧ v.cell? ⟨g, 7, none⟩ = some (.int .i64 m.d.s) ∧ v.cell? ⟨g, 8, none⟩ = some (.int .i64 m.e.m) ∧ v.cell? ⟨g, 9, none⟩ = some (.int .i64 m.e.s) ∧ v.cell? ⟨g, 10, none⟩ = some (.int .i64 m.f.m) ∧ v.cell? ⟨g, 11, none⟩ = some (.int .i64 m.f.s) ∧ g < v.heap.size := ⟨h.reads 0, h.reads 1, h.reads 2, h.reads 3, h.reads 4, h.reads 5, h.reads 6, h.reads 7, h.reads 8, h.reads 9, h.reads 10, h.reads 11, h.lt⟩
theorem pts_fr {w w' : World} {R o n : Nat} {F : Nat → PV} {S : Nat} {e : Int} (h : ∀ i < n, PAt w R (o + i * 4) (F i)) (hf : FrS S w w') (hs : SC w S e) : ∀ i < n, PAt w' R (o + i * 4) (F i) := by
  intro i hi
  have hi' := h i hi
  have hR := hi'.lt
  have hne : R ≠ S := by
    rintro rfl
    have := hi'.2.2.2
    rw [hs.reads] at this
    rw [Array.getElem?_eq_none (by simp)] at this
    cases this
  have key : ∀ j u, w.cell? ⟨R, j, none⟩ = some u → w'.cell? ⟨R, j, none⟩ = some u := fun j u hu => (World.cell?_of_block (w := w) (a := ⟨R, j, none⟩) (hf.block R hR hne)).trans hu
  exact ⟨key _ _ hi'.1, key _ _ hi'.2.1, key _ _ hi'.2.2.1, key _ _ hi'.2.2.2⟩
set_option maxRecDepth 100000 in
set_option maxHeartbeats 16000000 in
theorem covered_any (m : MV) (W H : Int) (A : Option Addr) (n c : Nat) (l : List BV) (w : World) (h : BxsAt w A n c l) (hn : n ≤ 1000) :
    Calls Try.prog 22 #[.agg #[.int .i64 m.a.m, .int .i64 m.a.s, .int .i64 m.b.m, .int .i64 m.b.s, .int .i64 m.c.m, .int .i64 m.c.s, .int .i64 m.d.m, .int .i64 m.d.s, .int .i64 m.e.m, .int .i64 m.e.s, .int .i64 m.f.m, .int .i64 m.f.s], .int .i64 W, .int .i64 H, .slice A n c] w (CovIs m W H l w) := by
  have HS := Lib.hid (fun w => isSize_any W H w)
  have HB0 := Lib.hid ((Below.refl w.heap.size w).alloc (Nat.le_refl _) (.cells #[.int .i64 m.a.m, .int .i64 m.a.s, .int .i64 m.b.m, .int .i64 m.b.s, .int .i64 m.c.m, .int .i64 m.c.s, .int .i64 m.d.m, .int .i64 m.d.s, .int .i64 m.e.m, .int .i64 m.e.s, .int .i64 m.f.m, .int .i64 m.f.s] 42))
  cases hs : sizeB W H
  · have HX := Lib.hid (fun w' hb => CovIs.bad (m := m) (l := l) (w := w) (w' := w') (fun k : sizeB W H = true ∧ m.Ok ∧ ∀ b ∈ l, b.Ok => by rw [hs] at k; cases k.1) hb)
    rw [hs] at HS
    clear hs h
    go_enter Try.func22, Try.ntmps22
    go_wp2_with fail
    refine (HS.out _).mono ?_
    rintro e w1 ⟨rfl, rfl⟩
    go_wp2_with fail
    go_ret2
    exact HX.out _ HB0.out
  · by_cases hm : m.Ok
    · obtain ⟨X, Z, rfl, rfl, hX, hZ, hXZ⟩ := sizeB_nat hs
      have HX := Lib.hid (fun w' hb (k : ¬ ∀ b ∈ l, b.Ok) => CovIs.bad (m := m) (W := (X : Int)) (H := (Z : Int)) (l := l) (w := w) (w' := w') (fun q : sizeB (X : Int) (Z : Int) = true ∧ m.Ok ∧ ∀ b ∈ l, b.Ok => k q.2.2) hb)
      have HE := Lib.hid (show (∀ b ∈ l, b.Ok) → covE m (X : Int) (Z : Int) l = kp (gridE m X Z) (bE l ((X * Z : Nat) : Int)) from fun k => by
        unfold covE
        rw [if_pos ⟨hs, hm, k⟩]
        rfl)
      have HM := Lib.hid (fun w => mcheck_any m w 0 (.inl ⟨hm, rfl⟩))
      have HGR := Lib.hid (fun S w (hsc : SC w S 0) => grid_any S 0 m X Z w hsc hm hX hZ hXZ)
      rw [hs] at HS
      obtain ⟨N, hN⟩ : ∃ N, X * Z = N := ⟨_, rfl⟩
      have hN9 : N ≤ 65536 := by rw [← hN]; exact hXZ
      have hmul : IntKind.i64.wrap ((X : Int) * (Z : Int)) = (N : Int) := by rw [← Int.natCast_mul, hN, IntKind.wrap_i64]; omega
      have HN := Lib.hid hN
      have HL := Lib.hid h.len
      have hcap := h.cap
      have htop := h.top
      have HH := Lib.hid h
      have HMW := Lib.hid (Whole.made w 42 #[.int .i64 m.a.m, .int .i64 m.a.s, .int .i64 m.b.m, .int .i64 m.b.s, .int .i64 m.c.m, .int .i64 m.c.s, .int .i64 m.d.m, .int .i64 m.d.s, .int .i64 m.e.m, .int .i64 m.e.s, .int .i64 m.f.m, .int .i64 m.f.s])
      have HNK := Lib.hid (nat_ok N (by omega))
      clear hs h hm hN
      go_enter Try.func22, Try.ntmps22
      go_wp2_with fail
      refine (HS.out _).mono ?_
      rintro e w1 ⟨rfl, rfl⟩
      go_wp2_with fail
      refine (HM.out _).mono ?_
      rintro e w1 ⟨rfl, hb⟩
      have HB1 := Lib.hid (HB0.out.trans (hb.mono HB0.out.size))
      have HMW1 := Lib.hid (HMW.out.here hb)
      have s1 := hb.size
      simp only [World.size_alloc] at s1
      clear hb
      go_wp2_with fail
      go_loopw [29] (fun i wr => ∃ k : Nat, i = .int .i64 (k : Int) ∧ k ≤ n ∧ Hid (∀ b ∈ l.take k, b.Ok) ∧ Hid (Below w1.heap.size w1 wr)) (fun i _ => n - (intOf i).toNat)
      case atStart => exact ⟨0, rfl, by omega, Lib.hid (fun b hb => by simp at hb), Lib.hid (Below.refl _ _)⟩
      case round =>
        obtain ⟨k, rfl, hk, HO, HR⟩ := hrel
        have hfull := HB1.out.trans (HR.out.mono HB1.out.size)
        by_cases hlt : k < n
        · have d1 : decide ((k : Int) < (n : Int)) = true := decide_eq_true (by omega)
          obtain ⟨b, hb⟩ : ∃ b, l[k]? = some b := ⟨_, List.getElem?_eq_getElem (by rw [HL.out]; exact hlt)⟩
          obtain ⟨R2, o2, rfl, hR2, hcell⟩ := (HH.out.below hfull).at_ (by omega)
          obtain ⟨c0, c1, c3, c4, c5, c6, c7, c8⟩ := (hcell k b hb).cells
          have HF := Lib.hid hfull
          have hbl := hfull.alloc hfull.size (.cells #[.int .i64 b.x0.m, .int .i64 b.x0.s, .int .i64 b.y0.m, .int .i64 b.y0.s, .int .i64 b.x1.m, .int .i64 b.x1.s, .int .i64 b.y1.m, .int .i64 b.y1.s] 52)
          have hrl := HR.out.alloc HR.out.size (.cells #[.int .i64 b.x0.m, .int .i64 b.x0.s, .int .i64 b.y0.m, .int .i64 b.y0.s, .int .i64 b.x1.m, .int .i64 b.x1.s, .int .i64 b.y1.m, .int .i64 b.y1.s] 52)
          have HBL := Lib.hid (And.intro hbl hrl)
          have HMEM := Lib.hid (List.mem_of_getElem? hb)
          by_cases hok : b.Ok
          · have HBC := Lib.hid (fun w => bcheck_any b w 0 (.inl ⟨hok, rfl⟩))
            have HO2 := Lib.hid (show ∀ q ∈ l.take (k + 1), q.Ok from fun q hq => by
              rw [List.take_add_one, hb] at hq
              rcases List.mem_append.1 hq with hq | hq
              · exact HO.out q hq
              · simp at hq; subst hq; exact hok)
            unfold BV.val at HBC
            clear hcell hb hfull hbl hrl hok
            go_wp2_with fail
            refine (HBC.out _).mono ?_
            rintro e w2 ⟨rfl, hb⟩
            have HR2 := Lib.hid (HBL.out.2.trans (hb.mono HBL.out.2.size))
            clear hb c0 c1 c3 c4 c5 c6 c7 c8
            go_wp2_with fail
            go_roundw
            case rel => exact ⟨k + 1, by go_num, by omega, HO2, HR2⟩
            case measure => simp [intOf]; omega
          · have HBC := Lib.hid (fun w => bcheck_any b w 1 (.inr ⟨hok, rfl⟩))
            have HNO := Lib.hid (show ¬ ∀ q ∈ l, q.Ok from fun q => hok (q b HMEM.out))
            unfold BV.val at HBC
            clear hcell hb hfull hbl hrl hok
            go_wp2_with fail
            refine (HBC.out _).mono ?_
            rintro e w2 ⟨rfl, hb⟩
            have HR2 := Lib.hid (HBL.out.1.trans (hb.mono HBL.out.1.size))
            clear hb c0 c1 c3 c4 c5 c6 c7 c8
            go_wp2_with fail
            go_ret2
            exact HX.out _ HR2.out HNO.out
        · obtain rfl : k = n := by omega
          have d1 : decide ((k : Int) < (k : Int)) = false := by simp
          have HALL := Lib.hid (show ∀ b ∈ l, b.Ok by
            have := HO.out
            rwa [List.take_of_length_le (by rw [HL.out]; exact Nat.le_refl _)] at this)
          have hmw := (HMW1.out.here HR.out)
          have HF := Lib.hid (hfull.alloc hfull.size (.cells #[.int .i64 0] 66))
          have HSC := Lib.hid (Whole.made wr 66 #[.int .i64 0])
          have HMW2 := Lib.hid (hmw.old (.cells #[.int .i64 0] 66))
          have sR := HR.out.size
          obtain ⟨q0, q1, q2, q3, q4, q5, q6, q7, q8, q9, q10, q11, q12⟩ := mat_facts hmw
          clear hfull hmw HX
          go_wp2_with fail
          refine (HGR.out wr.heap.size _ HSC.out).mono ?_
          rintro e w2 ⟨A4, c4, rfl, hpts, hsc, hfr⟩
          obtain ⟨R4, o4, rfl, hpt⟩ : ∃ R o, A4 = some ⟨R, o, none⟩ ∧ ∀ i < (Z + 1) * (X + 1), PAt w2 R (o + i * 4) (pF m X Z i) := hpts.resolve_left (Nat.ne_of_gt (Nat.mul_pos (by omega) (by omega)))
          have hS2 : SC w2 wr.heap.size (gridE m X Z) := by
            have : kp 0 (gridE m X Z) = gridE m X Z := by unfold kp; rw [if_pos rfl]
            rwa [this] at hsc
          have hS3 := hS2.old (.cells #[.int .i64 (X : Int), .int .i64 (Z : Int), .slice (some ⟨R4, o4, none⟩) ((Z + 1) * (X + 1)) c4] 69)
          have hb2 : Below w.heap.size w w2 := HF.out.trans (hfr.below (by have := HF.out.size; simp at this ⊢; omega) (fun j hj => by have := HB1.out.size; show ¬ j = wr.heap.size; omega))
          have HB3 := Lib.hid (hb2.alloc hb2.size (.cells #[.int .i64 (X : Int), .int .i64 (Z : Int), .slice (some ⟨R4, o4, none⟩) ((Z + 1) * (X + 1)) c4] 69))
          have hw3 := Whole.made w2 69 #[.int .i64 (X : Int), .int .i64 (Z : Int), .slice (some ⟨R4, o4, none⟩) ((Z + 1) * (X + 1)) c4]
          have hp3 : ∀ i < (Z + 1) * (X + 1), PAt (w2.alloc (.cells #[.int .i64 (X : Int), .int .i64 (Z : Int), .slice (some ⟨R4, o4, none⟩) ((Z + 1) * (X + 1)) c4] 69)) R4 (o4 + i * 4) (pF m X Z i) := fun i hi => (hpt i hi).later ((Below.refl _ _).alloc (Nat.le_refl _) _)
          have s2 := hfr.size
          simp only [World.size_alloc] at s2
          have HP3 := Lib.hid hp3
          have HW3 := Lib.hid hw3
          have HS3 := Lib.hid hS3
          have swr := HB1.out.size
          obtain ⟨ge, hge⟩ : ∃ g, gridE m X Z = g := ⟨_, rfl⟩
          rw [hge] at HS3 HE
          have HALE := Lib.hid (HE.out HALL.out)
          rw [HN.out] at HALE
          obtain ⟨n4, hn4⟩ : ∃ n4, (Z + 1) * (X + 1) = n4 := ⟨_, rfl⟩
          have HN4 := Lib.hid hn4
          rw [hn4] at HP3 HW3 HS3 HB3
          have hW : ∃ W, w2.alloc (.cells #[.int .i64 (X : Int), .int .i64 (Z : Int), .slice (some ⟨R4, o4, none⟩) n4 c4] 69) = W := ⟨_, rfl⟩
          clear hpts hpt hsc hfr hS2 hS3 hb2 hw3 hp3 hge HE
          rw [hn4]
          clear hn4
          go_wp2_with fail
          obtain ⟨W, hW⟩ := hW
          have sW : W.heap.size = w2.heap.size + 1 := by rw [← hW]; simp
          rw [hW] at HP3 HW3 HS3 HB3
          rw [hW]
          clear hW
          obtain ⟨S0, hS0⟩ : ∃ S0, wr.heap.size = S0 := ⟨_, rfl⟩
          rw [hS0] at HS3 s2 sR
          rw [hS0]
          have lS0 : w.heap.size < S0 := by omega
          clear HSC HMW2 HF hS0 HR HO
          go_loopw [15, 46] (fun v i wq => ∃ k2 : Nat, i = .int .i64 (k2 : Int) ∧ k2 ≤ k ∧ Hid (SC wq S0 (kp ge (bE (l.take k2) (N : Int))) ∧ wq.ownsRow (w2.heap.size + 1) 52 8 v k2 (rowBx ((l.map (bm · (N : Int))).take k2)) ∧ FrS S0 W wq)) (fun _ i _ => k - (intOf i).toNat)
          case atStart => exact ⟨0, rfl, by omega, Lib.hid ⟨by show SC _ _ (kp ge 0); rw [kp_0]; exact HS3.out, World.ownsRow_nil _ _ _ _, Fr.refl _ _⟩⟩
          case round =>
            obtain ⟨k2, rfl, hk2, HQ⟩ := hrel
            obtain ⟨a5, c5, rfl⟩ := own_sl HQ.out.2.1
            have hfull : Below w.heap.size w wr := HB3.out.trans (HQ.out.2.2.below (by omega) (fun j hj => by show ¬ j = S0; omega))
            have sQ := HQ.out.2.2.size
            have lS := HQ.out.1.lt
            by_cases hlt : k2 < k
            · have d1 : decide ((k2 : Int) < (k : Int)) = true := decide_eq_true (by omega)
              obtain ⟨b, hb⟩ : ∃ b, l[k2]? = some b := ⟨_, List.getElem?_eq_getElem (by rw [HL.out]; exact hlt)⟩
              obtain ⟨R2, o2, rfl, hR2, hcell⟩ := (HH.out.below hfull).at_ (by omega)
              obtain ⟨c0, c1, c3, c4, c6, c7, c8, c9⟩ := (hcell k2 b hb).cells
              obtain ⟨b0, b1, b2, b3⟩ := BV.oks (HALL.out b (List.mem_of_getElem? hb))
              have HT := Lib.hid (fun e w hs => sbox_any S0 e b (N : Int) w hs b0 b1 b2 b3 HNK.out)
              have HTK := Lib.hid (show (l.map (bm · (N : Int))).take (k2 + 1) = (l.map (bm · (N : Int))).take k2 ++ [bm b (N : Int)] ∧ bE (l.take (k2 + 1)) (N : Int) = kp (bE (l.take k2) (N : Int)) (be b (N : Int)) by
                refine ⟨by rw [List.take_add_one, List.getElem?_map, hb]; rfl, ?_⟩
                rw [List.take_add_one, hb]
                exact bE_snoc _ _ _)
              obtain ⟨t, ht⟩ : ∃ t, bm b (N : Int) = t := ⟨_, rfl⟩
              obtain ⟨Et, hEt⟩ : ∃ t, be b (N : Int) = t := ⟨_, rfl⟩
              rw [ht, hEt] at HT HTK
              have hsq := HQ.out.1.old (.cells #[.int .i64 b.x0.m, .int .i64 b.x0.s, .int .i64 b.y0.m, .int .i64 b.y0.s, .int .i64 b.x1.m, .int .i64 b.x1.s, .int .i64 b.y1.m, .int .i64 b.y1.s] 52)
              have HSQ := Lib.hid hsq
              have HF5 := Lib.hid hfull
              unfold BV.val at HT
              clear hcell hb ht hEt b0 b1 b2 b3 hsq hfull
              go_wp2_with fail
              refine (HT.out _ _ HSQ.out).mono ?_
              rintro e w5 ⟨rfl, hsc, hfr⟩
              have hown := own_frame (HQ.out.2.1.alloc (.cells #[.int .i64 b.x0.m, .int .i64 b.x0.s, .int .i64 b.y0.m, .int .i64 b.y0.s, .int .i64 b.x1.m, .int .i64 b.x1.s, .int .i64 b.y1.m, .int .i64 b.y1.s] 52)) hfr (fun g e => by have := (own_lt (HQ.out.2.1.alloc (.cells #[.int .i64 b.x0.m, .int .i64 b.x0.s, .int .i64 b.y0.m, .int .i64 b.y0.s, .int .i64 b.x1.m, .int .i64 b.x1.s, .int .i64 b.y1.m, .int .i64 b.y1.s] 52)) e).1; show ¬ g = S0; omega)
              have hfr5 : FrS S0 W w5 := FrS.trans (HQ.out.2.2.alloc (.cells #[.int .i64 b.x0.m, .int .i64 b.x0.s, .int .i64 b.y0.m, .int .i64 b.y0.s, .int .i64 b.x1.m, .int .i64 b.x1.s, .int .i64 b.y1.m, .int .i64 b.y1.s] 52)) hfr
              have HO5 := Lib.hid (And.intro hown (And.intro hsc hfr5))
              have s5 := hfr5.size
              have lS5 := hsc.lt
              clear hown hsc hfr hfr5 c0 c1 c3 c4 c6 c7 c8 c9
              obtain ⟨i0, hi, hz0, hz1, hz2⟩ := info_bx
              go_wp2_with (at_builtin; refine wpList_append_own _ rfl _ _ 43 rfl (w2.heap.size + 1) 52 i0 (.agg #[.int .i64 0, .int .i64 0, .int .i64 0, .int .i64 0, .int .i64 0, .int .i64 0, .int .i64 0, .int .i64 0]) 8 64 Try.underlying43 hi hz0 hz1 hz2 rfl (by decide) _ _ _ rfl (HO5.out.1.alloc _) ⟨w5.heap.size, 0, none⟩ 1 1 [.int .i64 t.x0.m, .int .i64 t.x0.s, .int .i64 t.y0.m, .int .i64 t.y0.s, .int .i64 t.x1.m, .int .i64 t.x1.s, .int .i64 t.y1.m, .int .i64 t.y1.s] rfl rfl (World.news_of_block (cs := #[.int .i64 t.x0.m, .int .i64 t.x0.s, .int .i64 t.y0.m, .int .i64 t.y0.s, .int .i64 t.x1.m, .int .i64 t.x1.s, .int .i64 t.y1.m, .int .i64 t.y1.s]) (t := 52) (fr := (0, 0)) (heap_alloc_new _ _)) ?p1 ?p2 ?p3 ?p4 ?_)
              case p1 => simp [Value.oneCell']
              case p2 => unfold maxLen; omega
              case p3 => omega
              case p4 => first | omega | (simp; omega)
              intro v' w6 hown' hgrow _
              have hown2 : w6.ownsRow (w2.heap.size + 1) 52 8 v' (k2 + 1) (rowBx ((l.map (bm · (N : Int))).take k2 ++ [t])) := by rw [← rowBx_snoc]; exact hown'
              have hsc6 : SC w6 S0 (kp (kp ge (bE (l.take k2) (N : Int))) Et) := (HO5.out.2.1.old _).kept hgrow (fun e => by have := (own_lt HO5.out.1 e.symm).1; omega)
              have hfr6 : FrS S0 W w6 := (HO5.out.2.2.alloc _).grown hgrow (fun j e hj => by have := (own_lt HO5.out.1 e).1; omega)
              have HO6 := Lib.hid (And.intro hsc6 (And.intro hown2 hfr6))
              clear hown' hgrow hown2 hsc6 hfr6
              go_wp2_with fail
              go_roundw
              case rel => exact ⟨k2 + 1, by go_num, by omega, Lib.hid (by
                rw [HTK.out.1, HTK.out.2, ← kp_kp]
                exact HO6.out)⟩
              case measure => simp [intOf]; omega
            · obtain rfl : k2 = k := by omega
              have d1 : decide ((k2 : Int) < (k2 : Int)) = false := by simp
              have hlk : l.take k2 = l := List.take_of_length_le (by rw [HL.out]; exact Nat.le_refl _)
              have hlk2 : (l.map (bm · (N : Int))).take k2 = l.map (bm · (N : Int)) := List.take_of_length_le (by rw [List.length_map, HL.out]; exact Nat.le_refl _)
              rw [hlk, hlk2] at HQ
              obtain ⟨E0, hE0⟩ : ∃ E0, kp ge (bE l (N : Int)) = E0 := ⟨_, rfl⟩
              rw [hE0] at HQ HALE
              have r0 : wr.cell? ⟨S0, 0, none⟩ = some (.int .i64 E0) := HQ.out.1.reads 0
              have HF5 := Lib.hid hfull
              by_cases hz : E0 = 0
              · have z1 : (E0 != 0) = false := by simp [hz]
                have z2 : (E0 == 0) = true := by simp [hz]
                have HZ := Lib.hid hz
                have hw5 := HQ.out.2.2.keeps HW3.out (by omega)
                have hp5 := pts_fr HP3.out HQ.out.2.2 HS3.out
                obtain ⟨A6, c6, e6, h6⟩ := BxsAt.of_own HQ.out.2.1
                injection e6 with e6 _ e7
                subst e6 e7
                have HG := Lib.hid (gcov_any (pF m X Z) X Z R4 o4 n4 c4 a5 k2 c5 (l.map (bm · (N : Int))) wr hX hZ hXZ HN4.out.symm hp5 (fun i => pF_ok m X Z i) h6 (by omega))
                obtain ⟨g0, g1, g2, g3, g4, g5, g6⟩ := tri_facts hw5
                clear hz hE0 hlk hlk2 hw5 hp5 h6 hfull
                go_wp2_with fail
                refine HG.out.mono ?_
                rintro e w7 ⟨B, rfl, hrow, hb⟩
                have HB7 := Lib.hid (HF5.out.trans (hb.mono HF5.out.size))
                have HROW := Lib.hid hrow
                clear hb hrow
                go_wp2_with fail
                go_ret2
                refine ⟨HB7.out, .inr ⟨by rw [HALE.out, HZ.out], X, Z, B, rfl, rfl, hX, hZ, hXZ, rfl, ?_⟩⟩
                rw [HN4.out, HN.out]
                have := HROW.out
                rwa [HN.out] at this
              · have z1 : (E0 != 0) = true := by simpa using hz
                have z2 : (E0 == 0) = false := by simpa using hz
                have HZ := Lib.hid hz
                clear hz hE0 hlk hlk2 hfull
                go_wp2_with fail
                go_quiet (fail)
                go_wp2_with fail
                go_ret2
                refine ⟨below_drewN HF5.out _, .inl ?_⟩
                rw [HALE.out]
                exact ⟨HZ.out, rfl⟩
    · have HX := Lib.hid (fun w' hb => CovIs.bad (W := W) (H := H) (l := l) (w := w) (w' := w') (fun k : sizeB W H = true ∧ m.Ok ∧ ∀ b ∈ l, b.Ok => hm k.2.1) hb)
      have HM := Lib.hid (fun w => mcheck_any m w 1 (.inr ⟨hm, rfl⟩))
      rw [hs] at HS
      clear hs h hm
      go_enter Try.func22, Try.ntmps22
      go_wp2_with fail
      refine (HS.out _).mono ?_
      rintro e w1 ⟨rfl, rfl⟩
      go_wp2_with fail
      refine (HM.out _).mono ?_
      rintro e w2 ⟨rfl, hb⟩
      have HB2 := Lib.hid (HB0.out.trans (hb.mono HB0.out.size))
      clear hb
      go_wp2_with fail
      go_ret2
      exact HX.out _ HB2.out
end Go.Proofs.Ytmleoagdelgddaa
