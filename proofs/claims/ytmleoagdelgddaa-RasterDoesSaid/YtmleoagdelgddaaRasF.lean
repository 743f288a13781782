/- raster: the scaler's grid. -/
import Derived.Test.YtmleoagdelgddaaRasG
import Derived.Deep.LoopGhost
namespace Go.Proofs.Ytmleoagdelgddaa
open Go.RowKit Dec

theorem nat_ok (n : Nat) (h : n ≤ 1000000) : (DV.mk (n : Int) 0).Ok := by
  exact ⟨by show _ ≤ (n : Int); omega, by show (n : Int) ≤ _; omega, Int.le_refl _, by show (0 : Int) ≤ 9; decide, .inl rfl⟩
set_option maxRecDepth 100000 in
set_option maxHeartbeats 16000000 in
theorem grid_any (S : Nat) (e : Int) (m : MV) (X Z : Nat) (w : World) (h : SC w S e) (hm : m.Ok) (hX : 1 ≤ X) (hZ : 1 ≤ Z) (hXZ : X * Z ≤ 65536) :
    Calls Try.prog 38 #[.pointer (some ⟨S, 0, none⟩), .agg #[.int .i64 m.a.m, .int .i64 m.a.s, .int .i64 m.b.m, .int .i64 m.b.s, .int .i64 m.c.m, .int .i64 m.c.s, .int .i64 m.d.m, .int .i64 m.d.s, .int .i64 m.e.m, .int .i64 m.e.s, .int .i64 m.f.m, .int .i64 m.f.s], .int .i64 (X : Int), .int .i64 (Z : Int)] w fun x w' => ∃ A c, x = .returned (.agg #[.int .i64 (X : Int), .int .i64 (Z : Int), .slice A ((Z + 1) * (X + 1)) c]) ∧ PtsAt w' A ((Z + 1) * (X + 1)) (pF m X Z) ∧ SC w' S (kp e (gridE m X Z)) ∧ FrS S w w' := by
  obtain ⟨N, hN⟩ : ∃ N, X * Z = N := ⟨_, rfl⟩
  have hmul : IntKind.i64.wrap ((X : Int) * (Z : Int)) = (N : Int) := by rw [← Int.natCast_mul, hN, IntKind.wrap_i64]; omega
  have hZ9 : Z ≤ 65536 := Nat.le_trans (Nat.le_mul_of_pos_left Z hX) hXZ
  have hX9 : X ≤ 65536 := Nat.le_trans (Nat.le_mul_of_pos_right X hZ) hXZ
  have T0 := Lib.hid (fun e w hs => times_any S e m.e (N : Int) w hs hm.2.2.2.2.1 (nat_ok N (by omega)))
  have T1 := Lib.hid (fun e w hs => times_any S e m.f (N : Int) w hs hm.2.2.2.2.2 (nat_ok N (by omega)))
  obtain ⟨⟨te, Ee⟩, he⟩ : ∃ z, tm m.e (N : Int) = z := ⟨_, rfl⟩
  obtain ⟨⟨tf, Ef⟩, hf⟩ : ∃ z, tm m.f (N : Int) = z := ⟨_, rfl⟩
  rw [he] at T0
  rw [hf] at T1
  have HEF := Lib.hid (And.intro he (And.intro hf (And.intro (by have := tm_ok m.e (N : Int); rw [he] at this; exact this : te.Ok) (by have := tm_ok m.f (N : Int); rw [hf] at this; exact this : tf.Ok))))
  have HNN := Lib.hid hN
  have l0 := h.lt
  have hS := ((h.old (.cells #[.int .i64 m.a.m, .int .i64 m.a.s, .int .i64 m.b.m, .int .i64 m.b.s, .int .i64 m.c.m, .int .i64 m.c.s, .int .i64 m.d.m, .int .i64 m.d.s, .int .i64 m.e.m, .int .i64 m.e.s, .int .i64 m.f.m, .int .i64 m.f.s] 42)).old (.cells #[.int .i64 0, .int .i64 0, .slice none 0 0] 69)).old (.cells #[.int .i64 (X : Int), .int .i64 (Z : Int), .slice none 0 0] 69)
  have hP := ((Whole.made w 42 #[.int .i64 m.a.m, .int .i64 m.a.s, .int .i64 m.b.m, .int .i64 m.b.s, .int .i64 m.c.m, .int .i64 m.c.s, .int .i64 m.d.m, .int .i64 m.d.s, .int .i64 m.e.m, .int .i64 m.e.s, .int .i64 m.f.m, .int .i64 m.f.s]).old (.cells #[.int .i64 0, .int .i64 0, .slice none 0 0] 69)).old (.cells #[.int .i64 (X : Int), .int .i64 (Z : Int), .slice none 0 0] 69)
  have hR := (Whole.made (w.alloc (.cells #[.int .i64 m.a.m, .int .i64 m.a.s, .int .i64 m.b.m, .int .i64 m.b.s, .int .i64 m.c.m, .int .i64 m.c.s, .int .i64 m.d.m, .int .i64 m.d.s, .int .i64 m.e.m, .int .i64 m.e.s, .int .i64 m.f.m, .int .i64 m.f.s] 42)) 69 #[.int .i64 0, .int .i64 0, .slice none 0 0]).old (.cells #[.int .i64 (X : Int), .int .i64 (Z : Int), .slice none 0 0] 69)
  have hG := Whole.made ((w.alloc (.cells #[.int .i64 m.a.m, .int .i64 m.a.s, .int .i64 m.b.m, .int .i64 m.b.s, .int .i64 m.c.m, .int .i64 m.c.s, .int .i64 m.d.m, .int .i64 m.d.s, .int .i64 m.e.m, .int .i64 m.e.s, .int .i64 m.f.m, .int .i64 m.f.s] 42)).alloc (.cells #[.int .i64 0, .int .i64 0, .slice none 0 0] 69)) 69 #[.int .i64 (X : Int), .int .i64 (Z : Int), .slice none 0 0]
  have hF : FrS S w (((w.alloc (.cells #[.int .i64 m.a.m, .int .i64 m.a.s, .int .i64 m.b.m, .int .i64 m.b.s, .int .i64 m.c.m, .int .i64 m.c.s, .int .i64 m.d.m, .int .i64 m.d.s, .int .i64 m.e.m, .int .i64 m.e.s, .int .i64 m.f.m, .int .i64 m.f.s] 42)).alloc (.cells #[.int .i64 0, .int .i64 0, .slice none 0 0] 69)).alloc (.cells #[.int .i64 (X : Int), .int .i64 (Z : Int), .slice none 0 0] 69)) := (((Fr.refl _ _).alloc _).alloc _).alloc _
  simp only [World.size_alloc] at hR hG
  clear h hN
  go_enter Try.func38, Try.ntmps38
  go_wp2_with fail
  generalize (((w.alloc (.cells #[.int .i64 m.a.m, .int .i64 m.a.s, .int .i64 m.b.m, .int .i64 m.b.s, .int .i64 m.c.m, .int .i64 m.c.s, .int .i64 m.d.m, .int .i64 m.d.s, .int .i64 m.e.m, .int .i64 m.e.s, .int .i64 m.f.m, .int .i64 m.f.s] 42)).alloc (.cells #[.int .i64 0, .int .i64 0, .slice none 0 0] 69)).alloc (.cells #[.int .i64 (X : Int), .int .i64 (Z : Int), .slice none 0 0] 69)) = W at *
  have lG := hG.lt
  have HH : GS W W S e w.heap.size m := ⟨hS, hP, Fr.refl _ _, by omega, by omega, by omega⟩
  have HR := Lib.hid hR
  have HG := Lib.hid hG
  have HF := Lib.hid hF
  have lP : w.heap.size < W.heap.size := by omega
  clear hS hP hR hG hF he hf
  go_cut [10, 11] from 20 to 34 (fun s10 s11 wx => Two W wx S (kp (kp e Ee) Ef) w.heap.size m s10 s11 te tf)
  case first =>
    have hG1 := HH.mat
    have hG2 := HH.mat
    have hG3 := HH.mat
    have hG4 := HH.mat
    go_region_held3 (fun v => v.cell? ⟨w.heap.size, 8, none⟩ = some (.int .i64 m.e.m) ∧ v.cell? ⟨w.heap.size, 9, none⟩ = some (.int .i64 m.e.s) ∧ v.cell? ⟨w.heap.size, 10, none⟩ = some (.int .i64 m.f.m) ∧ v.cell? ⟨w.heap.size, 11, none⟩ = some (.int .i64 m.f.s))
      (with_reducible refine mat_ef ?_; (repeat (first | with_reducible exact HH.mat | with_reducible refine Whole.drawn1 ?_ | with_reducible refine Whole.old ?_ _ | (with_reducible refine Whole.away2 ?_ ?_ _ _; rotate_left; focus (first | omega | (simp only [World.size_alloc, World.size_setCell]; omega) | (simp; omega))))))
      (first
        | (go_at_call 53; (with_reducible refine (T0.out _ _ (GS.drew (HH)).sc).mono ?_); rintro x v ⟨rfl, kk⟩; have kk := ScSt.undrew kk; have HH := GS.step (HH) kk; have qz := GS.size HH; have hG1 := HH.mat; have hG2 := HH.mat)
        | (go_at_call 53; (with_reducible refine (T0.out _ _ (GS.drew (GS.alloc HH _)).sc).mono ?_); rintro x v ⟨rfl, kk⟩; have kk := ScSt.undrew kk; have hG1 := GS.new (HH) kk; have HH := GS.step (GS.alloc HH _) kk; have qz := GS.size HH; have tz := hG1.lt; have hG2 := HH.mat)
        | (go_at_call 53; (with_reducible refine (T0.out _ _ (GS.drew (GS.alloc (GS.alloc HH _) _)).sc).mono ?_); rintro x v ⟨rfl, kk⟩; have kk := ScSt.undrew kk; have hG1 := GS.new1 (HH) kk; have hG2 := GS.new (GS.alloc HH _) kk; (try simp only [World.size_alloc] at hG2); have HH := GS.step (GS.alloc (GS.alloc HH _) _) kk; have qz := GS.size HH; have tz := hG1.lt; have ty := hG2.lt)
        | (go_at_call 53; (with_reducible refine (T1.out _ _ (HH).sc).mono ?_); rintro x v ⟨rfl, kk⟩; have hG1 := GS.carry2 (HH) kk hG1 (by decide); have hG2 := GS.carry2 (HH) kk hG2 (by decide); have HH := GS.step (HH) kk; have qz := GS.size HH; have hG3 := HH.mat; have hG4 := HH.mat; obtain ⟨a0, a1, a2, a3, a4⟩ := two_facts hG1 rfl rfl; obtain ⟨b0, b1, b2, b3, b4⟩ := two_facts hG2 rfl rfl; obtain ⟨c0, c1, c2, c3, c4⟩ := two_facts hG3 rfl rfl; obtain ⟨d0, d1, d2, d3, d4⟩ := two_facts hG4 rfl rfl)
        | (go_at_call 53; (with_reducible refine (T1.out _ _ (GS.alloc HH _).sc).mono ?_); rintro x v ⟨rfl, kk⟩; have hG1 := GS.carry2 (GS.alloc HH _) kk (hG1.old _) (by decide); have hG2 := GS.carry2 (GS.alloc HH _) kk (hG2.old _) (by decide); have hG3 := GS.new (HH) kk; have HH := GS.step (GS.alloc HH _) kk; have qz := GS.size HH; have hG4 := HH.mat; obtain ⟨a0, a1, a2, a3, a4⟩ := two_facts hG1 rfl rfl; obtain ⟨b0, b1, b2, b3, b4⟩ := two_facts hG2 rfl rfl; obtain ⟨c0, c1, c2, c3, c4⟩ := two_facts hG3 rfl rfl; obtain ⟨d0, d1, d2, d3, d4⟩ := two_facts hG4 rfl rfl)
        | (go_at_call 53; (with_reducible refine (T1.out _ _ (GS.alloc (GS.alloc HH _) _).sc).mono ?_); rintro x v ⟨rfl, kk⟩; have hG1 := GS.carry2 (GS.alloc (GS.alloc HH _) _) kk ((hG1.old _).old _) (by decide); have hG2 := GS.carry2 (GS.alloc (GS.alloc HH _) _) kk ((hG2.old _).old _) (by decide); have hG3 := GS.new1 (HH) kk; have hG4 := GS.new (GS.alloc HH _) kk; (try simp only [World.size_alloc] at hG4); have HH := GS.step (GS.alloc (GS.alloc HH _) _) kk; have qz := GS.size HH; obtain ⟨a0, a1, a2, a3, a4⟩ := two_facts hG1 rfl rfl; obtain ⟨b0, b1, b2, b3, b4⟩ := two_facts hG2 rfl rfl; obtain ⟨c0, c1, c2, c3, c4⟩ := two_facts hG3 rfl rfl; obtain ⟨d0, d1, d2, d3, d4⟩ := two_facts hG4 rfl rfl))
    all_goals
      go_wp2_with fail
      go_meet
      refine ⟨_, _, rfl, rfl, ?_, ?_, ?_, ?_, ?_, ?_⟩
      · (first | omega | (simp only [World.size_alloc, World.size_setCell]; omega) | (simp; omega))
      · (first | omega | (simp only [World.size_alloc, World.size_setCell]; omega) | (simp; omega))
      · (first | omega | (simp only [World.size_alloc, World.size_setCell]; omega) | (simp; omega))
      · (repeat (first | with_reducible refine two_setz ?_ | with_reducible exact Whole.made _ _ _ | (with_reducible refine Whole.made' _ _ _ ?_; (first | rfl | (simp; done) | (first | omega | (simp only [World.size_alloc, World.size_setCell]; omega) | (simp; omega)))) | with_reducible refine Whole.old ?_ _ | (with_reducible refine Whole.away2 ?_ ?_ _ _; rotate_left; focus (first | omega | (simp only [World.size_alloc, World.size_setCell]; omega) | (simp; omega))) | with_reducible exact hG1 | with_reducible exact hG2 | with_reducible exact hG3 | with_reducible exact hG4))
      · (repeat (first | with_reducible refine two_setz ?_ | with_reducible exact Whole.made _ _ _ | (with_reducible refine Whole.made' _ _ _ ?_; (first | rfl | (simp; done) | (first | omega | (simp only [World.size_alloc, World.size_setCell]; omega) | (simp; omega)))) | with_reducible refine Whole.old ?_ _ | (with_reducible refine Whole.away2 ?_ ?_ _ _; rotate_left; focus (first | omega | (simp only [World.size_alloc, World.size_setCell]; omega) | (simp; omega))) | with_reducible exact hG1 | with_reducible exact hG2 | with_reducible exact hG3 | with_reducible exact hG4))
      · (repeat (first | with_reducible exact HH | with_reducible refine GS.drew ?_ | with_reducible refine GS.alloc ?_ _ | (with_reducible refine GS.set2 ?_ ?_ _ _; rotate_left; focus (first | omega | (simp only [World.size_alloc, World.size_setCell]; omega) | (simp; omega)))))
  case rest =>
    obtain ⟨B10, B11, rfl, rfl, l10, l11, n1011, h10, h11, hgs⟩ := hcut
    have hGL : GL w W.heap.size wc S (kp (kp e Ee) Ef) w.heap.size m (w.heap.size + 1) (w.heap.size + 1 + 1) B10 B11 te tf X Z 0 (.slice none 0 0) :=
      ⟨hgs.sc, hgs.mat, HF.out.trans hgs.fr, by omega, by omega, by omega, by omega, hgs.size, hgs.fr.keeps HR.out (by omega), hgs.fr.keeps HG.out (by omega), h10, h11, World.ownsRow_nil _ _ _ _⟩
    have HGL := Lib.hid hGL
    clear HH HR HG h10 h11 hgs hGL n1011
    go_wp2_with fail
    go_loopw [36] (fun zs wr => ∃ (z : Nat) (v : Value), zs = .int .i64 (z : Int) ∧ z ≤ Z + 1 ∧ Hid (GL w W.heap.size wr S (kp (kp (kp e Ee) Ef) (gE m X Z z)) w.heap.size m (w.heap.size + 1) (w.heap.size + 1 + 1) B10 B11 te tf X Z (z * (X + 1)) v)) (fun zs _ => Z + 1 - (intOf zs).toNat)
    case atStart => exact ⟨0, _, rfl, by omega, by rw [Nat.zero_mul]; show Hid (GL _ _ _ _ (kp _ 0) _ _ _ _ _ _ _ _ _ _ _ _); rw [show kp (kp (kp e Ee) Ef) 0 = kp (kp e Ee) Ef from kp_0 _]; exact HGL⟩
    case round =>
      obtain ⟨z, v, rfl, hz, HV⟩ := hrel
      by_cases hlt : z < Z + 1
      · have d1 : decide ((z : Int) < (Z : Int) + 1) = true := decide_eq_true (by omega)
        obtain ⟨N2, hN2⟩ : ∃ N, z * X = N := ⟨_, rfl⟩
        have hN29 : N2 ≤ 65536 := by
          rw [← hN2]
          exact Nat.le_trans (Nat.mul_le_mul_right X (show z ≤ Z by omega)) (by rw [Nat.mul_comm]; exact hXZ)
        have hmul2 : IntKind.i64.wrap ((z : Int) * (X : Int)) = (N2 : Int) := by rw [← Int.natCast_mul, hN2, IntKind.wrap_i64]; omega
        have T2 := Lib.hid (fun e w hs => times_any S e m.c (N2 : Int) w hs hm.2.2.1 (nat_ok N2 (by omega)))
        have T3 := Lib.hid (fun e w hs => times_any S e m.d (N2 : Int) w hs hm.2.2.2.1 (nat_ok N2 (by omega)))
        have HC0 := Lib.hid (tm_ok m.c (N2 : Int))
        have HD0 := Lib.hid (tm_ok m.d (N2 : Int))
        obtain ⟨⟨tc, Ec⟩, hc⟩ : ∃ z, tm m.c (N2 : Int) = z := ⟨_, rfl⟩
        obtain ⟨⟨td, Ed⟩, hd⟩ : ∃ z, tm m.d (N2 : Int) = z := ⟨_, rfl⟩
        rw [hc] at T2 HC0
        rw [hd] at T3 HD0
        have HCD := Lib.hid (And.intro hN2 (And.intro hc hd))
        have HZ := Lib.hid hz
        clear hN2 hc hd
        have sW := HV.out.size
        have HH := HV.out.gs
        obtain ⟨e0, he0⟩ : ∃ x, kp (kp (kp e Ee) Ef) (gE m X Z z) = x := ⟨_, rfl⟩
        rw [he0] at HH HV
        have HE0 := Lib.hid he0
        clear he0 hz
        go_wp2_with fail
        go_cut [13, 14] from 39 to 53 (fun s13 s14 wx => Two wr wx S (kp (kp e0 Ec) Ed) w.heap.size m s13 s14 tc td)
        case first =>
          have hG1 := HH.mat
          have hG2 := HH.mat
          have hG3 := HH.mat
          have hG4 := HH.mat
          go_region_held3 (fun v => v.cell? ⟨w.heap.size, 4, none⟩ = some (.int .i64 m.c.m) ∧ v.cell? ⟨w.heap.size, 5, none⟩ = some (.int .i64 m.c.s) ∧ v.cell? ⟨w.heap.size, 6, none⟩ = some (.int .i64 m.d.m) ∧ v.cell? ⟨w.heap.size, 7, none⟩ = some (.int .i64 m.d.s))
            (with_reducible refine mat_cd ?_; (repeat (first | with_reducible exact HH.mat | with_reducible refine Whole.drawn1 ?_ | with_reducible refine Whole.old ?_ _ | (with_reducible refine Whole.away2 ?_ ?_ _ _; rotate_left; focus (first | omega | (simp only [World.size_alloc, World.size_setCell]; omega) | (simp; omega))))))
            (first
              | (go_at_call 53; (with_reducible refine (T2.out _ _ (GS.drew (HH)).sc).mono ?_); rintro x v ⟨rfl, kk⟩; have kk := ScSt.undrew kk; have HH := GS.step (HH) kk; have qz := GS.size HH; have hG1 := HH.mat; have hG2 := HH.mat)
              | (go_at_call 53; (with_reducible refine (T2.out _ _ (GS.drew (GS.alloc HH _)).sc).mono ?_); rintro x v ⟨rfl, kk⟩; have kk := ScSt.undrew kk; have hG1 := GS.new (HH) kk; have HH := GS.step (GS.alloc HH _) kk; have qz := GS.size HH; have tz := hG1.lt; have hG2 := HH.mat)
              | (go_at_call 53; (with_reducible refine (T2.out _ _ (GS.drew (GS.alloc (GS.alloc HH _) _)).sc).mono ?_); rintro x v ⟨rfl, kk⟩; have kk := ScSt.undrew kk; have hG1 := GS.new1 (HH) kk; have hG2 := GS.new (GS.alloc HH _) kk; (try simp only [World.size_alloc] at hG2); have HH := GS.step (GS.alloc (GS.alloc HH _) _) kk; have qz := GS.size HH; have tz := hG1.lt; have ty := hG2.lt)
              | (go_at_call 53; (with_reducible refine (T3.out _ _ (HH).sc).mono ?_); rintro x v ⟨rfl, kk⟩; have hG1 := GS.carry2 (HH) kk hG1 (by decide); have hG2 := GS.carry2 (HH) kk hG2 (by decide); have HH := GS.step (HH) kk; have qz := GS.size HH; have hG3 := HH.mat; have hG4 := HH.mat; obtain ⟨a0, a1, a2, a3, a4⟩ := two_facts hG1 rfl rfl; obtain ⟨b0, b1, b2, b3, b4⟩ := two_facts hG2 rfl rfl; obtain ⟨c0, c1, c2, c3, c4⟩ := two_facts hG3 rfl rfl; obtain ⟨d0, d1, d2, d3, d4⟩ := two_facts hG4 rfl rfl)
              | (go_at_call 53; (with_reducible refine (T3.out _ _ (GS.alloc HH _).sc).mono ?_); rintro x v ⟨rfl, kk⟩; have hG1 := GS.carry2 (GS.alloc HH _) kk (hG1.old _) (by decide); have hG2 := GS.carry2 (GS.alloc HH _) kk (hG2.old _) (by decide); have hG3 := GS.new (HH) kk; have HH := GS.step (GS.alloc HH _) kk; have qz := GS.size HH; have hG4 := HH.mat; obtain ⟨a0, a1, a2, a3, a4⟩ := two_facts hG1 rfl rfl; obtain ⟨b0, b1, b2, b3, b4⟩ := two_facts hG2 rfl rfl; obtain ⟨c0, c1, c2, c3, c4⟩ := two_facts hG3 rfl rfl; obtain ⟨d0, d1, d2, d3, d4⟩ := two_facts hG4 rfl rfl)
              | (go_at_call 53; (with_reducible refine (T3.out _ _ (GS.alloc (GS.alloc HH _) _).sc).mono ?_); rintro x v ⟨rfl, kk⟩; have hG1 := GS.carry2 (GS.alloc (GS.alloc HH _) _) kk ((hG1.old _).old _) (by decide); have hG2 := GS.carry2 (GS.alloc (GS.alloc HH _) _) kk ((hG2.old _).old _) (by decide); have hG3 := GS.new1 (HH) kk; have hG4 := GS.new (GS.alloc HH _) kk; (try simp only [World.size_alloc] at hG4); have HH := GS.step (GS.alloc (GS.alloc HH _) _) kk; have qz := GS.size HH; obtain ⟨a0, a1, a2, a3, a4⟩ := two_facts hG1 rfl rfl; obtain ⟨b0, b1, b2, b3, b4⟩ := two_facts hG2 rfl rfl; obtain ⟨c0, c1, c2, c3, c4⟩ := two_facts hG3 rfl rfl; obtain ⟨d0, d1, d2, d3, d4⟩ := two_facts hG4 rfl rfl))
          all_goals
            go_wp2_with fail
            go_meet
            refine ⟨_, _, rfl, rfl, ?_, ?_, ?_, ?_, ?_, ?_⟩
            · (first | omega | (simp only [World.size_alloc, World.size_setCell]; omega) | (simp; omega))
            · (first | omega | (simp only [World.size_alloc, World.size_setCell]; omega) | (simp; omega))
            · (first | omega | (simp only [World.size_alloc, World.size_setCell]; omega) | (simp; omega))
            · (repeat (first | with_reducible refine two_setz ?_ | with_reducible exact Whole.made _ _ _ | (with_reducible refine Whole.made' _ _ _ ?_; (first | rfl | (simp; done) | (first | omega | (simp only [World.size_alloc, World.size_setCell]; omega) | (simp; omega)))) | with_reducible refine Whole.old ?_ _ | (with_reducible refine Whole.away2 ?_ ?_ _ _; rotate_left; focus (first | omega | (simp only [World.size_alloc, World.size_setCell]; omega) | (simp; omega))) | with_reducible exact hG1 | with_reducible exact hG2 | with_reducible exact hG3 | with_reducible exact hG4))
            · (repeat (first | with_reducible refine two_setz ?_ | with_reducible exact Whole.made _ _ _ | (with_reducible refine Whole.made' _ _ _ ?_; (first | rfl | (simp; done) | (first | omega | (simp only [World.size_alloc, World.size_setCell]; omega) | (simp; omega)))) | with_reducible refine Whole.old ?_ _ | (with_reducible refine Whole.away2 ?_ ?_ _ _; rotate_left; focus (first | omega | (simp only [World.size_alloc, World.size_setCell]; omega) | (simp; omega))) | with_reducible exact hG1 | with_reducible exact hG2 | with_reducible exact hG3 | with_reducible exact hG4))
            · (repeat (first | with_reducible exact HH | with_reducible refine GS.drew ?_ | with_reducible refine GS.alloc ?_ _ | (with_reducible refine GS.set2 ?_ ?_ _ _; rotate_left; focus (first | omega | (simp only [World.size_alloc, World.size_setCell]; omega) | (simp; omega)))))

        case rest =>
          obtain ⟨B13, B14, rfl, rfl, l13, l14, n1314, h13, h14, hgs⟩ := hcut
          have HV2 := Lib.hid (HV.out.on hgs)
          have H13 := Lib.hid (And.intro h13 h14)
          clear HH h13 h14 hgs n1314 HV
          go_wp2_with fail
          go_loopw [55] (fun xs wr => ∃ (x : Nat) (v : Value), xs = .int .i64 (x : Int) ∧ x ≤ X + 1 ∧ Hid (GL w W.heap.size wr S (kp (kp (kp e0 Ec) Ed) (rE m X Z z x)) w.heap.size m (w.heap.size + 1) (w.heap.size + 1 + 1) B10 B11 te tf X Z (z * (X + 1) + x) v ∧ Whole wr B13 40 #[.int .i64 tc.m, .int .i64 tc.s] ∧ Whole wr B14 40 #[.int .i64 td.m, .int .i64 td.s])) (fun xs _ => X + 1 - (intOf xs).toNat)
          case atStart => exact ⟨0, v, rfl, by omega, by rw [Nat.add_zero]; show Hid (GL _ _ _ _ (kp _ 0) _ _ _ _ _ _ _ _ _ _ _ _ ∧ _); rw [show kp (kp (kp e0 Ec) Ed) 0 = kp (kp e0 Ec) Ed from kp_0 _]; exact Lib.hid ⟨HV2.out, H13.out⟩⟩
          case round =>
            obtain ⟨x, v, rfl, hx, HV⟩ := hrel
            by_cases hlx : x < X + 1
            · have d1 : decide ((x : Int) < (X : Int) + 1) = true := decide_eq_true (by omega)
              obtain ⟨N3, hN3⟩ : ∃ N, x * Z = N := ⟨_, rfl⟩
              have hN39 : N3 ≤ 65536 := by
                rw [← hN3]
                exact Nat.le_trans (Nat.mul_le_mul_right Z (show x ≤ X by omega)) hXZ
              have hmul3 : IntKind.i64.wrap ((x : Int) * (Z : Int)) = (N3 : Int) := by rw [← Int.natCast_mul, hN3, IntKind.wrap_i64]; omega
              have U0 := Lib.hid (fun e w hs => times_any S e m.a (N3 : Int) w hs hm.1 (nat_ok N3 (by omega)))
              have U2 := Lib.hid (fun e w hs => times_any S e m.b (N3 : Int) w hs hm.2.1 (nat_ok N3 (by omega)))
              have hA0 := tm_ok m.a (N3 : Int)
              have hB0 := tm_ok m.b (N3 : Int)
              obtain ⟨⟨ta, Ea⟩, ha⟩ : ∃ z, tm m.a (N3 : Int) = z := ⟨_, rfl⟩
              obtain ⟨⟨tb, Eb⟩, hb⟩ : ∃ z, tm m.b (N3 : Int) = z := ⟨_, rfl⟩
              rw [ha] at U0 hA0
              rw [hb] at U2 hB0
              have U1 := Lib.hid (fun e w hs => sum_any S e ta tc te w hs hA0 HC0.out HEF.out.2.2.1)
              have U3 := Lib.hid (fun e w hs => sum_any S e tb td tf w hs hB0 HD0.out HEF.out.2.2.2)
              obtain ⟨⟨px, Epx⟩, hpx⟩ : ∃ z, su ta tc te = z := ⟨_, rfl⟩
              obtain ⟨⟨py, Epy⟩, hpy⟩ : ∃ z, su tb td tf = z := ⟨_, rfl⟩
              rw [hpx] at U1
              rw [hpy] at U3
              have HPT := Lib.hid (show ptX m X Z z x = (px, Epx) ∧ ptY m X Z z x = (py, Epy) ∧ pE m X Z z x = kp (kp (kp Ea Epx) Eb) Epy by
                have e1 : ptX m X Z z x = (px, Epx) := by unfold ptX; rw [hN3, HCD.out.1, HNN.out, ha, HCD.out.2.1, HEF.out.1]; exact hpx
                have e2 : ptY m X Z z x = (py, Epy) := by unfold ptY; rw [hN3, HCD.out.1, HNN.out, hb, HCD.out.2.2, HEF.out.2.1]; exact hpy
                exact ⟨e1, e2, by unfold pE; rw [e1, e2, hN3, ha, hb]⟩)
              clear hN3 ha hb hpx hpy hA0 hB0
              obtain ⟨e1, he1⟩ : ∃ y, kp (kp (kp e0 Ec) Ed) (rE m X Z z x) = y := ⟨_, rfl⟩
              rw [he1] at HV
              have HE1 := Lib.hid he1
              clear he1
              have HH : GQ wr wr S e1 w.heap.size m B10 B11 B13 B14 te tf tc td := ⟨HV.out.1.gs, HV.out.1.b10, HV.out.1.b11, HV.out.2.1, HV.out.2.2⟩
              have k10 := HH.b10.lt
              have k11 := HH.b11.lt
              have k13 := HH.b13.lt
              have k14 := HH.b14.lt
              have kP := HH.gs.mat.lt
              have kS := HH.gs.sc.lt
              go_wp2_with fail
              go_cut [16] from 58 to 81 (fun s16 wx => ∃ B16 : Nat, s16 = .pointer (some ⟨B16, 0, none⟩) ∧ wr.heap.size ≤ B16 ∧ Whole wx B16 78 #[.int .i64 px.m, .int .i64 px.s, .int .i64 py.m, .int .i64 py.s] ∧ GQ wr wx S (kp (kp (kp (kp e1 Ea) Epx) Eb) Epy) w.heap.size m B10 B11 B13 B14 te tf tc td)
              case first =>
                have hG := HH.gs.mat
                go_region_held3 (fun v => v.cell? ⟨w.heap.size, 0, none⟩ = some (.int .i64 m.a.m) ∧ v.cell? ⟨w.heap.size, 1, none⟩ = some (.int .i64 m.a.s) ∧ v.cell? ⟨w.heap.size, 2, none⟩ = some (.int .i64 m.b.m) ∧ v.cell? ⟨w.heap.size, 3, none⟩ = some (.int .i64 m.b.s) ∧ v.cell? ⟨B10, 0, none⟩ = some (.int .i64 te.m) ∧ v.cell? ⟨B10, 1, none⟩ = some (.int .i64 te.s) ∧ v.cell? ⟨B11, 0, none⟩ = some (.int .i64 tf.m) ∧ v.cell? ⟨B11, 1, none⟩ = some (.int .i64 tf.s) ∧ v.cell? ⟨B13, 0, none⟩ = some (.int .i64 tc.m) ∧ v.cell? ⟨B13, 1, none⟩ = some (.int .i64 tc.s) ∧ v.cell? ⟨B14, 0, none⟩ = some (.int .i64 td.m) ∧ v.cell? ⟨B14, 1, none⟩ = some (.int .i64 td.s))
                  (with_reducible refine gq_cells ?_ ?_ ?_ ?_ ?_ <;> (repeat (first | with_reducible exact HH.gs.mat | with_reducible exact HH.b10 | with_reducible exact HH.b11 | with_reducible exact HH.b13 | with_reducible exact HH.b14 | with_reducible refine Whole.drawn1 ?_ | with_reducible refine Whole.old ?_ _ | (with_reducible refine Whole.off4 ?_ ?_ _ _ _ _; rotate_left; focus (first | omega | (simp only [World.size_alloc, World.size_setCell]; omega) | (simp; omega))))))
                  (first
                    | (go_at_call 53; (with_reducible refine (U0.out _ _ (GQ.drew (HH)).gs.sc).mono ?_); rintro x v ⟨rfl, kk⟩; have kk := ScSt.undrew kk; have hG := GQ.carryP HH kk hG (by decide); have HH := GQ.step (HH) kk; have qz := HH.gs.size; have tz := hG.lt)
                    | (go_at_call 53; (with_reducible refine (U0.out _ _ (GQ.drew (GQ.alloc HH _)).gs.sc).mono ?_); rintro x v ⟨rfl, kk⟩; have kk := ScSt.undrew kk; have hG := GQ.newP HH kk; have HH := GQ.step (GQ.alloc HH _) kk; have qz := HH.gs.size; have tz := hG.lt)
                    | (go_at_call 54; (with_reducible refine (U1.out _ _ (HH).gs.sc).mono ?_); rintro x v ⟨rfl, kk⟩; have hG := GQ.carryP HH kk hG (by decide); have HH := GQ.step (HH) kk; have qz := HH.gs.size; have tz := hG.lt)
                    | (go_at_call 54; (with_reducible refine (U1.out _ _ (GQ.alloc HH _).gs.sc).mono ?_); rintro x v ⟨rfl, kk⟩; have hG := GQ.newP HH kk; have HH := GQ.step (GQ.alloc HH _) kk; have qz := HH.gs.size; have tz := hG.lt)
                    | (go_at_call 53; (with_reducible refine (U2.out _ _ (HH).gs.sc).mono ?_); rintro x v ⟨rfl, kk⟩; have hG := GQ.carryP HH kk hG (by decide); have HH := GQ.step (HH) kk; have qz := HH.gs.size; have tz := hG.lt)
                    | (go_at_call 53; (with_reducible refine (U2.out _ _ (GQ.alloc HH _).gs.sc).mono ?_); rintro x v ⟨rfl, kk⟩; have hG := GQ.newP HH kk; have HH := GQ.step (GQ.alloc HH _) kk; have qz := HH.gs.size; have tz := hG.lt)
                    | (go_at_call 54; (with_reducible refine (U3.out _ _ (HH).gs.sc).mono ?_); rintro x v ⟨rfl, kk⟩; have hG := GQ.carryP HH kk hG (by decide); have HH := GQ.step (HH) kk; have qz := HH.gs.size; have tz := hG.lt; obtain ⟨a0, a1, a2, a3, a4, a5, a6, a7, a8⟩ := four_facts hG rfl rfl rfl rfl)
                    | (go_at_call 54; (with_reducible refine (U3.out _ _ (GQ.alloc HH _).gs.sc).mono ?_); rintro x v ⟨rfl, kk⟩; have hG := GQ.newP HH kk; have HH := GQ.step (GQ.alloc HH _) kk; have qz := HH.gs.size; have tz := hG.lt; obtain ⟨a0, a1, a2, a3, a4, a5, a6, a7, a8⟩ := four_facts hG rfl rfl rfl rfl))
                all_goals
                  go_wp2_with fail
                  go_meet
                  refine ⟨_, rfl, ?_, ?_, ?_⟩
                  · (first | omega | (simp only [World.size_alloc, World.size_setCell]; omega) | (simp; omega))
                  · first | exact four_setz hG | (refine Whole.made' _ _ _ ?_; first | rfl | (simp; done) | (first | omega | (simp only [World.size_alloc, World.size_setCell]; omega) | (simp; omega))) | exact (Whole.made' _ _ _ (by first | rfl | simp))
                  · (repeat (first | with_reducible exact HH | with_reducible refine GQ.drew ?_ | with_reducible refine GQ.alloc ?_ _ | (with_reducible refine GQ.set4 ?_ ?_ ?_ ?_ ?_ ?_ _ _ _ _; rotate_left; all_goals first | assumption | (first | omega | (simp only [World.size_alloc, World.size_setCell]; omega) | (simp; omega)))))

              case rest =>
                obtain ⟨B16, rfl, l16, h16, hq⟩ := hcut
                have hGL := HV.out.1.on hq.gs
                have hn : (pF m X Z (z * (X + 1) + x)) = ⟨px, py⟩ := by rw [pF_at m X Z z x (by omega), HPT.out.1, HPT.out.2.1]
                obtain ⟨a0, c0, rfl⟩ := own_sl hGL.own
                obtain ⟨g0, g1, g2, g3, g4, g5, g6⟩ := tri_facts hGL.g
                obtain ⟨b0, b1, b2, b3, b4, b5, b6, b7, b8⟩ := four_facts h16 rfl rfl rfl rfl
                have HGL := Lib.hid hGL
                have HQ := Lib.hid (And.intro hq.b13 hq.b14)
                have HNP := Lib.hid hn
                have sz2 := hGL.size
                have n13 : B13 ≠ w.heap.size + 1 + 1 := by omega
                have n14 : B14 ≠ w.heap.size + 1 + 1 := by omega
                obtain ⟨nn, hnn⟩ : ∃ nn, z * (X + 1) + x = nn := ⟨_, rfl⟩
                have hnn9 : nn ≤ 200000 := by
                  have e1 : z * (X + 1) ≤ Z * (X + 1) := Nat.mul_le_mul_right _ (by omega)
                  have e2 : Z * (X + 1) = X * Z + Z := by rw [Nat.mul_add, Nat.mul_one, Nat.mul_comm]
                  omega
                rw [hnn] at HGL HNP
                have HNN2 := Lib.hid hnn
                rw [hnn] at g2
                clear HH h16 hq hGL hn HV hnn
                obtain ⟨i0, hi, hz0, hz1, hz2⟩ := info_pt
                go_wp2_with (at_builtin; refine wpList_append_own _ rfl _ _ 67 rfl W.heap.size 78 i0 (.agg #[.int .i64 0, .int .i64 0, .int .i64 0, .int .i64 0]) 4 32 Try.underlying67 hi hz0 hz1 hz2 rfl (by decide) _ _ _ rfl (HGL.out.own.alloc _) ⟨wc.heap.size, 0, none⟩ 1 1 [.int .i64 px.m, .int .i64 px.s, .int .i64 py.m, .int .i64 py.s] rfl rfl (World.news_of_block (cs := #[.int .i64 px.m, .int .i64 px.s, .int .i64 py.m, .int .i64 py.s]) (t := 78) (fr := (0, 0)) (heap_alloc_new _ _)) ?p1 ?p2 ?p3 ?p4 ?_)
                case p1 => simp [Value.oneCell']
                case p2 => unfold maxLen; omega
                case p3 => omega
                case p4 => first | omega | (simp; omega)
                intro v' w5 hown' hgrow _
                have hown2 : w5.ownsRow W.heap.size 78 4 v' (nn + 1) (rowP (pF m X Z) nn ++ [.int .i64 (pF m X Z nn).x.m, .int .i64 (pF m X Z nn).x.s, .int .i64 (pF m X Z nn).y.m, .int .i64 (pF m X Z nn).y.s]) := by rw [HNP.out]; exact hown'
                obtain ⟨a1, c1, rfl⟩ := own_sl hown'
                have n10 : B10 ≠ w.heap.size + 1 + 1 := by omega
                have n11 : B11 ≠ w.heap.size + 1 + 1 := by omega
                have hG5 := HGL.out.push hown2 hgrow (by omega) (by omega) n10 n11
                have h13 := HGL.out.pushW (v' := .slice a1 (nn + 1) c1) hgrow HQ.out.1 (by decide) n13
                have h14 := HGL.out.pushW (v' := .slice a1 (nn + 1) c1) hgrow HQ.out.2 (by decide) n14
                have hgk : Whole w5 (w.heap.size + 1 + 1) 69 #[.int .i64 (X : Int), .int .i64 (Z : Int), .slice a0 nn c0] := (HGL.out.g.old _).kept hgrow (fun e => by
                  obtain ⟨_, _, cs', hw'⟩ := own_lt HGL.out.own e.symm
                  exact HGL.out.g.apart (T' := 78) (cs' := cs') hw' (by decide) rfl)
                obtain ⟨k0, k1, k2, k3, k4, k5, k6⟩ := tri_facts hgk
                have HG5 := Lib.hid (And.intro hG5 (And.intro h13 h14))
                have HP3 := Lib.hid HPT.out.2.2
                clear hown' hown2 hgrow hG5 h13 h14 hgk g0 g1 g2 g3 g4 g5 g6 b0 b1 b2 b3 b4 b5 b6 b7 b8
                go_wp2_with fail
                go_roundw
                case rel => exact ⟨x + 1, .slice a1 (nn + 1) c1, by go_num, by omega, Lib.hid (by
                  have e2 : kp (kp (kp e0 Ec) Ed) (rE m X Z z (x + 1)) = kp (kp (kp (kp e1 Ea) Epx) Eb) Epy := by
                    show kp (kp (kp e0 Ec) Ed) (kp (rE m X Z z x) (pE m X Z z x)) = _
                    rw [← kp_kp, HE1.out, HP3.out, ← kp_kp, ← kp_kp, ← kp_kp]
                  rw [e2, ← Nat.add_assoc, HNN2.out]
                  exact HG5.out)⟩
                case measure => simp [intOf]; omega
            · obtain rfl : x = X + 1 := by omega
              have d1 : decide (((X + 1 : Nat) : Int) < (X : Int) + 1) = false := decide_eq_false (by omega)
              go_wp2_with fail
              go_roundw
              case rel => exact ⟨z + 1, v, by go_num, by omega, Lib.hid (by
                have e2 : kp (kp (kp e Ee) Ef) (gE m X Z (z + 1)) = kp (kp (kp e0 Ec) Ed) (rE m X Z z (X + 1)) := by
                  show kp (kp (kp e Ee) Ef) (kp (gE m X Z z) (kp (kp (tm m.c ((z * X : Nat) : Int)).2 (tm m.d ((z * X : Nat) : Int)).2) (rE m X Z z (X + 1)))) = _
                  rw [HCD.out.1, HCD.out.2.1, HCD.out.2.2, ← kp_kp, HE0.out, ← kp_kp, ← kp_kp]
                rw [e2, show (z + 1) * (X + 1) = z * (X + 1) + (X + 1) by rw [Nat.add_mul, Nat.one_mul]]
                exact HV.out.1)⟩
              case measure => simp [intOf]; omega
      · obtain rfl : z = Z + 1 := by omega
        have d1 : decide (((Z + 1 : Nat) : Int) < (Z : Int) + 1) = false := decide_eq_false (by omega)
        obtain ⟨g0, g1, g2, g3, g4, g5, g6⟩ := tri_facts HV.out.g
        obtain ⟨q0, q1, q2, q3, q4, q5, q6⟩ := tri_facts HV.out.res
        obtain ⟨a0, c0, rfl⟩ := own_sl HV.out.own
        have HV3 := Lib.hid HV.out
        go_wp2_with fail
        refine ret_grid (X := (X : Int)) (Z := (Z : Int)) (v := .slice a0 ((Z + 1) * (X + 1)) c0) (g := w.heap.size + 1) (tri_set HV3.out.res) (fun V hV => by have rv := hV.reads; simp [results, Try.results38, go_sem, rv]) rfl ?_
        have s1 : ∀ i, S ≠ (⟨w.heap.size + 1, i, none⟩ : Addr).block := fun i => by show S ≠ w.heap.size + 1; omega
        have hown := own_frame HV3.out.own ((((Fr.refl (fun j => j = w.heap.size + 1) wr).setB 0 (.int .i64 (X : Int))).setB 1 (.int .i64 (Z : Int))).setB 2 (.slice a0 ((Z + 1) * (X + 1)) c0)) (fun g e => by have := (own_lt HV3.out.own e).1; show ¬ g = w.heap.size + 1; omega)
        obtain ⟨A2, c2, e2, hpts⟩ := own_pts hown
        refine ⟨A2, c2, by rw [e2], hpts, ?_, ?_⟩
        · rw [show kp e (gridE m X Z) = kp (kp (kp e Ee) Ef) (gE m X Z (Z + 1)) by unfold gridE; rw [HNN.out, HEF.out.1, HEF.out.2.1, ← kp_kp, ← kp_kp]]
          exact ((HV3.out.sc.away (s1 0) _).away (s1 1) _).away (s1 2) _
        · exact ((HV3.out.fr.set (p := ⟨w.heap.size + 1, 0, none⟩) (fun h => by simp at h; omega) _).set (p := ⟨w.heap.size + 1, 1, none⟩) (fun h => by simp at h; omega) _).set (p := ⟨w.heap.size + 1, 2, none⟩) (fun h => by simp at h; omega) _
end Go.Proofs.Ytmleoagdelgddaa
