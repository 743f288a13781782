/- deflate: put. -/
import Derived.Test.YtnjdnldoopgcpaaDefF
import Derived.Test.YtnjdnldoopgcpaaDefD
namespace Go.Proofs.Ytnjdnldoopgcpaa
open Go.RowKit

theorem three_facts {v : World} {g : Nat} {T : TypeId} {a b c : Value} (h : Whole v g T #[a, b, c]) : v.cell? ⟨g, 0, none⟩ = some a ∧ v.cell? ⟨g, 1, none⟩ = some b ∧ v.cell? ⟨g, 2, none⟩ = some c ∧ v.frozen? ⟨g, 0, none⟩ = false ∧ v.frozen? ⟨g, 1, none⟩ = false ∧ v.frozen? ⟨g, 2, none⟩ = false ∧ g < v.heap.size := ⟨h.reads 0, h.reads 1, h.reads 2, h.thawed 0, h.thawed 1, h.thawed 2, h.lt⟩
theorem three_set {w : World} {g : Nat} {T : TypeId} {a b c p q r : Value} (h : Whole w g T #[a, b, c]) : Whole (((w.setCell ⟨g, 0, none⟩ p).setCell ⟨g, 1, none⟩ q).setCell ⟨g, 2, none⟩ r) g T #[p, q, r] := by
  have := ((h.set 0 p).set 1 q).set 2 r
  simpa using this
theorem Below.allocS {w W : World} (h : Below w.heap.size w W) (o : Obj) : Below w.heap.size w (W.alloc o) := h.alloc h.size o
theorem three_setz {w : World} {g : Nat} {T : TypeId} {p q r : Value} (h : Whole w g T #[.int .i64 0, .int .i64 0, .int .i64 0]) : Whole (((w.setCell ⟨g, 0, none⟩ p).setCell ⟨g, 1, none⟩ q).setCell ⟨g, 2, none⟩ r) g T #[p, q, r] := three_set h
theorem Whole.away3 {w : World} {g g' : Nat} {T : TypeId} {cs : Array Value} (h : Whole w g T cs) (ne : g ≠ g') (a b c : Value) : Whole (((w.setCell ⟨g', 0, none⟩ a).setCell ⟨g', 1, none⟩ b).setCell ⟨g', 2, none⟩ c) g T cs :=
  ((h.away (p := ⟨g', 0, none⟩) ne a).away (p := ⟨g', 1, none⟩) ne b).away (p := ⟨g', 2, none⟩) ne c
theorem WrS.drew {x : Wx} {w : World} {v : Value} {M T : Nat} (h : WrS x w v M T) : WrS x w.drew v M T := h.later ((Below.refl _ _).drew)
/-- What the walk reads of a writer. -/
theorem WrS.cells {x : Wx} {w : World} {v : Value} {M T : Nat} (h : WrS x w v M T) : x.W < w.heap.size ∧ w.cell? ⟨x.W, 0, none⟩ = some (.pointer (some ⟨x.B, 0, none⟩)) ∧ w.cell? ⟨x.W, 1, none⟩ = some (.pointer (some ⟨x.P1, 0, none⟩)) ∧ w.cell? ⟨x.W, 2, none⟩ = some (.pointer (some ⟨x.P2, 0, none⟩)) ∧
    w.cell? ⟨x.W, 3, none⟩ = some (.func (.func 56) #[] #[.pointer (some ⟨x.V1, 0, none⟩)]) ∧ w.cell? ⟨x.W, 4, none⟩ = some (.func (.func 56) #[] #[.pointer (some ⟨x.V2, 0, none⟩)]) := ⟨h.whole.lt, h.whole.reads 0, h.whole.reads 1, h.whole.reads 2, h.whole.reads 3, h.whole.reads 4⟩
/-- Bits put by a writer. -/
theorem WrS.put {x : Wx} {w : World} {v : Value} {M T : Nat} (h : WrS x w v M T) {V k : Nat} (hk : k ≤ 24) (hV : V < 2 ^ k) (hT : T ≤ 1000000000) :
    Calls Try.prog 46 #[.pointer (some ⟨x.B, 0, none⟩), .int .i64 (V : Int), .int .i64 (k : Int)] w fun e w' => e = .returned (.int .i64 0) ∧ StW x (M + 2 ^ T * V) (T + k) w w' := by
  refine (put_any x.B x.base M T k V v w h.wd hk hV hT).mono ?_
  rintro e w' ⟨rfl, hw⟩
  exact ⟨rfl, h.wrote hw⟩
theorem WrS.sym {x : Wx} {w : World} {v : Value} {M T : Nat} (h : WrS x w v M T) {s : Nat} (hs : s < 288) (hT : T ≤ 1000000000) :
    Calls Try.prog 47 #[.pointer (some ⟨x.P1, 0, none⟩), .pointer (some ⟨x.B, 0, none⟩), .int .i64 (s : Int)] w fun e w' => e = .returned (.int .i64 0) ∧ StW x (M + 2 ^ T * wordOf fixedL s) (T + lenOf fixedL s) w w' := by
  refine (tab_put h.t1 h.wd fixed_ok.1 (fixed_len s hs).1 (fixed_len s hs).2.1 hT).mono ?_
  rintro e w' ⟨rfl, hw⟩
  exact ⟨rfl, h.wrote hw⟩
theorem WrS.dst {x : Wx} {w : World} {v : Value} {M T : Nat} (h : WrS x w v M T) {s : Nat} (hs : s < 32) (hT : T ≤ 1000000000) :
    Calls Try.prog 47 #[.pointer (some ⟨x.P2, 0, none⟩), .pointer (some ⟨x.B, 0, none⟩), .int .i64 (s : Int)] w fun e w' => e = .returned (.int .i64 0) ∧ StW x (M + 2 ^ T * wordOf d5 s) (T + lenOf d5 s) w w' := by
  refine (tab_put h.t2 h.wd d5_ok.1 (d5_len s hs).1 (d5_len s hs).2.1 hT).mono ?_
  rintro e w' ⟨rfl, hw⟩
  exact ⟨rfl, h.wrote hw⟩
/-- What put answers. -/
def PwIs (x : Wx) (M T : Nat) (w : World) (e : Ending) (w' : World) : Prop := e = .returned (.tuple #[]) ∧ StW x M T w w'
set_option maxRecDepth 100000 in
set_option maxHeartbeats 4000000 in
theorem put_byte (x : Wx) (b : Nat) (v : Value) (M T : Nat) (w : World) (h : WrS x w v M T) (hb : b < 256) (hT : T ≤ 900000000) :
    Calls Try.prog 24 #[.pointer (some ⟨x.W, 0, none⟩), .agg #[.int .i64 (b : Int), .int .i64 0, .int .i64 0]] w (PwIs x (M + 2 ^ T * wordOf fixedL b) (T + lenOf fixedL b) w) := by
  obtain ⟨wA, hwA⟩ : ∃ wA, w.alloc (.cells #[.int .i64 (b : Int), .int .i64 0, .int .i64 0] 35) = wA := ⟨_, rfl⟩
  have hbA : Below w.heap.size w wA := by rw [← hwA]; exact (Below.refl _ _).alloc (Nat.le_refl _) _
  have hA := h.later hbA
  obtain ⟨lW, c0, c1, -, -, -⟩ := hA.cells
  have hk : Whole wA w.heap.size 35 #[.int .i64 (b : Int), .int .i64 0, .int .i64 0] := by rw [← hwA]; exact Whole.made _ _ _
  have k0 : wA.cell? ⟨w.heap.size, 0, none⟩ = some (.int .i64 (b : Int)) := hk.reads 0
  have k1 : wA.cell? ⟨w.heap.size, 1, none⟩ = some (.int .i64 0) := hk.reads 1
  have lk := hk.lt
  have HC := Lib.hid (hA.drew.sym (s := b) (by omega) (by omega))
  have HZ := Lib.hid (And.intro h.low.2 hbA)
  clear h hbA hA hk
  go_enter Try.func24, Try.ntmps24
  go_wp2_with fail
  go_still_tail 10, (by kernel_rfl)
  change wpList _ _ _ _ _ wA.drew
  generalize hwq : wA.drew = wq at HC ⊢
  go_wp2_with fail
  refine HC.out.mono ?_
  rintro e w2 ⟨rfl, hs⟩
  have HS := Lib.hid (show StW x (M + 2 ^ T * wordOf fixedL b) (T + lenOf fixedL b) w w2 from StW.first (HZ.out.2.trans ((Below.refl _ wA).drew.mono HZ.out.2.size)) HZ.out.1 (hwq ▸ hs))
  clear hs
  go_wp2_with fail
  refine bodyPost_ret (results_none rfl _ _ _) rfl ?_
  exact ⟨rfl, HS.out⟩
theorem tab_bits : (∀ i, i < 29 → (lensT.getD i (0, 0)).2 ≤ 13) ∧ (∀ i, i < 30 → (distT.getD i (0, 0)).2 ≤ 13) := by decide +kernel
theorem cat_snocN (M T : Nat) (f : List (Nat × Nat)) (v k : Nat) : M + 2 ^ T * catN f + 2 ^ (T + catT f) * v = M + 2 ^ T * catN (f ++ [(v, k)]) := by
  rw [catN_app, Nat.mul_add, Nat.pow_add, Nat.mul_assoc, Nat.add_assoc]
  simp [catN]
theorem cat_snocT (T : Nat) (f : List (Nat × Nat)) (v k : Nat) : T + catT f + k = T + catT (f ++ [(v, k)]) := by rw [catT_app]; simp [catT]; omega
/-- One step more. -/
theorem StW.snoc {x : Wx} {M T : Nat} {f : List (Nat × Nat)} {v k : Nat} {w w' : World} (h : StW x (M + 2 ^ T * catN f + 2 ^ (T + catT f) * v) (T + catT f + k) w w') : StW x (M + 2 ^ T * catN (f ++ [(v, k)])) (T + catT (f ++ [(v, k)])) w w' := by
  rwa [cat_snocN, cat_snocT] at h
set_option maxRecDepth 100000 in
set_option maxHeartbeats 8000000 in
theorem put_match (x : Wx) (n d : Nat) (v : Value) (M T : Nat) (w : World) (h : WrS x w v M T) (hn1 : 3 ≤ n) (hn2 : n ≤ 258) (hd1 : 1 ≤ d) (hd2 : d ≤ 32768) (hT : T ≤ 900000000) :
    Calls Try.prog 24 #[.pointer (some ⟨x.W, 0, none⟩), .agg #[.int .i64 0, .int .i64 (n : Int), .int .i64 (d : Int)]] w (PwIs x (M + 2 ^ T * catN (tkF ⟨0, n, d⟩)) (T + catT (tkF ⟨0, n, d⟩)) w) := by
  have hq1 := lens_plc hn1 hn2
  have hq2 := dist_plc hd1 hd2
  have e1 : symT ⟨0, (n : Int), (d : Int)⟩ = 257 + plcT lensT n := by unfold symT; rw [if_neg (by show ¬ (n : Int) = 0; omega)]; simp only [Int.toNat_natCast]
  have hF : tkF ⟨0, (n : Int), (d : Int)⟩ = ((([] ++ wordF fixedL (257 + plcT lensT n)) ++ numF lensT n) ++ wordF d5 (plcT distT d)) ++ numF distT d := by
    unfold tkF backF
    rw [e1, if_neg (by show ¬ (n : Int) = 0; omega)]
    simp only [Int.toNat_natCast, List.nil_append, List.append_assoc]
  rw [hF]
  have hl1 := hq1.1
  have hl2 := hq2.1
  rw [lensT_len] at hl1
  rw [distT_len] at hl2
  have hk1 := tab_bits.1 _ hl1
  have hk2 := tab_bits.2 _ hl2
  have hvv1 : n - (lensT.getD (plcT lensT n) (0, 0)).1 < 2 ^ (lensT.getD (plcT lensT n) (0, 0)).2 := by have := hq1.2; omega
  have hvv2 : d - (distT.getD (plcT distT d) (0, 0)).1 < 2 ^ (distT.getD (plcT distT d) (0, 0)).2 := by have := hq2.2; omega
  obtain ⟨wA, hwA⟩ : ∃ wA, w.alloc (.cells #[.int .i64 0, .int .i64 (n : Int), .int .i64 (d : Int)] 35) = wA := ⟨_, rfl⟩
  have hbA : Below w.heap.size w wA := by rw [← hwA]; exact (Below.refl _ _).alloc (Nat.le_refl _) _
  have hA := h.later hbA
  have hk : Whole wA w.heap.size 35 #[.int .i64 0, .int .i64 (n : Int), .int .i64 (d : Int)] := by rw [← hwA]; exact Whole.made _ _ _
  have HF1 := Lib.hid (fun u (hu : Below wA.heap.size wA u) => found_any x.V1 x.A1 29 x.c1 lensT n u (hA.b1.here hu) (hA.s1.later hu) lensT_rises hq1 (Nat.le_trans (by decide +kernel) hn1) (by omega) (by decide))
  have HF2 := Lib.hid (fun u (hu : Below wA.heap.size wA u) => found_any x.V2 x.A2 30 x.c2 distT d u (hA.b2.here hu) (hA.s2.later hu) distT_rises hq2 (Nat.le_trans (by decide +kernel) hd1) (by omega) (by decide))
  unfold FoIs at HF1 HF2
  unfold numF
  generalize plcT lensT n = p1 at *
  generalize plcT distT d = p2 at *
  generalize n - (lensT.getD p1 (0, 0)).1 = v1 at *
  generalize d - (distT.getD p2 (0, 0)).1 = v2 at *
  generalize (lensT.getD p1 (0, 0)).2 = k1 at *
  generalize (distT.getD p2 (0, 0)).2 = k2 at *
  have hln1 := (fixed_len (257 + p1) (by omega)).2.2
  have hln2 := (d5_len p2 (by omega)).2.2
  obtain ⟨s, hs⟩ : ∃ s, 257 + p1 = s := ⟨_, rfl⟩
  have ews : IntKind.i64.wrap (257 + (p1 : Int)) = (s : Int) := by rw [IntKind.wrap_i64]; omega
  have hs288 : s < 288 := by omega
  rw [hs] at hln1 ⊢
  clear hs
  have HCC : Hid (∀ u, Below wA.heap.size wA u → u.cell? ⟨x.W, 3, none⟩ = some (.func (.func 56) #[] #[.pointer (some ⟨x.V1, 0, none⟩)]) ∧ u.cell? ⟨x.W, 4, none⟩ = some (.func (.func 56) #[] #[.pointer (some ⟨x.V2, 0, none⟩)]) ∧ u.cell? ⟨w.heap.size, 1, none⟩ = some (.int .i64 (n : Int)) ∧ u.cell? ⟨w.heap.size, 2, none⟩ = some (.int .i64 (d : Int))) :=
    Lib.hid (fun u hu => ⟨(hA.whole.here hu).reads 3, (hA.whole.here hu).reads 4, (hk.here hu).reads 1, (hk.here hu).reads 2⟩)
  have c3 := hA.cells.2.2.2.2.1
  have c4 := hA.cells.2.2.2.2.2
  have t1 : wA.cell? ⟨w.heap.size, 1, none⟩ = some (.int .i64 (n : Int)) := hk.reads 1
  have t2 : wA.cell? ⟨w.heap.size, 2, none⟩ = some (.int .i64 (d : Int)) := hk.reads 2
  have lW := hA.whole.lt
  have lk := hk.lt
  have d0 : ((n : Int) == 0) = false := by simp; omega
  have HK := Lib.hid hk
  have HA := Lib.hid hA
  have HZ := Lib.hid (And.intro h.low.2 hbA)
  have HH : Below wA.heap.size wA wA := Below.refl _ _
  have hG1 := hk
  have hG2 := hk
  have hG3 := hk
  have hG4 := hk
  clear h hbA hA hk hF e1 hq1 hq2
  go_enter Try.func24, Try.ntmps24
  go_wp2_with fail
  go_cut [4, 5] from 20 to 33 (fun s4 s5 wx => ∃ X Y : Nat, s4 = .pointer (some ⟨X, 0, none⟩) ∧ s5 = .pointer (some ⟨Y, 0, none⟩) ∧ wA.heap.size ≤ X ∧ wA.heap.size ≤ Y ∧ Whole wx X 80 #[.int .i64 (p1 : Int), .int .i64 (v1 : Int), .int .i64 (k1 : Int)] ∧ Whole wx Y 80 #[.int .i64 (p2 : Int), .int .i64 (v2 : Int), .int .i64 (k2 : Int)] ∧ Below wA.heap.size wA wx)
  case first =>
    go_region_held3 (fun u => u.cell? ⟨x.W, 3, none⟩ = some (.func (.func 56) #[] #[.pointer (some ⟨x.V1, 0, none⟩)]) ∧ u.cell? ⟨x.W, 4, none⟩ = some (.func (.func 56) #[] #[.pointer (some ⟨x.V2, 0, none⟩)]) ∧ u.cell? ⟨w.heap.size, 1, none⟩ = some (.int .i64 (n : Int)) ∧ u.cell? ⟨w.heap.size, 2, none⟩ = some (.int .i64 (d : Int)))
      (with_reducible refine HCC.out _ ?_; (repeat (first | with_reducible exact HH | with_reducible refine Below.drew ?_ | with_reducible refine Below.allocS ?_ _ | (with_reducible refine Below.setCell ?_ ?_ _; rotate_left; focus (first | omega | (simp; omega) | (simp; done))))))
      (first
        | (go_at_call 56; (with_reducible refine (HF1.out _ (Below.drew HH)).mono ?_); rintro e1 v1 ⟨rfl, kk⟩; have HH := Below.trans (Below.drew HH) (kk.mono (Below.drew HH).size); have hG1 := HK.out.here HH; have hG2 := HK.out.here HH; have qz := HH.size; have tz := hG1.lt; have ty := hG2.lt)
        | (go_at_call 56; (with_reducible refine (HF1.out _ (Below.drew (Below.alloc HH HH.size _))).mono ?_); rintro e1 v1 ⟨rfl, kk⟩; have hG1 := ((Whole.made _ _ _).drawn1).here kk; have HH := Below.trans (Below.drew (Below.alloc HH HH.size _)) (kk.mono (Below.drew (Below.alloc HH HH.size _)).size); have hG2 := HK.out.here HH; have qz := HH.size; have tz := hG1.lt; have ty := hG2.lt)
        | (go_at_call 56; (with_reducible refine (HF1.out _ (Below.drew (Below.alloc (Below.alloc HH HH.size _) (Below.alloc HH HH.size _).size _))).mono ?_); rintro e1 v1 ⟨rfl, kk⟩; have hG1 := (((Whole.made _ _ _).old _).drawn1).here kk; have hG2 := ((Whole.made _ _ _).drawn1).here kk; (try simp only [World.size_alloc] at hG2); have HH := Below.trans (Below.drew (Below.alloc (Below.alloc HH HH.size _) (Below.alloc HH HH.size _).size _)) (kk.mono (Below.drew (Below.alloc (Below.alloc HH HH.size _) (Below.alloc HH HH.size _).size _)).size); have qz := HH.size; have tz := hG1.lt; have ty := hG2.lt)
        | (go_at_call 56; (with_reducible refine (HF2.out _ HH).mono ?_); rintro e2 v2 ⟨rfl, kk⟩; have hG1 := Whole.here hG1 kk; have hG2 := Whole.here hG2 kk; have HH := Below.trans HH (kk.mono (Below.size HH)); have hG3 := HK.out.here HH; have hG4 := HK.out.here HH; have qz := HH.size; obtain ⟨a0, a1, a2, a3, a4, a5, a6⟩ := three_facts hG1; obtain ⟨b0, b1, b2, b3, b4, b5, b6⟩ := three_facts hG2; obtain ⟨c0, c1, c2, c3, c4, c5, c6⟩ := three_facts hG3; obtain ⟨d0, d1, d2, d3, d4, d5, d6⟩ := three_facts hG4)
        | (go_at_call 56; (with_reducible refine (HF2.out _ (Below.alloc HH HH.size _)).mono ?_); rintro e2 v2 ⟨rfl, kk⟩; have hG1 := Whole.here (hG1.old _) kk; have hG2 := Whole.here (hG2.old _) kk; have hG3 := (Whole.made _ _ _).here kk; have HH := Below.trans (Below.alloc HH HH.size _) (kk.mono (Below.size (Below.alloc HH HH.size _))); have hG4 := HK.out.here HH; have qz := HH.size; obtain ⟨a0, a1, a2, a3, a4, a5, a6⟩ := three_facts hG1; obtain ⟨b0, b1, b2, b3, b4, b5, b6⟩ := three_facts hG2; obtain ⟨c0, c1, c2, c3, c4, c5, c6⟩ := three_facts hG3; obtain ⟨d0, d1, d2, d3, d4, d5, d6⟩ := three_facts hG4)
        | (go_at_call 56; (with_reducible refine (HF2.out _ (Below.alloc (Below.alloc HH HH.size _) (Below.alloc HH HH.size _).size _)).mono ?_); rintro e2 v2 ⟨rfl, kk⟩; have hG1 := Whole.here ((hG1.old _).old _) kk; have hG2 := Whole.here ((hG2.old _).old _) kk; have hG3 := ((Whole.made _ _ _).old _).here kk; have hG4 := (Whole.made _ _ _).here kk; (try simp only [World.size_alloc] at hG4); have HH := Below.trans (Below.alloc (Below.alloc HH HH.size _) (Below.alloc HH HH.size _).size _) (kk.mono (Below.size (Below.alloc (Below.alloc HH HH.size _) (Below.alloc HH HH.size _).size _))); have qz := HH.size; obtain ⟨a0, a1, a2, a3, a4, a5, a6⟩ := three_facts hG1; obtain ⟨b0, b1, b2, b3, b4, b5, b6⟩ := three_facts hG2; obtain ⟨c0, c1, c2, c3, c4, c5, c6⟩ := three_facts hG3; obtain ⟨d0, d1, d2, d3, d4, d5, d6⟩ := three_facts hG4))
    all_goals
      go_wp2_with fail
      go_meet
      refine ⟨_, _, rfl, rfl, ?_, ?_, ?_, ?_, ?_⟩
      · (first | omega | (simp; omega) | (simp; done))
      · (first | omega | (simp; omega) | (simp; done))
      · (repeat (first | with_reducible refine three_setz ?_ | with_reducible exact hG1 | with_reducible exact hG2 | with_reducible exact hG3 | with_reducible exact hG4 | with_reducible exact Whole.made _ _ _ | (with_reducible refine made_at ?_; (first | rfl | (simp; done) | (first | omega | (simp; omega) | (simp; done)))) | with_reducible refine Whole.old ?_ _ | (with_reducible refine Whole.away3 ?_ ?_ _ _ _; rotate_left; focus (first | omega | (simp; omega) | (simp; done)))))
      · (repeat (first | with_reducible refine three_setz ?_ | with_reducible exact hG1 | with_reducible exact hG2 | with_reducible exact hG3 | with_reducible exact hG4 | with_reducible exact Whole.made _ _ _ | (with_reducible refine made_at ?_; (first | rfl | (simp; done) | (first | omega | (simp; omega) | (simp; done)))) | with_reducible refine Whole.old ?_ _ | (with_reducible refine Whole.away3 ?_ ?_ _ _ _; rotate_left; focus (first | omega | (simp; omega) | (simp; done)))))
      · (repeat (first | with_reducible exact HH | with_reducible refine Below.drew ?_ | with_reducible refine Below.allocS ?_ _ | (with_reducible refine Below.setCell ?_ ?_ _; rotate_left; focus (first | omega | (simp; omega) | (simp; done)))))
  case rest =>
    obtain ⟨X, Y, rfl, rfl, hX, hY, hWX, hWY, hBx⟩ := hcut
    have HX := Lib.hid (And.intro hX (And.intro hY (And.intro hWX (And.intro hWY hBx))))
    clear HF1 HF2 HH hG1 hG2 hG3 hG4 HCC hX hY hWX hWY hBx c3 c4 t1 t2
    have h0 := HA.out.later HX.out.2.2.2.2
    have HST0 := Lib.hid (show StW x (M + 2 ^ T * catN []) (T + catT []) w wc from ⟨⟨v, by simpa [catN, catT] using h0⟩, (HZ.out.2.mono HZ.out.1).trans (HX.out.2.2.2.2.mono (Nat.le_trans HZ.out.1 HZ.out.2.size)), (OffW.of_below HZ.out.2).trans (OffW.of_below HX.out.2.2.2.2)⟩)
    have HXY0 := Lib.hid (And.intro HX.out.2.2.1 HX.out.2.2.2.1)
    have HLO := Lib.hid HZ.out.1
    clear h0 HX
    obtain ⟨u0, hv0⟩ := HST0.out.1
    obtain ⟨lW0, y00, y10, y20, -, -⟩ := hv0.cells
    obtain ⟨x00, x10, x20, -, -, -, lX0⟩ := three_facts HXY0.out.1
    obtain ⟨z00, z10, z20, -, -, -, lY0⟩ := three_facts HXY0.out.2
    have hT0 : T + catT [] ≤ 1000000000 := by simp [catT]; omega
    have HC0 := Lib.hid (hv0.drew.sym (s := s) hs288 hT0)
    have HL0 := Lib.hid hv0.low.2
    clear hv0 hT0
    go_wp2_with fail
    go_still_tail 11, (by kernel_rfl)
    change wpList _ _ _ _ _ wc.drew
    generalize hwq : wc.drew = wq0 at HC0 ⊢
    clear lW0 y00 y10 y20 x00 x10 x20 lX0 z00 z10 z20 lY0
    go_wp2_with fail
    refine HC0.out.mono ?_
    rintro e w1y ⟨rfl, hs⟩
    have HSF0 := Lib.hid (StW.first (w := wc) ((Below.refl _ _).drew) HL0.out (hwq ▸ hs))
    have HST1 := Lib.hid (show StW x (M + 2 ^ T * catN ([] ++ wordF fixedL s)) (T + catT ([] ++ wordF fixedL s)) w w1y from (HST0.out.trans HSF0.out).snoc)
    have HXY1 := Lib.hid (And.intro (HSF0.out.2.2 _ _ _ HXY0.out.1 (by decide) (by decide)) (HSF0.out.2.2 _ _ _ HXY0.out.2 (by decide) (by decide)))
    clear hs hwq HC0 HSF0 HST0 HXY0 HL0
    obtain ⟨u1, hv1⟩ := HST1.out.1
    obtain ⟨lW1, y01, y11, y21, -, -⟩ := hv1.cells
    obtain ⟨x01, x11, x21, -, -, -, lX1⟩ := three_facts HXY1.out.1
    obtain ⟨z01, z11, z21, -, -, -, lY1⟩ := three_facts HXY1.out.2
    have hT1 : T + catT ([] ++ wordF fixedL s) ≤ 1000000000 := by simp [catT, wordF]; omega
    have HC1 := Lib.hid (hv1.drew.put (V := v1) (k := k1) (by omega) hvv1 hT1)
    have HL1 := Lib.hid hv1.low.2
    clear hv1 hT1
    go_wp2_with fail
    go_still_tail 8, (by kernel_rfl)
    change wpList _ _ _ _ _ w1y.drew
    generalize hwq : w1y.drew = wq1 at HC1 ⊢
    clear lW1 y01 y11 y21 x01 x11 x21 lX1 z01 z11 z21 lY1
    go_wp2_with fail
    refine HC1.out.mono ?_
    rintro e w2y ⟨rfl, hs⟩
    have HSF1 := Lib.hid (StW.first (w := w1y) ((Below.refl _ _).drew) HL1.out (hwq ▸ hs))
    have HST2 := Lib.hid (show StW x (M + 2 ^ T * catN (([] ++ wordF fixedL s) ++ [(v1, k1)])) (T + catT (([] ++ wordF fixedL s) ++ [(v1, k1)])) w w2y from (HST1.out.trans HSF1.out).snoc)
    have HXY2 := Lib.hid (And.intro (HSF1.out.2.2 _ _ _ HXY1.out.1 (by decide) (by decide)) (HSF1.out.2.2 _ _ _ HXY1.out.2 (by decide) (by decide)))
    clear hs hwq HC1 HSF1 HST1 HXY1 HL1
    obtain ⟨u2, hv2⟩ := HST2.out.1
    obtain ⟨lW2, y02, y12, y22, -, -⟩ := hv2.cells
    obtain ⟨x02, x12, x22, -, -, -, lX2⟩ := three_facts HXY2.out.1
    obtain ⟨z02, z12, z22, -, -, -, lY2⟩ := three_facts HXY2.out.2
    have hT2 : T + catT (([] ++ wordF fixedL s) ++ [(v1, k1)]) ≤ 1000000000 := by simp [catT, wordF]; omega
    have HC2 := Lib.hid (hv2.drew.dst (s := p2) (by omega) hT2)
    have HL2 := Lib.hid hv2.low.2
    clear hv2 hT2
    go_wp2_with fail
    go_still_tail 10, (by kernel_rfl)
    change wpList _ _ _ _ _ w2y.drew
    generalize hwq : w2y.drew = wq2 at HC2 ⊢
    clear lW2 y02 y12 y22 x02 x12 x22 lX2 z02 z12 z22 lY2
    go_wp2_with fail
    refine HC2.out.mono ?_
    rintro e w3y ⟨rfl, hs⟩
    have HSF2 := Lib.hid (StW.first (w := w2y) ((Below.refl _ _).drew) HL2.out (hwq ▸ hs))
    have HST3 := Lib.hid (show StW x (M + 2 ^ T * catN ((([] ++ wordF fixedL s) ++ [(v1, k1)]) ++ wordF d5 p2)) (T + catT ((([] ++ wordF fixedL s) ++ [(v1, k1)]) ++ wordF d5 p2)) w w3y from (HST2.out.trans HSF2.out).snoc)
    have HXY3 := Lib.hid (And.intro (HSF2.out.2.2 _ _ _ HXY2.out.1 (by decide) (by decide)) (HSF2.out.2.2 _ _ _ HXY2.out.2 (by decide) (by decide)))
    clear hs hwq HC2 HSF2 HST2 HXY2 HL2
    obtain ⟨u3, hv3⟩ := HST3.out.1
    obtain ⟨lW3, y03, y13, y23, -, -⟩ := hv3.cells
    obtain ⟨x03, x13, x23, -, -, -, lX3⟩ := three_facts HXY3.out.1
    obtain ⟨z03, z13, z23, -, -, -, lY3⟩ := three_facts HXY3.out.2
    have hT3 : T + catT ((([] ++ wordF fixedL s) ++ [(v1, k1)]) ++ wordF d5 p2) ≤ 1000000000 := by simp [catT, wordF]; omega
    have HC3 := Lib.hid (hv3.drew.put (V := v2) (k := k2) (by omega) hvv2 hT3)
    have HL3 := Lib.hid hv3.low.2
    clear hv3 hT3
    go_wp2_with fail
    go_still_tail 8, (by kernel_rfl)
    change wpList _ _ _ _ _ w3y.drew
    generalize hwq : w3y.drew = wq3 at HC3 ⊢
    clear lW3 y03 y13 y23 x03 x13 x23 lX3 z03 z13 z23 lY3
    go_wp2_with fail
    refine HC3.out.mono ?_
    rintro e w4y ⟨rfl, hs⟩
    have HSF3 := Lib.hid (StW.first (w := w3y) ((Below.refl _ _).drew) HL3.out (hwq ▸ hs))
    have HST4 := Lib.hid (show StW x (M + 2 ^ T * catN (((([] ++ wordF fixedL s) ++ [(v1, k1)]) ++ wordF d5 p2) ++ [(v2, k2)])) (T + catT (((([] ++ wordF fixedL s) ++ [(v1, k1)]) ++ wordF d5 p2) ++ [(v2, k2)])) w w4y from (HST3.out.trans HSF3.out).snoc)
    have HXY4 := Lib.hid (And.intro (HSF3.out.2.2 _ _ _ HXY3.out.1 (by decide) (by decide)) (HSF3.out.2.2 _ _ _ HXY3.out.2 (by decide) (by decide)))
    clear hs hwq HC3 HSF3 HST3 HXY3 HL3
    go_wp2_with fail
    refine bodyPost_ret (results_none rfl _ _ _) rfl ?_
    exact ⟨rfl, HST4.out⟩
end Go.Proofs.Ytnjdnldoopgcpaa
