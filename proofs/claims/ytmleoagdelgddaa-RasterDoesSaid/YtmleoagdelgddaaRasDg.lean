/- raster's reference: Samples at a sound image. Written by gen_de.py. -/
import Derived.Test.YtmleoagdelgddaaRasDd
import Derived.Laws.AppendOwn
import Derived.Test.YtmleoagdelgddaaRasDb
namespace Go.Proofs.Ytmleoagdelgddaa
open Go.RowKit Dec

theorem own_lt' {w : World} {base size n g : Nat} {T : TypeId} {v : Value} {xs : List Value} (h : w.ownsRow base T size v n xs) (e : v.ownBlock = some g) : base ≤ g := (h.lt g e).1
theorem own_keep {v v' : World} {base size n : Nat} {T : TypeId} {x : Value} {xs : List Value} (h : v.ownsRow base T size x n xs) (hb : Below v.heap.size v v') : v'.ownsRow base T size x n xs :=
  h.kept (below_only hb none) (by
    rcases h.2 with ⟨rfl, _⟩ | ⟨g, cap, cur, rfl, _⟩
    · exact .inl rfl
    · exact .inr (fun e => by cases e))
theorem own_down {w : World} {base base' size n : Nat} {T : TypeId} {v : Value} {xs : List Value} (h : w.ownsRow base T size v n xs) (hb : base' ≤ base) : w.ownsRow base' T size v n xs := by
  refine ⟨h.1, ?_⟩
  rcases h.2 with h | ⟨g, cap, cur, h1, h2, h3⟩
  · exact .inl h
  · exact .inr ⟨g, cap, cur, h1, Nat.le_trans hb h2, h3⟩
theorem own_sl' {w : World} {base size n : Nat} {T : TypeId} {v : Value} {xs : List Value} (h : w.ownsRow base T size v n xs) : ∃ a c, v = .slice a n c := by
  rcases h.2 with ⟨rfl, e0⟩ | ⟨g, cap, cur, rfl, _⟩
  · exact ⟨none, 0, by rw [e0]⟩
  · exact ⟨_, _, rfl⟩
theorem info_i : ∃ i, Try.prog.info? 3 = some i ∧ i.zero = some (.int .i64 0) ∧ i.size = 1 ∧ i.bytes = 8 := by
  have h := infoI
  cases hi : Try.prog.info? 3 with
  | none => rw [hi] at h; cases h
  | some i =>
    rw [hi] at h
    injection h with h
    injection h with h1 h2
    injection h2 with h2 h3
    exact ⟨i, rfl, h1, h2, h3⟩
theorem bt_lt (x t : Nat) : bt x t < 2 := Nat.mod_lt _ (by omega)
theorem bv_lt {f : Nat → Nat} (hf : ∀ k, f k < 2) : ∀ n, bv f n < 2 ^ n
  | 0 => by rw [bv]; decide
  | n + 1 => by
    have h1 := bv_lt hf n
    have h2 := hf n
    rw [bv, Nat.pow_succ]
    omega
/-- The bytes of one row. -/
theorem Bytes.row {w : World} {R o n c a S : Nat} {bs : List Nat} (h : Bytes w (some ⟨R, o, none⟩) n c bs) (ha : a + S ≤ n) (hS : 0 < S) : Bytes w (some ⟨R, o + a, none⟩) S (c - a) ((bs.drop a).take S) := by
  have hl := h.len
  have hc := h.cap
  have ht := h.top
  refine ⟨by simp; omega, by omega, by omega, fun b hb => h.byte b (List.mem_of_mem_drop (List.mem_of_mem_take hb)), fun _ => ?_⟩
  obtain ⟨R', o', e, hR, hcell⟩ := h.at_ (by omega)
  injection e with e
  injection e with e1 e2
  subst e1 e2
  refine ⟨R, o + a, rfl, hR, fun i b hb => ?_⟩
  rw [List.getElem?_take] at hb
  split at hb
  · rw [List.getElem?_drop] at hb
    have := hcell (a + i) b hb
    rwa [← Nat.add_assoc] at this
  · cases hb
set_option maxRecDepth 100000 in
set_option maxHeartbeats 8000000 in
theorem rsamples_good (W H B C P S N : Nat) (A : Option Addr) (n c : Nat) (bs : List Nat) (w : World) (hA : Bytes w A n c bs) (hF : fmtB (W : Int) (H : Int) (B : Int) (C : Int) = true) (hf : FmtN (W : Int) (H : Int) (B : Int) (C : Int) W H B C P S) (hN : H * P = N) (hn : n = H * S) (hH : 0 < H) :
    Calls Try.prog 11 #[.agg #[.int .i64 (W : Int), .int .i64 (H : Int), .int .i64 (B : Int), .int .i64 (C : Int), .slice A n c]] w fun e w' => ∃ v, e = .returned (.tuple #[v, .int .i64 0]) ∧ w'.ownsRow w.heap.size 3 1 v N (nvs ((List.range N).map (smp bs B S P))) ∧ Below w.heap.size w w' := by
  have hk : chkB (W : Int) (H : Int) (B : Int) (C : Int) n = true := by rw [hn]; exact hf.chk hF
  have hS1 : 0 < S := by
    have h1 := hf.s
    have h3 : 1 ≤ P * B := Nat.mul_pos hf.p0 (by have := hf.b; omega)
    omega
  have hH9 : H ≤ 262144 := Nat.le_trans (Nat.le_mul_of_pos_right H hf.p0) hf.n2
  have hn0 : 0 < n := by rw [hn]; exact Nat.mul_pos hH hS1
  obtain ⟨R, o, rfl, hR, -⟩ := hA.at_ hn0
  have HRT := Lib.hid (fun w => rright22_any (W : Int) (H : Int) (B : Int) (C : Int) (some ⟨R, o, none⟩) n c w)
  rw [hk] at HRT
  have HRO := Lib.hid (fun w => rrow_any (H : Int) W B C (some ⟨R, o, none⟩) n c P S w hf.p hf.s (by have := hf.pb; omega) (by have := hf.p2; omega))
  have HSB := Lib.hid (fun y i (hi : i < P) => smp_bits (y := y) (i := i) hf.b hf.s hf.p0 hA.byte hi)
  have hN2 : N ≤ 262144 := by rw [← hN]; exact hf.n2
  have hP2 := hf.p2
  have hB16 : B ≤ 16 := by have := hf.b; omega
  have hPB := hf.pb
  have hHS := hf.hs
  have hPS := hf.s
  have eP : IntKind.i64.wrap ((W : Int) * (C : Int)) = (P : Int) := by rw [← Int.natCast_mul, hf.p, IntKind.wrap_i64]; omega
  have HI := Lib.hid (Whole.made w 24 #[.int .i64 (W : Int), .int .i64 (H : Int), .int .i64 (B : Int), .int .i64 (C : Int), .slice (some ⟨R, o, none⟩) n c])
  have HV := Lib.hid ((Below.refl w.heap.size w).alloc (Nat.le_refl _) (.cells #[.int .i64 (W : Int), .int .i64 (H : Int), .int .i64 (B : Int), .int .i64 (C : Int), .slice (some ⟨R, o, none⟩) n c] 24))
  have HA := Lib.hid hA
  have HNN := Lib.hid (And.intro hN hn)
  have hcap := hA.cap
  have htop := hA.top
  clear hk hA hF hf hN hn
  go_enter Try.func11, Try.ntmps11
  go_wp2_with fail
  refine (HRT.out _).mono ?_
  rintro e w1 ⟨rfl, hb⟩
  have HB1 := Lib.hid (HV.out.trans (hb.mono HV.out.size))
  have HI1 := Lib.hid (HI.out.here hb)
  have s1 := HB1.out.size
  clear hb HI HV HRT
  go_wp2_with fail
  obtain ⟨f, hfe⟩ : ∃ f, smp bs B S P = f := ⟨_, rfl⟩
  rw [hfe] at HSB
  have HFE := Lib.hid hfe
  clear hfe
  go_loopw [4, 5] (fun s4 s5 wr => ∃ y : Nat, y ≤ H ∧ s5 = .int .i64 (y : Int) ∧ Hid (wr.ownsRow w1.heap.size 3 1 s4 (y * P) (nvs ((List.range (y * P)).map f)) ∧ Below w1.heap.size w1 wr)) (fun _ s5 _ => H - (intOf s5).toNat)
  case atStart => exact ⟨0, by omega, rfl, Lib.hid (by rw [Nat.zero_mul]; exact ⟨World.ownsRow_nil _ _ _ _, Below.refl _ _⟩)⟩
  case round =>
    obtain ⟨y, hy, rfl, HQ⟩ := hrel
    have hI := HI1.out.here HQ.out.2
    have icells := img_cells hI
    obtain ⟨i0, i1, i2, i3, i4⟩ := icells
    have lI := hI.lt
    by_cases hly : y < H
    · have d1 : decide ((y : Int) < (H : Int)) = true := decide_eq_true (by omega)
      have q1 : (y + 1) * S ≤ H * S := Nat.mul_le_mul_right _ hly
      have q2 : (y + 1) * S = y * S + S := Nat.succ_mul ..
      have hnS := HNN.out.2
      obtain ⟨ys, hys⟩ : ∃ q, y * S = q := ⟨_, rfl⟩
      obtain ⟨ye, hye⟩ : ∃ q, (y + 1) * S = q := ⟨_, rfl⟩
      obtain ⟨y1, hy1⟩ : ∃ q, y + 1 = q := ⟨_, rfl⟩
      have u1 : IntKind.i64.wrap ((y : Int) * (S : Int)) = (ys : Int) := by rw [← Int.natCast_mul, hys, IntKind.wrap_i64]; omega
      have u2 : IntKind.i64.wrap ((y : Int) + 1) = (y1 : Int) := by rw [IntKind.wrap_i64]; omega
      have u3 : IntKind.i64.wrap ((y1 : Int) * (S : Int)) = (ye : Int) := by rw [← Int.natCast_mul, ← hy1, hye, IntKind.wrap_i64]; omega
      have hsub : ye - ys = S := by omega
      have hle1 : (0 : Int) ≤ (ys : Int) := by omega
      have hle2 : (ys : Int) ≤ (ye : Int) := by omega
      have hle3 : (ye : Int) ≤ (c : Int) := by omega
      have hle4 : ¬ c = ys := by omega
      have hle5 : ys ≤ ye := by omega
      have hle6 : ye ≤ c := by omega
      have HBR := Lib.hid (fun v (hv : Below w.heap.size w v) => hys ▸ (HA.out.below hv).row (a := y * S) (S := S) (by omega) hS1)
      have HC : Hid (∀ v, Below wr.heap.size wr v → (fun v => (v.cell? ⟨w.heap.size, 0, none⟩ = some (.int .i64 (W : Int)) ∧ v.cell? ⟨w.heap.size, 1, none⟩ = some (.int .i64 (H : Int)) ∧ v.cell? ⟨w.heap.size, 2, none⟩ = some (.int .i64 (B : Int)) ∧ v.cell? ⟨w.heap.size, 3, none⟩ = some (.int .i64 (C : Int)) ∧ v.cell? ⟨w.heap.size, 4, none⟩ = some (.slice (some ⟨R, o, none⟩) n c)) ∧ Below wr.heap.size wr v) v) := Lib.hid (fun v k => ⟨img_cells (hI.here k), k⟩)
      have HBW := Lib.hid (HB1.out.trans (HQ.out.2.mono HB1.out.size))
      clear hI q1 q2 hnS hye hy1
      have HYS := Lib.hid hys
      clear hys
      go_wp2_with fail
      clear i0 i1 i2 i3 i4
      have hS := HC.out wr.drew ((Below.refl wr.heap.size wr).drew)
      refine wp_region_C (fun v => (v.cell? ⟨w.heap.size, 0, none⟩ = some (.int .i64 (W : Int)) ∧ v.cell? ⟨w.heap.size, 1, none⟩ = some (.int .i64 (H : Int)) ∧ v.cell? ⟨w.heap.size, 2, none⟩ = some (.int .i64 (B : Int)) ∧ v.cell? ⟨w.heap.size, 3, none⟩ = some (.int .i64 (C : Int)) ∧ v.cell? ⟨w.heap.size, 4, none⟩ = some (.slice (some ⟨R, o, none⟩) n c)) ∧ Below wr.heap.size wr v) (by kernel_rfl) ?_
      refine wpAnyC_take (i := 0) (v := .pointer (some ⟨w.heap.size, 4, none⟩)) rfl (by kernel_rfl) (fun _ _ _ h => h) (Or.inl ⟨by rfl, ?y1⟩) hS ?r1
      case y1 => intro wq _; go_simp; all_goals (first | with_reducible rfl | (simp only []; done) | (simp []; done) | (simp; omega) | skip)
      try simp only [Act.put, List.setIfInBounds_toArray, List.set_cons_zero, List.set_cons_succ]
      refine wpAnyC_take (i := 1) (v := .slice (some ⟨R, o, none⟩) n c) rfl (by kernel_rfl) (fun _ _ _ h => h) (Or.inl ⟨by rfl, ?y2⟩) hS ?r2
      case y2 => rintro wq ⟨⟨c0, c1, c2, c3, c4⟩, -⟩; go_simp; all_goals (first | with_reducible rfl | (simp only []; done) | (simp []; done) | (simp; omega) | skip)
      try simp only [Act.put, List.setIfInBounds_toArray, List.set_cons_zero, List.set_cons_succ]
      refine wpAnyC_take (i := 2) (v := .int .i64 (y : Int)) rfl (by kernel_rfl) (fun _ _ _ h => h) (Or.inl ⟨by rfl, ?y3⟩) hS ?r3
      case y3 => intro wq _; go_simp; all_goals (first | with_reducible rfl | (simp only []; done) | (simp []; done) | (simp; omega) | skip)
      try simp only [Act.put, List.setIfInBounds_toArray, List.set_cons_zero, List.set_cons_succ]
      refine wpAnyC_take (i := 3) (v := .agg #[.int .i64 (W : Int), .int .i64 (H : Int), .int .i64 (B : Int), .int .i64 (C : Int), .slice (some ⟨R, o, none⟩) n c]) rfl (by kernel_rfl) (fun _ _ _ h => h) (Or.inl ⟨by rfl, ?y4⟩) hS ?r4
      case y4 => rintro wq ⟨⟨c0, c1, c2, c3, c4⟩, -⟩; go_simp; all_goals (first | with_reducible rfl | (simp only []; done) | (simp []; done) | (simp; omega) | skip)
      try simp only [Act.put, List.setIfInBounds_toArray, List.set_cons_zero, List.set_cons_succ]
      refine wpAnyC_take (i := 6) (v := .int .i64 (y : Int)) rfl (by kernel_rfl) (fun _ _ _ h => h) (Or.inl ⟨by rfl, ?y5⟩) hS ?r5
      case y5 => intro wq _; go_simp; all_goals (first | with_reducible rfl | (simp only []; done) | (simp []; done) | (simp; omega) | skip)
      try simp only [Act.put, List.setIfInBounds_toArray, List.set_cons_zero, List.set_cons_succ]
      refine wpAnyC_take (i := 7) (v := .int .i64 (y1 : Int)) rfl (by kernel_rfl) (fun _ _ _ h => h) (Or.inl ⟨by rfl, ?y6⟩) hS ?r6
      case y6 => intro wq _; go_simp; all_goals (first | with_reducible rfl | (simp only []; done) | (simp []; done) | (simp; omega) | skip)
      try simp only [Act.put, List.setIfInBounds_toArray, List.set_cons_zero, List.set_cons_succ]
      refine wpAnyC_take (i := 8) (v := .agg #[.int .i64 (W : Int), .int .i64 (H : Int), .int .i64 (B : Int), .int .i64 (C : Int), .slice (some ⟨R, o, none⟩) n c]) rfl (by kernel_rfl) (fun _ _ _ h => h) (Or.inl ⟨by rfl, ?y7⟩) hS ?r7
      case y7 => rintro wq ⟨⟨c0, c1, c2, c3, c4⟩, -⟩; go_simp; all_goals (first | with_reducible rfl | (simp only []; done) | (simp []; done) | (simp; omega) | skip)
      try simp only [Act.put, List.setIfInBounds_toArray, List.set_cons_zero, List.set_cons_succ]
      refine wpAnyC_one (j := 4) (by kernel_rfl) rfl (fun K hK => ?_)
      go_simp
      go_at_call 29
      refine (HRO.out _).mono ?_
      rintro e V ⟨rfl, kk⟩
      have hbv := hS.2.trans (kk.mono hS.2.size)
      have hS := HC.out V hbv
      clear kk hbv
      go_wp2_with fail
      refine hK.out _ _ ⟨hS, ?_⟩
      clear hK K
      try simp only [Act.put, List.setIfInBounds_toArray, List.set_cons_zero, List.set_cons_succ]
      refine wpAnyC_take (i := 5) (v := .int .i64 (ys : Int)) rfl (by kernel_rfl) (fun _ _ _ h => h) (Or.inl ⟨by rfl, ?y8⟩) hS ?r8
      case y8 => intro wq _; go_simp; all_goals (first | with_reducible rfl | (simp only []; done) | (simp []; done) | (simp; omega) | skip)
      try simp only [Act.put, List.setIfInBounds_toArray, List.set_cons_zero, List.set_cons_succ]
      refine wpAnyC_one (j := 9) (by kernel_rfl) rfl (fun K hK => ?_)
      go_simp
      go_at_call 29
      refine (HRO.out _).mono ?_
      rintro e V ⟨rfl, kk⟩
      have hbv := hS.2.trans (kk.mono hS.2.size)
      have hS := HC.out V hbv
      clear kk hbv
      go_wp2_with fail
      refine hK.out _ _ ⟨hS, ?_⟩
      clear hK K
      try simp only [Act.put, List.setIfInBounds_toArray, List.set_cons_zero, List.set_cons_succ]
      refine wpAnyC_take (i := 10) (v := .int .i64 (ye : Int)) rfl (by kernel_rfl) (fun _ _ _ h => h) (Or.inl ⟨by rfl, ?y9⟩) hS ?r9
      case y9 => intro wq _; go_simp; all_goals (first | with_reducible rfl | (simp only []; done) | (simp []; done) | (simp; omega) | skip)
      try simp only [Act.put, List.setIfInBounds_toArray, List.set_cons_zero, List.set_cons_succ]
      refine wpAnyC_take (i := 11) (v := .slice (some ⟨R, o + ys, none⟩) S (c - ys)) rfl (by kernel_rfl) (fun _ _ _ h => h) (Or.inl ⟨by rfl, ?y10⟩) hS ?r10
      case y10 => intro wq _; go_simp; all_goals (first | with_reducible rfl | (simp only []; done) | (simp []; done) | (simp; omega) | skip)
      try simp only [Act.put, List.setIfInBounds_toArray, List.set_cons_zero, List.set_cons_succ]
      refine wpAnyC_take (i := 12) (v := .slice (some ⟨R, o + ys, none⟩) S (c - ys)) rfl (by kernel_rfl) (fun _ _ _ h => h) (Or.inl ⟨by rfl, ?y11⟩) hS ?r11
      case y11 => intro wq _; go_simp; all_goals (first | with_reducible rfl | (simp only []; done) | (simp []; done) | (simp; omega) | skip)
      try simp only [Act.put, List.setIfInBounds_toArray, List.set_cons_zero, List.set_cons_succ]
      refine wpAnyC_done (by kernel_rfl) ?_ _
      have HV2 := Lib.hid (And.intro (own_keep HQ.out.1 hS.2) (HQ.out.2.trans (hS.2.mono HQ.out.2.size)))
      clear hS HC HQ lI u1 u2 u3 hsub hle1 hle2 hle3 hle4 hle5 hle6 d1
      have HG := Lib.hid (fun i (hi : i < P) => HYS.out ▸ HSB.out y i hi)
      generalize (bs.drop ys).take S = rw8 at *
      go_wp2_with fail
      go_loopw [4, 7] (fun s4 s7 wr => ∃ i : Nat, i ≤ P ∧ s7 = .int .i64 (i : Int) ∧ Hid (wr.ownsRow w1.heap.size 3 1 s4 (y * P + i) (nvs ((List.range (y * P + i)).map f)) ∧ Below w1.heap.size w1 wr)) (fun _ s7 _ => P - (intOf s7).toNat)
      case atStart => exact ⟨0, by omega, rfl, HV2⟩
      case round =>
        obtain ⟨i, hi, rfl, HQ⟩ := hrel
        obtain ⟨a5, c5, rfl⟩ := own_sl' HQ.out.1
        have hI := HI1.out.here HQ.out.2
        have icells := img_cells hI
        obtain ⟨i0, i1, i2, i3, i4⟩ := icells
        have lI := hI.lt
        by_cases hli : i < P
        · have d2 : decide ((i : Int) < (P : Int)) = true := decide_eq_true (by omega)
          have HBY := Lib.hid (HBR.out wr (HB1.out.trans (HQ.out.2.mono HB1.out.size)))
          have HGI := Lib.hid (HG.out i hli)
          have h3 : i * B + B ≤ P * B := by rw [← Nat.succ_mul]; exact Nat.mul_le_mul_right _ hli
          obtain ⟨iB, hiB⟩ : ∃ q, i * B = q := ⟨_, rfl⟩
          have u1 : IntKind.i64.wrap ((i : Int) * (B : Int)) = (iB : Int) := by rw [← Int.natCast_mul, hiB, IntKind.wrap_i64]; omega
          rw [hiB] at h3 HGI
          have hjn : y * P + i ≤ 262144 := by
            have q1 : (y + 1) * P ≤ H * P := Nat.mul_le_mul_right _ hly
            have q2 : (y + 1) * P = y * P + P := Nat.succ_mul ..
            have := HNN.out.1
            omega
          clear hI hiB
          go_wp2_with fail
          generalize wr = W3 at *
          go_loopw [8, 9] (fun s8 s9 wr => ∃ k : Nat, k ≤ B ∧ s9 = .int .i64 (k : Int) ∧ s8 = .int .i64 ((bv (fun k => bitAt rw8 (iB + k)) k : Nat) : Int) ∧ wr = W3) (fun _ s9 _ => B - (intOf s9).toNat)
          case atStart => exact ⟨0, by omega, rfl, rfl, rfl⟩
          case round =>
            obtain ⟨k, hk, rfl, rfl, rfl⟩ := hrel
            by_cases hlk : k < B
            · have d3 : decide ((k : Int) < (B : Int)) = true := decide_eq_true (by omega)
              have hb1 := bv_lt (f := fun k => bitAt rw8 (iB + k)) (fun k => bt_lt _ _) k
              have hp : 2 ^ k ≤ 2 ^ 16 := Nat.pow_le_pow_right (by omega) (by omega)
              have hp2 : (2 : Nat) ^ 16 = 65536 := rfl
              have HST := Lib.hid (show bv (fun k => bitAt rw8 (iB + k)) (k + 1) = 2 * bv (fun k => bitAt rw8 (iB + k)) k + bitAt rw8 (iB + k) from rfl)
              have HBT := Lib.hid (rbit_any _ _ _ _ (iB + k) _ HBY.out (by omega))
              have hbt : bitAt rw8 (iB + k) < 2 := bt_lt _ _
              obtain ⟨z, hz⟩ : ∃ z, bv (fun k => bitAt rw8 (iB + k)) k = z := ⟨_, rfl⟩
              obtain ⟨t, ht⟩ : ∃ z, bitAt rw8 (iB + k) = z := ⟨_, rfl⟩
              obtain ⟨q, hq⟩ : ∃ z, iB + k = z := ⟨_, rfl⟩
              rw [hz] at HST hb1 ⊢
              rw [ht] at HST HBT hbt
              rw [hq] at HBT
              have u2 : IntKind.i64.wrap (2 * (z : Int)) = ((2 * z : Nat) : Int) := by rw [IntKind.wrap_i64]; omega
              have u3 : IntKind.i64.wrap ((iB : Int) + (k : Int)) = (q : Int) := by rw [IntKind.wrap_i64]; omega
              obtain ⟨z2, hz2⟩ : ∃ q, 2 * z = q := ⟨_, rfl⟩
              have u4 : IntKind.i64.wrap ((z2 : Int) + (t : Int)) = ((z2 + t : Nat) : Int) := by rw [IntKind.wrap_i64]; omega
              obtain ⟨z3, hz3⟩ : ∃ q, z2 + t = q := ⟨_, rfl⟩
              rw [hz2] at u2 HST
              rw [hz3] at u4 HST
              clear hz ht hq hz2 hz3 hb1 hp hp2 hbt
              go_wp2_with fail
              refine HBT.out.mono ?_
              rintro e w' ⟨rfl, rfl⟩
              go_wp2_with fail
              go_roundw
              case rel => exact ⟨k + 1, by omega, by go_num, by rw [HST.out], by first | rfl | trivial⟩
              case measure => simp [intOf]; omega
            · obtain rfl : k = B := by omega
              have d3 : decide ((k : Int) < (k : Int)) = false := by simp
              rw [HGI.out]
              obtain ⟨jj, hjj⟩ : ∃ jj, y * P + i = jj := ⟨_, rfl⟩
              have HJJ := Lib.hid hjj
              rw [hjj] at HQ hjn ⊢
              obtain ⟨x, hx⟩ : ∃ x, f jj = x := ⟨_, rfl⟩
              have HX := Lib.hid hx
              rw [hx]
              clear hjj hx
              obtain ⟨i9, hi9, hz0, hz1, hz2⟩ := info_i
              go_wp2_with (at_builtin; refine wpList_append_own _ rfl _ _ 25 rfl w1.heap.size 3 i9 (.int .i64 0) 1 8 Try.underlying25 hi9 hz0 hz1 hz2 rfl (by decide) _ _ _ rfl (HQ.out.1.alloc _) ⟨wr.heap.size, 0, none⟩ 1 1 [.int .i64 (x : Int)] rfl rfl (World.news_of_block (cs := #[.int .i64 (x : Int)]) (t := 3) (fr := (0, 0)) (heap_alloc_new _ _)) ?p1 ?p2 ?p3 ?p4 ?_)
              case p1 => simp [Value.oneCell']
              case p2 => unfold maxLen; omega
              case p3 => omega
              case p4 => have := HQ.out.2.size; simp; omega
              intro v' w6 hown' hgrow _
              have hown2 : w6.ownsRow w1.heap.size 3 1 v' (jj + 1) (nvs ((List.range (jj + 1)).map f)) := by
                rw [List.range_succ, List.map_append, show nvs ((List.range jj).map f ++ [jj].map f) = nvs ((List.range jj).map f) ++ [.int .i64 (x : Int)] by unfold nvs; rw [List.map_append]; simp [HX.out]]
                exact hown'
              have hb6 : Below w1.heap.size w1 w6 := (HQ.out.2.alloc HQ.out.2.size _).grown hgrow (by have := HQ.out.2.size; simp; omega) (fun j e => own_lt' HQ.out.1 e)
              have HO6 := Lib.hid (And.intro hown2 hb6)
              clear hown' hgrow hown2 hb6
              go_wp2_with fail
              go_roundw
              case rel => exact ⟨i + 1, by omega, by go_num, by rw [← Nat.add_assoc, HJJ.out]; exact HO6⟩
              case measure => simp [intOf]; omega
        · obtain rfl : i = P := by omega
          have d2 : decide ((i : Int) < (i : Int)) = false := by simp
          have e1 : y * i + i = (y + 1) * i := (Nat.succ_mul ..).symm
          rw [e1] at HQ ⊢
          clear e1 hI
          go_wp2_with fail
          go_roundw
          case rel => exact ⟨y + 1, by omega, by go_num, HQ⟩
          case measure => simp [intOf]; omega
    · obtain rfl : y = H := by omega
      have d1 : decide ((y : Int) < (y : Int)) = false := by simp
      have HF := Lib.hid (HB1.out.trans (HQ.out.2.mono HB1.out.size))
      clear hI
      go_wp2_with fail
      go_ret2
      refine ⟨_, rfl, ?_, HF.out⟩
      have := HQ.out.1
      rw [HNN.out.1] at this
      rw [HFE.out]
      exact own_down this s1
end Go.Proofs.Ytmleoagdelgddaa
/- raster's reference: a row that is packed bit by bit: pure. -/
namespace Go.Proofs.Ytmleoagdelgddaa
open Go.RowKit Dec

/-- The bit q of row y, when i samples and j bits (the last ones first) of one more are put. -/
def pdg (ln : List Nat) (B P y i j q : Nat) : Nat :=
  if q < i * B then dgt (ln.getD (y * P + q / B) 0) B (q % B) else if i * B + (B - j) ≤ q ∧ q < i * B + B then dgt (ln.getD (y * P + i) 0) B (q - i * B) else 0
structure Part (ln : List Nat) (B P S y i j : Nat) (rb : List Nat) : Prop where
  len : rb.length = S
  byte : ∀ x ∈ rb, x < 256
  bits : ∀ q, q < 8 * S → bitAt rb q = pdg ln B P y i j q
theorem Part.zero (ln : List Nat) (B P S y : Nat) : Part ln B P S y 0 0 (List.replicate S 0) :=
  ⟨by simp, fun x hx => by rw [List.eq_of_mem_replicate hx]; decide, fun q hq => by
    rw [bit_zero]
    unfold pdg
    rw [if_neg (by omega), if_neg (by omega)]⟩
theorem Part.next {ln : List Nat} {B P S y i : Nat} {rb : List Nat} (hB : 0 < B) (h : Part ln B P S y i B rb) : Part ln B P S y (i + 1) 0 rb :=
  ⟨h.len, h.byte, fun q hq => by
    rw [h.bits q hq]
    unfold pdg
    have e : (i + 1) * B = i * B + B := Nat.succ_mul ..
    have hm := Nat.div_add_mod q B
    have hl := Nat.mod_lt q hB
    by_cases h1 : q < i * B
    · rw [if_pos h1, if_pos (by omega)]
    · rw [if_neg h1]
      by_cases h2 : q < i * B + B
      · have hd : q / B = i := by
          have a1 : i ≤ q / B := (Nat.le_div_iff_mul_le hB).2 (by omega)
          have a2 : q / B < i + 1 := (Nat.div_lt_iff_lt_mul hB).2 (by omega)
          omega
        rw [hd] at hm
        have hc : B * i = i * B := Nat.mul_comm _ _
        rw [if_pos ⟨by omega, h2⟩, if_pos (by omega), hd, show q - i * B = q % B by omega]
      · rw [if_neg (by omega), if_neg (by omega), if_neg (by omega)]⟩
theorem Part.step {ln : List Nat} {B P S y i j q : Nat} {rb : List Nat} (hS : (P * B + 7) / 8 = S) (hi : i < P) (hj : j < B) (hq : i * B + (B - 1 - j) = q) (h : Part ln B P S y i j rb) :
    q / 8 < S ∧ rb.getD (q / 8) 0 + (ln.getD (y * P + i) 0 / 2 ^ j % 2) * 2 ^ (7 - q % 8) < 256 ∧ Part ln B P S y i (j + 1) (rb.set (q / 8) (rb.getD (q / 8) 0 + (ln.getD (y * P + i) 0 / 2 ^ j % 2) * 2 ^ (7 - q % 8))) := by
  have h3 : i * B + B ≤ P * B := by rw [← Nat.succ_mul]; exact Nat.mul_le_mul_right _ hi
  have hqS : q / 8 < S := by omega
  have hx := getD_lt h.byte (q / 8)
  have hz : bt (rb.getD (q / 8) 0) (q % 8) = 0 := by
    have := h.bits q (by omega)
    unfold bitAt at this
    rw [this]
    unfold pdg
    rw [if_neg (by omega), if_neg (by omega)]
  have hd : ln.getD (y * P + i) 0 / 2 ^ j % 2 < 2 := Nat.mod_lt _ (by omega)
  obtain ⟨k1, k2⟩ := bt_put1 hx (t := q % 8) (by omega) hd hz
  refine ⟨hqS, k1, by rw [List.length_set]; exact h.len, fun x hx => ?_, fun r hr => ?_⟩
  · rcases List.mem_or_eq_of_mem_set hx with hx | hx
    · exact h.byte x hx
    · rw [hx]; exact k1
  · have hb := h.bits r hr
    unfold bitAt at hb ⊢
    by_cases e : r / 8 = q / 8
    · rw [e, List.getD_eq_getElem?_getD, List.getElem?_set_self (by rw [h.len]; exact hqS), Option.getD_some, k2 (r % 8) (by omega)]
      by_cases e2 : r % 8 = q % 8
      · rw [if_pos e2]
        obtain rfl : r = q := by omega
        unfold pdg
        rw [if_neg (by omega), if_pos ⟨by omega, by omega⟩]
        unfold dgt
        rw [show B - 1 - (r - i * B) = j by omega]
      · rw [if_neg e2, ← e, hb]
        unfold pdg
        have hne : r ≠ q := fun k => e2 (by rw [k])
        by_cases h1 : r < i * B
        · rw [if_pos h1, if_pos h1]
        · rw [if_neg h1, if_neg h1]
          by_cases h2 : i * B + (B - j) ≤ r ∧ r < i * B + B
          · rw [if_pos h2, if_pos ⟨by omega, h2.2⟩]
          · rw [if_neg h2, if_neg (fun k => h2 ⟨by omega, k.2⟩)]
    · rw [List.getD_eq_getElem?_getD, List.getElem?_set_ne (fun k => e k.symm), ← List.getD_eq_getElem?_getD, hb]
      unfold pdg
      have hne : r ≠ q := fun k => e (by rw [k])
      by_cases h1 : r < i * B
      · rw [if_pos h1, if_pos h1]
      · rw [if_neg h1, if_neg h1]
        by_cases h2 : i * B + (B - j) ≤ r ∧ r < i * B + B
        · rw [if_pos h2, if_pos ⟨by omega, h2.2⟩]
        · rw [if_neg h2, if_neg (fun k => h2 ⟨by omega, k.2⟩)]
/-- Rows that are packed, one behind the other. -/
structure Outs (ln : List Nat) (B P S y : Nat) (ob : List Nat) : Prop where
  len : ob.length = y * S
  byte : ∀ x ∈ ob, x < 256
  row : ∀ z, z < y → Part ln B P S z P 0 ((ob.drop (z * S)).take S)
theorem Outs.zero (ln : List Nat) (B P S : Nat) : Outs ln B P S 0 [] := ⟨by simp, fun x hx => by simp at hx, fun z hz => by omega⟩
theorem Outs.next {ln : List Nat} {B P S y : Nat} {ob rb : List Nat} (h : Outs ln B P S y ob) (k : Part ln B P S y P 0 rb) : Outs ln B P S (y + 1) (ob ++ rb) := by
  refine ⟨by rw [List.length_append, h.len, k.len, Nat.succ_mul], fun x hx => ?_, fun z hz => ?_⟩
  · rcases List.mem_append.1 hx with hx | hx
    · exact h.byte x hx
    · exact k.byte x hx
  · by_cases e : z = y
    · subst e
      rw [List.drop_append_of_le_length (by rw [h.len]; exact Nat.le_refl _), List.drop_of_length_le (by rw [h.len]; exact Nat.le_refl _), List.nil_append, List.take_of_length_le (by rw [k.len]; exact Nat.le_refl _)]
      exact k
    · have hz2 : z < y := by omega
      have h1 : (z + 1) * S ≤ y * S := Nat.mul_le_mul_right _ hz2
      have h2 : (z + 1) * S = z * S + S := Nat.succ_mul ..
      rw [List.drop_append_of_le_length (by rw [h.len]; omega), List.take_append_of_le_length (by rw [List.length_drop, h.len]; omega)]
      exact h.row z hz2
/-- All rows packed: the packed bytes. -/
theorem Outs.done {ln : List Nat} {B P S H : Nat} {ob : List Nat} (hB : B = 1 ∨ B = 2 ∨ B = 4 ∨ B = 8 ∨ B = 16) (hS : (P * B + 7) / 8 = S) (h0 : 0 < P) (hv : ∀ j, j < H * P → ln.getD j 0 < 2 ^ B) (h : Outs ln B P S H ob) : ob = pkN ln B S P (H * S) (H * P) := by
  obtain ⟨i1, i2, -⟩ := pkN_is (H := H) hB hS h0 (H * P) (Nat.le_refl _) hv
  have hS0 : 0 < S := by
    have h3 : 1 ≤ P * B := Nat.mul_pos h0 (by omega)
    omega
  apply List.ext_getElem
  · rw [h.len, i1]
  · intro j h1 h2
    have hj : j < H * S := by rw [← h.len]; exact h1
    have hz : j / S < H := (Nat.div_lt_iff_lt_mul hS0).2 hj
    have hm := Nat.mod_lt j hS0
    have hdm := Nat.div_add_mod j S
    have hc : S * (j / S) = j / S * S := Nat.mul_comm _ _
    have hr := h.row _ hz
    have e := row_is (H := H) hB hS h0 hz hv hr.len hr.byte (fun q hq => by
      rw [hr.bits q hq]
      unfold pdg
      by_cases h3 : q < P * B
      · rw [if_pos h3, if_pos h3]
      · rw [if_neg h3, if_neg (by omega), if_neg h3])
    have a1 := row_getD (bs := ob) (a := j / S * S) hm
    have a2 := row_getD (bs := pkN ln B S P (H * S) (H * P)) (a := j / S * S) hm
    rw [e, a1, show j / S * S + j % S = j by omega] at a2
    rw [List.getD_eq_getElem?_getD, List.getElem?_eq_getElem h1, List.getD_eq_getElem?_getD, List.getElem?_eq_getElem h2] at a2
    simpa using a2
end Go.Proofs.Ytmleoagdelgddaa
/- raster's reference: Pack refuses. Written by gen_dg.py. -/
namespace Go.Proofs.Ytmleoagdelgddaa
open Go.RowKit Dec

set_option maxRecDepth 100000 in
set_option maxHeartbeats 4000000 in
theorem rpack_fmt (W H B C : Int) (A : Option Addr) (n c : Nat) (A2 : Option Addr) (n2 c2 : Nat) (w : World) (hF : fmtB W H B C = false) :
    Calls Try.prog 13 #[.agg #[.int .i64 W, .int .i64 H, .int .i64 B, .int .i64 C, .slice A n c], .slice A2 n2 c2] w (NoImg w) := by
  have HS := Lib.hid (fun w => shape_any W H B C A n c w)
  rw [hF] at HS
  clear hF
  obtain ⟨hI, hO, hB⟩ := start_img w (.int .i64 W) (.int .i64 H) (.int .i64 B) (.int .i64 C) (.slice A n c)
  have HI := Lib.hid hI
  have HO0 := Lib.hid hO
  have HB0 := Lib.hid hB
  clear hI hO hB
  go_enter Try.func13, Try.ntmps13
  go_wp2_with fail
  generalize hW0 : (w.alloc (.cells #[.int .i64 W, .int .i64 H, .int .i64 B, .int .i64 C, .slice A n c] 24)).alloc (.cells #[.int .i64 0, .int .i64 0, .int .i64 0, .int .i64 0, .slice none 0 0] 24) = W0 at *
  clear hW0
  have i3 := img_cells HI.out
  have i4 := HI.out.lt
  go_wp2_with fail
  refine (HS.out _).mono ?_
  rintro e V ⟨rfl, kk⟩
  have HO := Lib.hid (HO0.out.here kk)
  have HIV := Lib.hid (HI.out.here kk)
  have HB := Lib.hid (HB0.out.trans (kk.mono HB0.out.size))
  have lI := HIV.out.lt
  have lO := HO.out.lt
  clear kk HI HO0 HB0 i3 i4
  obtain ⟨p1, p2, p3⟩ := five_facts HO.out
  go_wp2_with fail
  refine ret_img (E := 1) (g := w.heap.size + 1) (five_set HO.out) (fun V hV => by have rv := hV.reads; simp [results, Try.results13, go_sem, rv]) rfl ?_
  exact ⟨rfl, five_below HB.out (by omega) _ _ _ _ _⟩
set_option maxRecDepth 100000 in
set_option maxHeartbeats 4000000 in
theorem rpack_len (W H B C P N : Nat) (A : Option Addr) (n c : Nat) (A2 : Option Addr) (n2 c2 : Nat) (w : World) (hF : fmtB (W : Int) (H : Int) (B : Int) (C : Int) = true) (hP : W * C = P) (hN : H * P = N) (hN2 : N ≤ 262144) (hwh : W * H ≤ 65536) (hne : n2 ≠ N) :
    Calls Try.prog 13 #[.agg #[.int .i64 (W : Int), .int .i64 (H : Int), .int .i64 (B : Int), .int .i64 (C : Int), .slice A n c], .slice A2 n2 c2] w (NoImg w) := by
  have HS := Lib.hid (fun w => shape_any (W : Int) (H : Int) (B : Int) (C : Int) A n c w)
  rw [hF] at HS
  obtain ⟨M, hM⟩ : ∃ M, W * H = M := ⟨_, rfl⟩
  have hMN : M * C = N := by rw [← hM, ← hN, ← hP, Nat.mul_comm W H, Nat.mul_assoc]
  rw [hM] at hwh
  have e1 : IntKind.i64.wrap ((W : Int) * (H : Int)) = (M : Int) := by rw [← Int.natCast_mul, hM, IntKind.wrap_i64]; omega
  have e2 : IntKind.i64.wrap ((M : Int) * (C : Int)) = (N : Int) := by rw [← Int.natCast_mul, hMN, IntKind.wrap_i64]; omega
  have d1 : ((n2 : Int) != (N : Int)) = true := by simp; omega
  have d2 : ¬ (n2 : Int) = (N : Int) := by omega
  clear hF hP hN hM hMN
  obtain ⟨hI, hO, hB⟩ := start_img w (.int .i64 (W : Int)) (.int .i64 (H : Int)) (.int .i64 (B : Int)) (.int .i64 (C : Int)) (.slice A n c)
  have HI := Lib.hid hI
  have HO0 := Lib.hid hO
  have HB0 := Lib.hid hB
  clear hI hO hB
  go_enter Try.func13, Try.ntmps13
  go_wp2_with fail
  generalize hW0 : (w.alloc (.cells #[.int .i64 (W : Int), .int .i64 (H : Int), .int .i64 (B : Int), .int .i64 (C : Int), .slice A n c] 24)).alloc (.cells #[.int .i64 0, .int .i64 0, .int .i64 0, .int .i64 0, .slice none 0 0] 24) = W0 at *
  clear hW0
  have i3 := img_cells HI.out
  have i4 := HI.out.lt
  go_wp2_with fail
  refine (HS.out _).mono ?_
  rintro e V ⟨rfl, kk⟩
  have HO := Lib.hid (HO0.out.here kk)
  have HIV := Lib.hid (HI.out.here kk)
  have HB := Lib.hid (HB0.out.trans (kk.mono HB0.out.size))
  have lI := HIV.out.lt
  have lO := HO.out.lt
  clear kk HI HO0 HB0 i3 i4
  obtain ⟨i0, i1, i2⟩ := five_facts HIV.out
  obtain ⟨p1, p2, p3⟩ := five_facts HO.out
  go_wp2_with fail
  refine ret_img (E := 1) (g := w.heap.size + 1) (five_set HO.out) (fun V hV => by have rv := hV.reads; simp [results, Try.results13, go_sem, rv]) rfl ?_
  exact ⟨rfl, five_below HB.out (by omega) _ _ _ _ _⟩
/-- Between two rounds of the reference's Pack. -/
structure RkSt (w wr : World) (Q : Nat) (W H B C : Nat) (A : Option Addr) (n c : Nat) (v : Value) (m : Nat) (ob : List Nat) : Prop where
  im : Whole wr w.heap.size 24 #[.int .i64 (W : Int), .int .i64 (H : Int), .int .i64 (B : Int), .int .i64 (C : Int), .slice A n c]
  res : Whole wr (w.heap.size + 1) 24 #[.int .i64 0, .int .i64 0, .int .i64 0, .int .i64 0, .slice none 0 0]
  out : Whole wr Q 24 #[.int .i64 (W : Int), .int .i64 (H : Int), .int .i64 (B : Int), .int .i64 (C : Int), v]
  own : wr.ownsRow (Q + 1) 5 1 v m (bvs ob)
  below : Below w.heap.size w wr
  low : w.heap.size + 1 < Q ∧ Q + 1 ≤ wr.heap.size
theorem RkSt.call {w wr wr' : World} {Q W H B C : Nat} {A : Option Addr} {n c : Nat} {v : Value} {m : Nat} {ob : List Nat} (h : RkSt w wr Q W H B C A n c v m ob) (k : Below wr.heap.size wr wr') : RkSt w wr' Q W H B C A n c v m ob :=
  ⟨h.im.here k, h.res.here k, h.out.here k, own_keep h.own k, h.below.trans (k.mono h.below.size), h.low.1, by have := h.low.2; have := k.size; omega⟩
theorem RkSt.app {w wr wr' : World} {Q W H B C : Nat} {A : Option Addr} {n c : Nat} {v v' : Value} {m m' : Nat} {ob ob' : List Nat} (h : RkSt w wr Q W H B C A n c v m ob) (ho : wr'.ownsRow (Q + 1) 5 1 v' m' (bvs ob')) (hg : wr.grownBy wr' v.ownBlock) :
    Whole wr' Q 24 #[.int .i64 (W : Int), .int .i64 (H : Int), .int .i64 (B : Int), .int .i64 (C : Int), v] ∧ RkSt w (wr'.setCell ⟨Q, 4, none⟩ v') Q W H B C A n c v' m' ob' := by
  have hl := h.low
  have hb : Below (Q + 1) wr wr' := (Below.refl (Q + 1) wr).grown hg hl.2 (fun j e => own_lt' h.own e)
  have hz := hb.size
  have hq := h.out.later hb (by omega)
  refine ⟨hq, (h.im.later hb (by omega)).away (p := ⟨Q, 4, none⟩) (by show w.heap.size ≠ Q; omega) _, (h.res.later hb (by omega)).away (p := ⟨Q, 4, none⟩) (by show w.heap.size + 1 ≠ Q; omega) _, by simpa using hq.set 4 v', ownsRow_setCell_below ho (a := ⟨Q, 4, none⟩) (by show Q < Q + 1; omega) v', (h.below.trans (hb.mono (by omega))).setCell (p := ⟨Q, 4, none⟩) (by show w.heap.size ≤ Q; omega) _, hl.1, by simp; omega⟩
theorem own_five {w : World} {base g m : Nat} {v : Value} {xs : List Value} (h : w.ownsRow base 5 1 v m xs) (hg : g < base) (p q r s t : Value) : (((((w.setCell ⟨g, 0, none⟩ p).setCell ⟨g, 1, none⟩ q).setCell ⟨g, 2, none⟩ r).setCell ⟨g, 3, none⟩ s).setCell ⟨g, 4, none⟩ t).ownsRow base 5 1 v m xs :=
  ownsRow_setCell_below (a := ⟨g, 4, none⟩) (ownsRow_setCell_below (a := ⟨g, 3, none⟩) (ownsRow_setCell_below (a := ⟨g, 2, none⟩) (ownsRow_setCell_below (a := ⟨g, 1, none⟩) (ownsRow_setCell_below h (a := ⟨g, 0, none⟩) hg p) hg q) hg r) hg s) hg t
theorem bytes_of {w : World} {base m : Nat} {v : Value} {bs : List Nat} (h : w.ownsRow base 5 1 v m (bvs bs)) (hb : ∀ b ∈ bs, b < 256) : ∃ A c, v = .slice A m c ∧ Bytes w A m c bs := by
  obtain ⟨A, c, R, e, _, _, hr⟩ := Row8.of_own h hb
  exact ⟨A, c, e, hr.bytes⟩
/-- What the reference's Pack answers of good samples. -/
def RPackGo (W H B C P S N : Nat) (l : List Int) (w : World) (e : Ending) (w' : World) : Prop :=
  ∃ v, e = .returned (.tuple #[.agg #[.int .i64 (W : Int), .int .i64 (H : Int), .int .i64 (B : Int), .int .i64 (C : Int), v], .int .i64 0]) ∧ w'.ownsRow w.heap.size 5 1 v (H * S) (bvs (pkN (l.map Int.toNat) B S P (H * S) N)) ∧ (∀ b ∈ pkN (l.map Int.toNat) B S P (H * S) N, b < 256) ∧ Below w.heap.size w w'
end Go.Proofs.Ytmleoagdelgddaa
