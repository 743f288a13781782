/- raster's reference: bit, power, Row, Right. -/
import Derived.Test.YtmleoagdelgddaaRasDb
import Derived.Test.YtmleoagdelgddaaRasBk
namespace Go.Proofs.Ytmleoagdelgddaa
open Go.RowKit Dec

theorem div_pow_step (x a : Nat) : x / 2 ^ a / 2 = x / 2 ^ (a + 1) := by rw [Nat.div_div_eq_div_mul, Nat.pow_succ]
set_option maxRecDepth 100000 in
set_option maxHeartbeats 4000000 in
theorem rbit_any (A : Option Addr) (n c : Nat) (bs : List Nat) (q : Nat) (w : World) (h : Bytes w A n c bs) (hq : q / 8 < n) :
    Calls Try.prog 30 #[.slice A n c, .int .i64 (q : Int)] w fun e w' => e = .returned (.int .i64 ((bitAt bs q : Nat) : Int)) ∧ w' = w := by
  obtain ⟨R, o, rfl, hR, hc⟩ := h.at_ (by omega)
  have hl := h.len
  have hcap := h.cap
  have htop := h.top
  obtain ⟨x, hx⟩ : ∃ x, bs[q / 8]? = some x := ⟨_, List.getElem?_eq_getElem (by omega)⟩
  have hx9 : x < 256 := h.byte x (List.mem_of_getElem? hx)
  have hc0 := hc _ _ hx
  have HV := Lib.hid (show bitAt bs q = x / 2 ^ (7 - q % 8) % 2 by unfold bitAt bt; rw [List.getD_eq_getElem?_getD, hx]; rfl)
  obtain ⟨j, hj⟩ : ∃ j, q / 8 = j := ⟨_, rfl⟩
  obtain ⟨t, ht⟩ : ∃ t, q % 8 = t := ⟨_, rfl⟩
  rw [hj] at hc0 hq
  rw [ht] at HV
  have d1 : (q : Int).tdiv 8 = (j : Int) := by rw [Int.tdiv_eq_ediv_of_nonneg (by omega)]; omega
  have d2 : (q : Int).tmod 8 = (t : Int) := by rw [Int.tmod_eq_emod_of_nonneg (by omega)]; omega
  have f1 : (q : Int) / 8 = (j : Int) := by omega
  have f2 : (q : Int) % 8 = (t : Int) := by omega
  have w1 : IntKind.i64.wrap (j : Int) = (j : Int) := by rw [IntKind.wrap_i64]; omega
  have w2 : IntKind.i64.wrap (t : Int) = (t : Int) := by rw [IntKind.wrap_i64]; omega
  have w3 : IntKind.i64.wrap (x : Int) = (x : Int) := by rw [IntKind.wrap_i64]; omega
  have b0 : (0 : Int) ≤ (j : Int) := by omega
  have b1 : (j : Int) < (n : Int) := by omega
  have ht8 : t < 8 := by omega
  clear h hc hx hl hj ht
  go_enter Try.func30, Try.ntmps30
  go_wp2_with fail
  go_loopw [5, 6] (fun s5 s6 wr => ∃ k : Nat, t ≤ k ∧ k ≤ 7 ∧ s6 = .int .i64 (k : Int) ∧ s5 = .int .i64 ((x / 2 ^ (k - t) : Nat) : Int) ∧ wr = w) (fun _ s6 _ => 7 - (intOf s6).toNat)
  case atStart => exact ⟨t, Nat.le_refl _, by omega, rfl, by rw [Nat.sub_self, Nat.pow_zero, Nat.div_one], rfl⟩
  case round =>
    obtain ⟨k, hk, hk7, rfl, rfl, rfl⟩ := hrel
    obtain ⟨y, hy⟩ : ∃ y, x / 2 ^ (k - t) = y := ⟨_, rfl⟩
    have hy9 : y ≤ x := by rw [← hy]; exact Nat.div_le_self _ _
    rw [hy]
    by_cases hlt : k < 7
    · have d3 : decide ((k : Int) < 7) = true := decide_eq_true (by omega)
      have d4 : (y : Int).tdiv 2 = ((y / 2 : Nat) : Int) := by rw [Int.tdiv_eq_ediv_of_nonneg (by omega)]; rfl
      have HN := Lib.hid (show y / 2 = x / 2 ^ (k + 1 - t) by rw [← hy, div_pow_step, show k - t + 1 = k + 1 - t by omega])
      obtain ⟨z, hz⟩ : ∃ z, y / 2 = z := ⟨_, rfl⟩
      have w4 : IntKind.i64.wrap (z : Int) = (z : Int) := by rw [IntKind.wrap_i64]; omega
      have f3 : (y : Int) / 2 = (z : Int) := by omega
      rw [hz] at d4 HN
      clear hy hz
      go_wp2_with fail
      go_roundw
      case rel => exact ⟨k + 1, by omega, by omega, by go_num, by rw [← HN.out], by first | rfl | trivial⟩
      case measure => simp [intOf]; omega
    · obtain rfl : k = 7 := by omega
      have d3 : decide ((7 : Int) < 7) = false := by decide
      have d4 : (y : Int).tmod 2 = ((y % 2 : Nat) : Int) := by rw [Int.tmod_eq_emod_of_nonneg (by omega)]; rfl
      rw [hy] at HV
      obtain ⟨z, hz⟩ : ∃ z, y % 2 = z := ⟨_, rfl⟩
      have hz2 : z < 2 := by omega
      have f3 : (y : Int) % 2 = (z : Int) := by omega
      rw [hz] at d4 HV
      have w4 : IntKind.i64.wrap (z : Int) = (z : Int) := by rw [IntKind.wrap_i64]; omega
      clear hy hz
      go_wp2_with fail
      go_ret
      exact ⟨by rw [HV.out]; rfl, rfl⟩
set_option maxRecDepth 100000 in
set_option maxHeartbeats 4000000 in
theorem rpow_any (n : Nat) (w : World) (hn : n ≤ 30) :
    Calls Try.prog 34 #[.int .i64 (n : Int)] w fun e w' => e = .returned (.int .i64 ((2 ^ n : Nat) : Int)) ∧ w' = w := by
  go_enter Try.func34, Try.ntmps34
  go_wp2_with fail
  go_loopw [3, 4] (fun s3 s4 wr => ∃ k : Nat, k ≤ n ∧ s4 = .int .i64 (k : Int) ∧ s3 = .int .i64 ((2 ^ k : Nat) : Int) ∧ wr = w) (fun _ s4 _ => n - (intOf s4).toNat)
  case atStart => exact ⟨0, by omega, rfl, rfl, rfl⟩
  case round =>
    obtain ⟨k, hk, rfl, rfl, rfl⟩ := hrel
    have hp : 2 ^ k ≤ 2 ^ 30 := Nat.pow_le_pow_right (by omega) (by omega)
    obtain ⟨p, hpe⟩ : ∃ p, 2 ^ k = p := ⟨_, rfl⟩
    have HN := Lib.hid (show 2 * p = 2 ^ (k + 1) by rw [Nat.pow_succ, hpe]; omega)
    rw [hpe] at hp
    have hp2 : p ≤ 1073741824 := hp
    by_cases hlt : k < n
    · have d3 : decide ((k : Int) < (n : Int)) = true := decide_eq_true (by omega)
      rw [hpe]
      have w4 : IntKind.i64.wrap (2 * (p : Int)) = ((2 * p : Nat) : Int) := by rw [IntKind.wrap_i64]; omega
      obtain ⟨z, hz⟩ : ∃ z, 2 * p = z := ⟨_, rfl⟩
      rw [hz] at w4 HN
      clear hpe hz hp
      go_wp2_with fail
      go_roundw
      case rel => exact ⟨k + 1, by omega, by go_num, by rw [← HN.out], by first | rfl | trivial⟩
      case measure => simp [intOf]; omega
    · obtain rfl : k = n := by omega
      have d3 : decide ((k : Int) < (k : Int)) = false := by simp
      have HPE := Lib.hid hpe
      rw [hpe]
      clear hpe hp
      go_wp2_with fail
      go_ret
      exact ⟨by rw [HPE.out]; rfl, rfl⟩
set_option maxRecDepth 100000 in
theorem rrow_any (H : Int) (W B C : Nat) (A : Option Addr) (n c P S : Nat) (w : World) (hP : W * C = P) (hS : (P * B + 7) / 8 = S) (h1 : P * B ≤ 10000000) (h2 : P ≤ 10000000) :
    Calls Try.prog 29 #[.agg #[.int .i64 (W : Int), .int .i64 H, .int .i64 (B : Int), .int .i64 (C : Int), .slice A n c]] w fun e w' => e = .returned (.int .i64 (S : Int)) ∧ Below w.heap.size w w' := by
  have HB := Lib.hid ((Below.refl w.heap.size w).alloc (Nat.le_refl _) (.cells #[.int .i64 (W : Int), .int .i64 H, .int .i64 (B : Int), .int .i64 (C : Int), .slice A n c] 24))
  obtain ⟨T, hT⟩ : ∃ T, P * B = T := ⟨_, rfl⟩
  rw [hT] at hS h1
  have e1 : IntKind.i64.wrap ((W : Int) * (C : Int)) = (P : Int) := by rw [← Int.natCast_mul, hP, IntKind.wrap_i64]; omega
  have e2 : IntKind.i64.wrap ((P : Int) * (B : Int)) = (T : Int) := by rw [← Int.natCast_mul, hT, IntKind.wrap_i64]; omega
  have e3 : IntKind.i64.wrap ((T : Int) + 7) = ((T + 7 : Nat) : Int) := by rw [IntKind.wrap_i64]; omega
  obtain ⟨U, hU⟩ : ∃ U, T + 7 = U := ⟨_, rfl⟩
  rw [hU] at e3 hS
  have d1 : (U : Int).tdiv 8 = (S : Int) := by rw [Int.tdiv_eq_ediv_of_nonneg (by omega)]; omega
  have f1 : (U : Int) / 8 = (S : Int) := by omega
  have e4 : IntKind.i64.wrap (S : Int) = (S : Int) := by rw [IntKind.wrap_i64]; omega
  clear hP hT hU hS
  go_enter Try.func29, Try.ntmps29
  go_wp2_with fail
  go_ret
  exact ⟨rfl, HB.out⟩
end Go.Proofs.Ytmleoagdelgddaa
/- raster's reference: Right, Samples. Written by gen_dd.py. -/
namespace Go.Proofs.Ytmleoagdelgddaa
open Go.RowKit Dec

set_option maxRecDepth 100000 in
set_option maxHeartbeats 4000000 in
theorem rright_bad (W H B C : Int) (A : Option Addr) (n c : Nat) (w : World) (hF : fmtB W H B C = false) :
    Calls Try.prog 18 #[.agg #[.int .i64 W, .int .i64 H, .int .i64 B, .int .i64 C, .slice A n c]] w fun e w' => e = .returned (.bool false) ∧ Below w.heap.size w w' := by
  have HF := Lib.hid (fun w => shape_any W H B C A n c w)
  rw [hF] at HF
  have HW := Lib.hid (Whole.made w 24 #[.int .i64 W, .int .i64 H, .int .i64 B, .int .i64 C, .slice A n c])
  have HV := (Below.refl w.heap.size w).alloc (Nat.le_refl _) (.cells #[.int .i64 W, .int .i64 H, .int .i64 B, .int .i64 C, .slice A n c] 24)
  clear hF
  go_enter Try.func18, Try.ntmps18
  go_wp2_with fail
  generalize hW0 : w.alloc (.cells #[.int .i64 W, .int .i64 H, .int .i64 B, .int .i64 C, .slice A n c] 24) = W0 at *
  have lI := HW.out.lt
  have HC : Hid (∀ v, Below W0.heap.size W0 v → (fun v => (v.cell? ⟨w.heap.size, 0, none⟩ = some (.int .i64 W) ∧ v.cell? ⟨w.heap.size, 1, none⟩ = some (.int .i64 H) ∧ v.cell? ⟨w.heap.size, 2, none⟩ = some (.int .i64 B) ∧ v.cell? ⟨w.heap.size, 3, none⟩ = some (.int .i64 C) ∧ v.cell? ⟨w.heap.size, 4, none⟩ = some (.slice A n c)) ∧ Below W0.heap.size W0 v) v) := Lib.hid (fun v k => ⟨img_cells (HW.out.here k), k⟩)
  have hS := HC.out W0.drew ((Below.refl W0.heap.size W0).drew)
  refine wp_region_C (fun v => (v.cell? ⟨w.heap.size, 0, none⟩ = some (.int .i64 W) ∧ v.cell? ⟨w.heap.size, 1, none⟩ = some (.int .i64 H) ∧ v.cell? ⟨w.heap.size, 2, none⟩ = some (.int .i64 B) ∧ v.cell? ⟨w.heap.size, 3, none⟩ = some (.int .i64 C) ∧ v.cell? ⟨w.heap.size, 4, none⟩ = some (.slice A n c)) ∧ Below W0.heap.size W0 v) (by kernel_rfl) ?_
  refine wpAnyC_take (i := 0) (v := .agg #[.int .i64 W, .int .i64 H, .int .i64 B, .int .i64 C, .slice A n c]) rfl (by kernel_rfl) (fun _ _ _ h => h) (Or.inl ⟨by rfl, ?y1⟩) hS ?r1
  case y1 => rintro wq ⟨⟨c0, c1, c2, c3, c4⟩, -⟩; go_simp; all_goals (first | with_reducible rfl | (simp only []; done) | (simp []; done) | (simp; omega) | skip)
  try simp only [Act.put, List.setIfInBounds_toArray, List.set_cons_zero, List.set_cons_succ]
  refine wpAnyC_one (j := 1) (by kernel_rfl) rfl (fun K hK => ?_)
  go_simp
  go_at_call 26
  refine (HF.out _).mono ?_
  rintro e V ⟨rfl, kk⟩
  have hbv : Below W0.heap.size W0 V := ((Below.refl W0.heap.size W0).drew).trans kk
  have hS := HC.out V hbv
  clear kk
  go_wp2_with fail
  refine hK.out _ _ ⟨hS, ?_⟩
  clear hK K
  try simp only [Act.put, List.setIfInBounds_toArray, List.set_cons_zero, List.set_cons_succ]
  refine wpAnyC_take (i := 2) (v := .bool false) rfl (by kernel_rfl) (fun _ _ _ h => h) (Or.inl ⟨by rfl, ?y2⟩) hS ?r2
  case y2 => intro wq _; go_simp; all_goals (first | with_reducible rfl | (simp only []; done) | (simp []; done) | (simp; omega) | skip)
  try simp only [Act.put, List.setIfInBounds_toArray, List.set_cons_zero, List.set_cons_succ]
  refine wpAnyC_take (i := 3) (v := undef) rfl (by kernel_rfl) (fun _ _ _ h => h) (Or.inr ⟨by rfl, rfl⟩) hS ?r3
  try simp only [Act.put, List.setIfInBounds_toArray, List.set_cons_zero, List.set_cons_succ]
  refine wpAnyC_take (i := 4) (v := undef) rfl (by kernel_rfl) (fun _ _ _ h => h) (Or.inr ⟨by rfl, rfl⟩) hS ?r4
  try simp only [Act.put, List.setIfInBounds_toArray, List.set_cons_zero, List.set_cons_succ]
  refine wpAnyC_take (i := 5) (v := undef) rfl (by kernel_rfl) (fun _ _ _ h => h) (Or.inr ⟨by rfl, rfl⟩) hS ?r5
  try simp only [Act.put, List.setIfInBounds_toArray, List.set_cons_zero, List.set_cons_succ]
  refine wpAnyC_take (i := 6) (v := undef) rfl (by kernel_rfl) (fun _ _ _ h => h) (Or.inr ⟨by rfl, rfl⟩) hS ?r6
  try simp only [Act.put, List.setIfInBounds_toArray, List.set_cons_zero, List.set_cons_succ]
  refine wpAnyC_take (i := 7) (v := undef) rfl (by kernel_rfl) (fun _ _ _ h => h) (Or.inr ⟨by rfl, rfl⟩) hS ?r7
  try simp only [Act.put, List.setIfInBounds_toArray, List.set_cons_zero, List.set_cons_succ]
  refine wpAnyC_take (i := 8) (v := undef) rfl (by kernel_rfl) (fun _ _ _ h => h) (Or.inr ⟨by rfl, rfl⟩) hS ?r8
  try simp only [Act.put, List.setIfInBounds_toArray, List.set_cons_zero, List.set_cons_succ]
  refine wpAnyC_take (i := 9) (v := undef) rfl (by kernel_rfl) (fun _ _ _ h => h) (Or.inr ⟨by rfl, rfl⟩) hS ?r9
  try simp only [Act.put, List.setIfInBounds_toArray, List.set_cons_zero, List.set_cons_succ]
  refine wpAnyC_take (i := 10) (v := undef) rfl (by kernel_rfl) (fun _ _ _ h => h) (Or.inr ⟨by rfl, rfl⟩) hS ?r10
  try simp only [Act.put, List.setIfInBounds_toArray, List.set_cons_zero, List.set_cons_succ]
  refine wpAnyC_take (i := 11) (v := undef) rfl (by kernel_rfl) (fun _ _ _ h => h) (Or.inr ⟨by rfl, rfl⟩) hS ?r11
  try simp only [Act.put, List.setIfInBounds_toArray, List.set_cons_zero, List.set_cons_succ]
  refine wpAnyC_take (i := 12) (v := .bool false) rfl (by kernel_rfl) (fun _ _ _ h => h) (Or.inl ⟨by rfl, ?y12⟩) hS ?r12
  case y12 => intro wq _; go_simp; all_goals (first | with_reducible rfl | (simp only []; done) | (simp []; done) | (simp; omega) | skip)
  try simp only [Act.put, List.setIfInBounds_toArray, List.set_cons_zero, List.set_cons_succ]
  refine wpAnyC_take (i := 13) (v := .bool false) rfl (by kernel_rfl) (fun _ _ _ h => h) (Or.inl ⟨by rfl, ?y13⟩) hS ?r13
  case y13 => intro wq _; go_simp; all_goals (first | with_reducible rfl | (simp only []; done) | (simp []; done) | (simp; omega) | skip)
  try simp only [Act.put, List.setIfInBounds_toArray, List.set_cons_zero, List.set_cons_succ]
  refine wpAnyC_done (by kernel_rfl) ?_ _
  go_wp2_with fail
  go_ret
  exact ⟨rfl, HV.trans (hS.2.mono HV.size)⟩
set_option maxRecDepth 100000 in
set_option maxHeartbeats 4000000 in
theorem rright_fmt (W H B C : Nat) (A : Option Addr) (n c P S : Nat) (w : World) (hF : fmtB (W : Int) (H : Int) (B : Int) (C : Int) = true) (hP : W * C = P) (hS : (P * B + 7) / 8 = S) (hb : P * B ≤ 10000000) (hb2 : P ≤ 10000000) (hHS : H * S ≤ 1000000000) (b : Bool) (hn : decide (n = H * S) = b) :
    Calls Try.prog 18 #[.agg #[.int .i64 (W : Int), .int .i64 (H : Int), .int .i64 (B : Int), .int .i64 (C : Int), .slice A n c]] w fun e w' => e = .returned (.bool b) ∧ Below w.heap.size w w' := by
  have HF := Lib.hid (fun w => shape_any (W : Int) (H : Int) (B : Int) (C : Int) A n c w)
  rw [hF] at HF
  have HR := Lib.hid (fun w => rrow_any (H : Int) W B C A n c P S w hP hS hb hb2)
  obtain ⟨G, hG⟩ : ∃ G, H * S = G := ⟨_, rfl⟩
  rw [hG] at hHS hn
  have e1 : IntKind.i64.wrap ((S : Int) * (H : Int)) = (G : Int) := by rw [← Int.natCast_mul, Nat.mul_comm, hG, IntKind.wrap_i64]; omega
  have HW := Lib.hid (Whole.made w 24 #[.int .i64 (W : Int), .int .i64 (H : Int), .int .i64 (B : Int), .int .i64 (C : Int), .slice A n c])
  have HV := (Below.refl w.heap.size w).alloc (Nat.le_refl _) (.cells #[.int .i64 (W : Int), .int .i64 (H : Int), .int .i64 (B : Int), .int .i64 (C : Int), .slice A n c] 24)
  have hk : (b = true ∧ n = G) ∨ (b = false ∧ ¬ n = G ∧ ((n : Int) == (G : Int)) = false) := by
    cases b
    · exact .inr ⟨rfl, of_decide_eq_false hn, beq_false_of_ne (by have := of_decide_eq_false hn; omega)⟩
    · exact .inl ⟨rfl, of_decide_eq_true hn⟩
  clear hF hS hG hn hb hb2
  rcases hk with ⟨rfl, rfl⟩ | ⟨rfl, hk, hk2⟩
  all_goals
    go_enter Try.func18, Try.ntmps18
    go_wp2_with fail
    generalize hW0 : w.alloc (.cells #[.int .i64 (W : Int), .int .i64 (H : Int), .int .i64 (B : Int), .int .i64 (C : Int), .slice A n c] 24) = W0 at *
    have HK := Below.refl W0.heap.size W0
    have lI := HW.out.lt
    go_region_held3 (fun v => v.cell? ⟨w.heap.size, 0, none⟩ = some (.int .i64 (W : Int)) ∧ v.cell? ⟨w.heap.size, 1, none⟩ = some (.int .i64 (H : Int)) ∧ v.cell? ⟨w.heap.size, 2, none⟩ = some (.int .i64 (B : Int)) ∧ v.cell? ⟨w.heap.size, 3, none⟩ = some (.int .i64 (C : Int)) ∧ v.cell? ⟨w.heap.size, 4, none⟩ = some (.slice A n c))
      (first | with_reducible exact img_cells (HW.out.here HK) | with_reducible exact img_cells (HW.out.here (Below.drew HK)))
      (first
        | (go_at_call 26; (with_reducible refine (HF.out _).mono ?_); rintro x v ⟨rfl, kk⟩; have HK := (Below.drew HK).trans (kk.mono (Below.drew HK).size))
        | (go_at_call 29; (with_reducible refine (HR.out _).mono ?_); rintro x v ⟨rfl, kk⟩; have HK := HK.trans (kk.mono HK.size)))
    all_goals
      go_wp2_with fail
      go_ret
      exact ⟨rfl, HV.trans (HK.mono HV.size)⟩
theorem rright22_any (W H B C : Int) (A : Option Addr) (n c : Nat) (w : World) :
    Calls Try.prog 18 #[.agg #[.int .i64 W, .int .i64 H, .int .i64 B, .int .i64 C, .slice A n c]] w fun e w' => e = .returned (.bool (chkB W H B C n)) ∧ Below w.heap.size w w' := by
  cases hF : fmtB W H B C
  · have hk : chkB W H B C n = false := by unfold chkB; rw [hF]; rfl
    rw [hk]
    exact rright_bad W H B C A n c w hF
  · obtain ⟨W', H', B', C', P, S, hf⟩ := fmt_n hF
    obtain ⟨rfl, rfl, rfl, rfl⟩ := hf.eq
    have hk : chkB (W' : Int) (H' : Int) (B' : Int) (C' : Int) n = decide (n = H' * S) := by
      unfold chkB
      rw [hF, Bool.true_and, Int.toNat_natCast, Int.toNat_natCast, Int.toNat_natCast, hf.rs, ← Int.natCast_mul]
      exact decide_eq_decide.2 ⟨fun h => by omega, fun h => by omega⟩
    rw [hk]
    exact rright_fmt W' H' B' C' A n c P S w hF hf.p hf.s (by have := hf.pb; omega) (by have := hf.p2; omega) (by have := hf.hs; omega) _ rfl
end Go.Proofs.Ytmleoagdelgddaa
