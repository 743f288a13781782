/- raster: an image's format and sizes. -/
import Derived.Test.YtmleoagdelgddaaRasL
import Derived.Test.YtmleoagdelgddaaByteRow
namespace Go.Proofs.Ytmleoagdelgddaa
open Go.RowKit Dec

/-- May a sample have so many bits? -/
def bitsB (B : Int) : Bool := decide (B = 1 ∨ B = 2 ∨ B = 4 ∨ B = 8 ∨ B = 16)
set_option maxRecDepth 100000 in
theorem isBits_any (B : Int) (w : World) : Calls Try.prog 49 #[.int .i64 B] w fun e w' => e = .returned (.bool (bitsB B)) ∧ w = w' := by
  have k : (B = 1 ∧ bitsB B = true) ∨ (B = 2 ∧ bitsB B = true) ∨ (B = 4 ∧ bitsB B = true) ∨ (B = 8 ∧ bitsB B = true) ∨ (B = 16 ∧ bitsB B = true) ∨ ((B == 1) = false ∧ (B == 2) = false ∧ (B == 4) = false ∧ (B == 8) = false ∧ (B == 16) = false ∧ bitsB B = false) := by
    unfold bitsB
    by_cases h1 : B = 1
    · exact .inl ⟨h1, decide_eq_true (.inl h1)⟩
    by_cases h2 : B = 2
    · exact .inr (.inl ⟨h2, decide_eq_true (.inr (.inl h2))⟩)
    by_cases h4 : B = 4
    · exact .inr (.inr (.inl ⟨h4, decide_eq_true (.inr (.inr (.inl h4)))⟩))
    by_cases h8 : B = 8
    · exact .inr (.inr (.inr (.inl ⟨h8, decide_eq_true (.inr (.inr (.inr (.inl h8))))⟩)))
    by_cases h16 : B = 16
    · exact .inr (.inr (.inr (.inr (.inl ⟨h16, decide_eq_true (.inr (.inr (.inr (.inr h16))))⟩))))
    exact .inr (.inr (.inr (.inr (.inr ⟨beq_false_of_ne h1, beq_false_of_ne h2, beq_false_of_ne h4, beq_false_of_ne h8, beq_false_of_ne h16, decide_eq_false (fun h => by omega)⟩))))
  rcases k with ⟨rfl, h⟩ | ⟨rfl, h⟩ | ⟨rfl, h⟩ | ⟨rfl, h⟩ | ⟨rfl, h⟩ | ⟨h1, h2, h3, h4, h5, h⟩
  all_goals
    have H := Lib.hid h
    clear h
    go_enter Try.func49, Try.ntmps49
    go_wp2
    go_ret
    exact ⟨by rw [H.out]; rfl, rfl⟩
/-- May an image be so? -/
def fmtB (W H B C : Int) : Bool := (sizeB W H && bitsB B) && (decide (1 ≤ C) && decide (C ≤ 4))
set_option maxRecDepth 100000 in
set_option maxHeartbeats 4000000 in
theorem hasFormat_any (W H B C : Int) (A : Option Addr) (n c : Nat) (w : World) :
    Calls Try.prog 31 #[.agg #[.int .i64 W, .int .i64 H, .int .i64 B, .int .i64 C, .slice A n c]] w fun e w' => e = .returned (.bool (fmtB W H B C)) ∧ Below w.heap.size w w' := by
  have HS := Lib.hid (fun w => isSize_any W H w)
  have HT := Lib.hid (fun w => isBits_any B w)
  have HB := Lib.hid ((Below.refl w.heap.size w).alloc (Nat.le_refl _) (.cells #[.int .i64 W, .int .i64 H, .int .i64 B, .int .i64 C, .slice A n c] 24))
  cases hs : sizeB W H
  · have HF := Lib.hid (show fmtB W H B C = false by unfold fmtB; rw [hs]; rfl)
    rw [hs] at HS
    clear hs
    go_enter Try.func31, Try.ntmps31
    go_wp2_with fail
    refine (HS.out _).mono ?_
    rintro e w1 ⟨rfl, rfl⟩
    go_wp2_with fail
    go_ret
    exact ⟨by rw [HF.out]; rfl, HB.out⟩
  · cases ht : bitsB B
    · have HF := Lib.hid (show fmtB W H B C = false by unfold fmtB; rw [hs, ht]; rfl)
      rw [hs] at HS
      rw [ht] at HT
      clear hs ht
      go_enter Try.func31, Try.ntmps31
      go_wp2_with fail
      refine (HS.out _).mono ?_
      rintro e w1 ⟨rfl, rfl⟩
      go_wp2_with fail
      refine (HT.out _).mono ?_
      rintro e w1 ⟨rfl, rfl⟩
      go_wp2_with fail
      go_ret
      exact ⟨by rw [HF.out]; rfl, HB.out⟩
    · obtain ⟨a, ha⟩ : ∃ a, decide (1 ≤ C) = a := ⟨_, rfl⟩
      obtain ⟨b, hb⟩ : ∃ b, decide (C ≤ 4) = b := ⟨_, rfl⟩
      have HF := Lib.hid (show fmtB W H B C = (a && b) by unfold fmtB; rw [hs, ht, ha, hb]; rfl)
      rw [hs] at HS
      rw [ht] at HT
      clear hs ht
      cases a
      all_goals
        go_enter Try.func31, Try.ntmps31
        go_wp2_with fail
        refine (HS.out _).mono ?_
        rintro e w1 ⟨rfl, rfl⟩
        go_wp2_with fail
        refine (HT.out _).mono ?_
        rintro e w1 ⟨rfl, rfl⟩
        go_wp2_with fail
        go_ret
        exact ⟨by rw [HF.out]; rfl, HB.out⟩
set_option maxRecDepth 100000 in
theorem perRow_any (W H B C : Int) (A : Option Addr) (n c : Nat) (P : Int) (w : World) (hP : IntKind.i64.wrap (W * C) = P) :
    Calls Try.prog 27 #[.agg #[.int .i64 W, .int .i64 H, .int .i64 B, .int .i64 C, .slice A n c]] w fun e w' => e = .returned (.int .i64 P) ∧ Below w.heap.size w w' := by
  go_enter Try.func27, Try.ntmps27
  go_wp2
  go_ret
  exact ⟨rfl, (Below.refl _ _).alloc (Nat.le_refl _) _⟩
/-- The cells of an image. -/
theorem img_cells {v : World} {g : Nat} {T : TypeId} {a b c d e : Value} (h : Whole v g T #[a, b, c, d, e]) : v.cell? ⟨g, 0, none⟩ = some a ∧ v.cell? ⟨g, 1, none⟩ = some b ∧ v.cell? ⟨g, 2, none⟩ = some c ∧ v.cell? ⟨g, 3, none⟩ = some d ∧ v.cell? ⟨g, 4, none⟩ = some e := ⟨h.reads 0, h.reads 1, h.reads 2, h.reads 3, h.reads 4⟩
set_option maxRecDepth 100000 in
set_option maxHeartbeats 4000000 in
theorem rowSize_any (H : Int) (W B C : Nat) (A : Option Addr) (n c : Nat) (w : World) (hb : W * C * B ≤ 10000000) (hb2 : W * C ≤ 10000000) :
    Calls Try.prog 32 #[.agg #[.int .i64 (W : Int), .int .i64 H, .int .i64 (B : Int), .int .i64 (C : Int), .slice A n c]] w fun e w' => e = .returned (.int .i64 (((W * C * B + 7) / 8 : Nat) : Int)) ∧ Below w.heap.size w w' := by
  obtain ⟨P, hP⟩ : ∃ P, W * C = P := ⟨_, rfl⟩
  obtain ⟨Q, hQ⟩ : ∃ Q, P * B = Q := ⟨_, rfl⟩
  rw [hP, hQ] at hb
  rw [hP] at hb2
  rw [hP, hQ]
  have HP := Lib.hid (fun w => perRow_any (W : Int) H (B : Int) (C : Int) A n c (P : Int) w (by rw [← Int.natCast_mul, hP, IntKind.wrap_i64]; omega))
  have m1 : IntKind.i64.wrap ((P : Int) * (B : Int)) = (Q : Int) := by rw [← Int.natCast_mul, hQ, IntKind.wrap_i64]; omega
  have m2 : IntKind.i64.wrap ((Q : Int) + 8) = (Q : Int) + 8 := by rw [IntKind.wrap_i64]; omega
  have m3 : IntKind.i64.wrap ((Q : Int) + 8 - 1) = (Q : Int) + 7 := by rw [IntKind.wrap_i64]; omega
  have m4 : ((Q : Int) + 7).tdiv 8 = (((Q + 7) / 8 : Nat) : Int) := by rw [Int.tdiv_eq_ediv_of_nonneg (by omega)]; omega
  have m5 : IntKind.i64.wrap (((Q + 7) / 8 : Nat) : Int) = (((Q + 7) / 8 : Nat) : Int) := by rw [IntKind.wrap_i64]; omega
  have HW := Lib.hid (Whole.made w 24 #[.int .i64 (W : Int), .int .i64 H, .int .i64 (B : Int), .int .i64 (C : Int), .slice A n c])
  have HV := (Below.refl w.heap.size w).alloc (Nat.le_refl _) (.cells #[.int .i64 (W : Int), .int .i64 H, .int .i64 (B : Int), .int .i64 (C : Int), .slice A n c] 24)
  clear hP hQ
  go_enter Try.func32, Try.ntmps32
  go_wp2_with fail
  generalize hW0 : w.alloc (.cells #[.int .i64 (W : Int), .int .i64 H, .int .i64 (B : Int), .int .i64 (C : Int), .slice A n c] 24) = W0 at *
  have HK := Below.refl W0.heap.size W0
  have lI := HW.out.lt
  go_region_held3 (fun v => v.cell? ⟨w.heap.size, 0, none⟩ = some (.int .i64 (W : Int)) ∧ v.cell? ⟨w.heap.size, 1, none⟩ = some (.int .i64 H) ∧ v.cell? ⟨w.heap.size, 2, none⟩ = some (.int .i64 (B : Int)) ∧ v.cell? ⟨w.heap.size, 3, none⟩ = some (.int .i64 (C : Int)) ∧ v.cell? ⟨w.heap.size, 4, none⟩ = some (.slice A n c))
    (first | with_reducible exact img_cells (HW.out.here HK) | with_reducible exact img_cells (HW.out.here (Below.drew HK)))
    ((go_at_call 27; (with_reducible refine (HP.out _).mono ?_); rintro x v ⟨rfl, kk⟩; have HK := (Below.drew HK).trans kk))
  all_goals
    go_wp2_with fail
    go_ret
    refine ⟨?_, HV.trans (HK.mono HV.size)⟩
    show Ending.returned (.int .i64 (IntKind.i64.wrap (((Q : Int) + 7) / 8))) = _
    rw [show ((Q : Int) + 7) / 8 = (((Q + 7) / 8 : Nat) : Int) from by omega, m5]
end Go.Proofs.Ytmleoagdelgddaa
/- raster: where a sample lies. -/
namespace Go.Proofs.Ytmleoagdelgddaa
open Go.RowKit Dec

set_option maxRecDepth 100000 in
set_option maxHeartbeats 4000000 in
theorem place_any (H : Int) (W B C i P S : Nat) (A : Option Addr) (n c : Nat) (w : World) (hP : W * C = P) (hS : (P * B + 7) / 8 = S) (h0 : 0 < P) (hb : P * B ≤ 10000000) (hb2 : P ≤ 10000000) (hi : i ≤ 10000000) (hr : i / P * S ≤ 1000000000) (hB : B ≤ 16) :
    Calls Try.prog 50 #[.agg #[.int .i64 (W : Int), .int .i64 H, .int .i64 (B : Int), .int .i64 (C : Int), .slice A n c], .int .i64 (i : Int)] w fun e w' => e = .returned (.tuple #[.int .i64 ((i / P * S + i % P * B / 8 : Nat) : Int), .int .i64 (8 - (B : Int) - ((i % P * B % 8 : Nat) : Int))]) ∧ Below w.heap.size w w' := by
  have HP := Lib.hid (fun w => perRow_any (W : Int) H (B : Int) (C : Int) A n c (P : Int) w (by rw [← Int.natCast_mul, hP, IntKind.wrap_i64]; omega))
  have HR := Lib.hid (fun w => rowSize_any H W B C A n c w (by rw [hP]; exact hb) (by rw [hP]; exact hb2))
  rw [hP, hS] at HR
  have hm : i % P < P := Nat.mod_lt _ h0
  have hmb : i % P * B ≤ 10000000 := Nat.le_trans (Nat.mul_le_mul_right _ (Nat.le_of_lt hm)) hb
  obtain ⟨R, hR⟩ : ∃ R, i / P = R := ⟨_, rfl⟩
  obtain ⟨K, hK⟩ : ∃ K, i % P = K := ⟨_, rfl⟩
  obtain ⟨F, hF⟩ : ∃ F, K * B = F := ⟨_, rfl⟩
  have hRi : R ≤ i := by rw [← hR]; exact Nat.div_le_self _ _
  rw [hR] at hr
  rw [hK, hF] at hmb
  rw [hK] at hm
  obtain ⟨G, hG⟩ : ∃ G, R * S = G := ⟨_, rfl⟩
  rw [hG] at hr
  rw [hR, hK, hF, hG]
  have d1 : (i : Int).tdiv (P : Int) = (R : Int) := by rw [Int.tdiv_eq_ediv_of_nonneg (by omega), ← hR]; rfl
  have d2 : (i : Int).tmod (P : Int) = (K : Int) := by rw [Int.tmod_eq_emod_of_nonneg (by omega), ← hK]; rfl
  have d3 : (F : Int).tdiv 8 = ((F / 8 : Nat) : Int) := by rw [Int.tdiv_eq_ediv_of_nonneg (by omega)]; rfl
  have d4 : (F : Int).tmod 8 = ((F % 8 : Nat) : Int) := by rw [Int.tmod_eq_emod_of_nonneg (by omega)]; rfl
  have e1 : IntKind.i64.wrap ((K : Int) * (B : Int)) = (F : Int) := by rw [← Int.natCast_mul, hF, IntKind.wrap_i64]; omega
  have e2 : IntKind.i64.wrap ((R : Int) * (S : Int)) = (G : Int) := by rw [← Int.natCast_mul, hG, IntKind.wrap_i64]; omega
  have e3 : IntKind.i64.wrap (R : Int) = (R : Int) := by rw [IntKind.wrap_i64]; omega
  have e4 : IntKind.i64.wrap (K : Int) = (K : Int) := by rw [IntKind.wrap_i64]; omega
  have e5 : IntKind.i64.wrap (((F / 8 : Nat) : Int)) = ((F / 8 : Nat) : Int) := by rw [IntKind.wrap_i64]; omega
  have e6 : IntKind.i64.wrap (((F % 8 : Nat) : Int)) = ((F % 8 : Nat) : Int) := by rw [IntKind.wrap_i64]; omega
  have e7 : IntKind.i64.wrap ((G : Int) + ((F / 8 : Nat) : Int)) = ((G + F / 8 : Nat) : Int) := by rw [IntKind.wrap_i64]; omega
  have e8 : IntKind.i64.wrap (8 - (B : Int)) = 8 - (B : Int) := by rw [IntKind.wrap_i64]; omega
  have e9 : IntKind.i64.wrap (8 - (B : Int) - ((F % 8 : Nat) : Int)) = 8 - (B : Int) - ((F % 8 : Nat) : Int) := by rw [IntKind.wrap_i64]; omega
  have hP0 : ¬ (P : Int) = 0 := by omega
  have hP1 : ¬ P = 0 := by omega
  obtain ⟨Y, hY⟩ : ∃ Y, F / 8 = Y := ⟨_, rfl⟩
  obtain ⟨Z, hZ⟩ : ∃ Z, F % 8 = Z := ⟨_, rfl⟩
  rw [hY] at d3 e5 e7
  rw [hZ] at d4 e6 e9
  rw [hY, hZ]
  have f3 : (F : Int) / 8 = (Y : Int) := by omega
  have f4 : (F : Int) % 8 = (Z : Int) := by omega
  have HW := Lib.hid (Whole.made w 24 #[.int .i64 (W : Int), .int .i64 H, .int .i64 (B : Int), .int .i64 (C : Int), .slice A n c])
  have HV := (Below.refl w.heap.size w).alloc (Nat.le_refl _) (.cells #[.int .i64 (W : Int), .int .i64 H, .int .i64 (B : Int), .int .i64 (C : Int), .slice A n c] 24)
  clear hP hS hR hK hF hG hY hZ hm
  go_enter Try.func50, Try.ntmps50
  go_wp2_with fail
  generalize hW0 : w.alloc (.cells #[.int .i64 (W : Int), .int .i64 H, .int .i64 (B : Int), .int .i64 (C : Int), .slice A n c] 24) = W0 at *
  have HK := Below.refl W0.heap.size W0
  have lI := HW.out.lt
  go_region_held3 (fun v => v.cell? ⟨w.heap.size, 0, none⟩ = some (.int .i64 (W : Int)) ∧ v.cell? ⟨w.heap.size, 1, none⟩ = some (.int .i64 H) ∧ v.cell? ⟨w.heap.size, 2, none⟩ = some (.int .i64 (B : Int)) ∧ v.cell? ⟨w.heap.size, 3, none⟩ = some (.int .i64 (C : Int)) ∧ v.cell? ⟨w.heap.size, 4, none⟩ = some (.slice A n c))
    (first | with_reducible exact img_cells (HW.out.here HK) | with_reducible exact img_cells (HW.out.here (Below.drew HK)))
    (first
      | (go_at_call 27; (with_reducible refine (HP.out _).mono ?_); rintro x v ⟨rfl, kk⟩; have HK := (Below.drew HK).trans kk)
      | (go_at_call 27; (with_reducible refine (HP.out _).mono ?_); rintro x v ⟨rfl, kk⟩; have HK := HK.trans (kk.mono HK.size)))
  all_goals
    go_wp2_with fail
    go_region_held3 (fun v => v.cell? ⟨w.heap.size, 0, none⟩ = some (.int .i64 (W : Int)) ∧ v.cell? ⟨w.heap.size, 1, none⟩ = some (.int .i64 H) ∧ v.cell? ⟨w.heap.size, 2, none⟩ = some (.int .i64 (B : Int)) ∧ v.cell? ⟨w.heap.size, 3, none⟩ = some (.int .i64 (C : Int)) ∧ v.cell? ⟨w.heap.size, 4, none⟩ = some (.slice A n c))
      (first | with_reducible exact img_cells (HW.out.here HK) | with_reducible exact img_cells (HW.out.here (Below.drew HK)))
      (first
        | (go_at_call 32; (with_reducible refine (HR.out _).mono ?_); rintro x v ⟨rfl, kk⟩; have HK := (Below.drew HK).trans (kk.mono (Below.drew HK).size)))
    all_goals
      go_wp2_with fail
      go_ret2
      exact ⟨rfl, HV.trans (HK.mono HV.size)⟩
end Go.Proofs.Ytmleoagdelgddaa
/- raster: a sample. -/
namespace Go.Proofs.Ytmleoagdelgddaa
open Go.RowKit Dec

theorem bdrewNr {n : Nat} {u w : World} (h : Below n u w) (k : Nat) : Below n u (w.drewN k) := ⟨h.os, h.tape, h.output, h.size, h.block⟩
theorem two_pow_cast (k : Nat) : ((2 : Int) ^ k) = ((2 ^ k : Nat) : Int) := by rw [Int.natCast_pow]; rfl
set_option maxRecDepth 100000 in
set_option maxHeartbeats 4000000 in
theorem getlow_any (H : Int) (W B C i P S : Nat) (A : Option Addr) (n c : Nat) (bs : List Nat) (w : World) (hA : Bytes w A n c bs) (hP : W * C = P) (hS : (P * B + 7) / 8 = S) (h0 : 0 < P) (hb : P * B ≤ 10000000) (hb2 : P ≤ 10000000) (hi : i ≤ 10000000) (hr : i / P * S ≤ 1000000000) (hB : B ≤ 16)
    (K : Nat) (hK : i / P * S + i % P * B / 8 = K) (Z : Nat) (hZ : i % P * B % 8 = Z) (s : Nat) (hs : B + Z + s = 8) (hKn : K < n) (x : Nat) (hx : bs[K]? = some x) :
    Calls Try.prog 48 #[.agg #[.int .i64 (W : Int), .int .i64 H, .int .i64 (B : Int), .int .i64 (C : Int), .slice A n c], .int .i64 (i : Int)] w fun e w' => e = .returned (.int .i64 ((x / 2 ^ s % 2 ^ B : Nat) : Int)) ∧ Below w.heap.size w w' := by
  have HP := Lib.hid (fun w => place_any H W B C i P S A n c w hP hS h0 hb hb2 hi hr hB)
  rw [hK, hZ, show 8 - (B : Int) - (Z : Int) = (s : Int) from by omega] at HP
  have hx9 : x < 256 := hA.byte x (List.mem_of_getElem? hx)
  have hn0 := hA.cap
  have hn1 := hA.top
  have q1 : (x : Int) / 2 ^ s = ((x / 2 ^ s : Nat) : Int) := by rw [two_pow_cast]; rfl
  obtain ⟨X, hX⟩ : ∃ X, x / 2 ^ s = X := ⟨_, rfl⟩
  have hXl : X ≤ x := by rw [← hX]; exact Nat.div_le_self _ _
  rw [hX] at q1
  have hM0 : 0 < 2 ^ B := Nat.two_pow_pos B
  have hM1 : 2 ^ B ≤ 256 := by
    have : 2 ^ B ≤ 2 ^ 8 := Nat.pow_le_pow_right (by omega) (by omega)
    omega
  have q2 : (2 : Int) ^ B = ((2 ^ B : Nat) : Int) := two_pow_cast B
  obtain ⟨M, hM⟩ : ∃ M, 2 ^ B = M := ⟨_, rfl⟩
  rw [hM] at q2 hM0 hM1
  rw [hX, hM]
  have q3 : (X : Int).tmod (M : Int) = ((X % M : Nat) : Int) := by rw [Int.tmod_eq_emod_of_nonneg (by omega)]; rfl
  obtain ⟨Y, hY⟩ : ∃ Y, X % M = Y := ⟨_, rfl⟩
  have hYl : Y < M := by rw [← hY]; exact Nat.mod_lt _ hM0
  rw [hY] at q3 ⊢
  have q4 : IntKind.i64.wrap (Y : Int) = (Y : Int) := by rw [IntKind.wrap_i64]; omega
  have q5 : IntKind.i64.wrap (M : Int) = (M : Int) := by rw [IntKind.wrap_i64]; omega
  have q6 : IntKind.i64.wrap (X : Int) = (X : Int) := by rw [IntKind.wrap_i64]; omega
  have q7 : IntKind.i64.wrap (x : Int) = (x : Int) := by rw [IntKind.wrap_i64]; omega
  have hM9 : ¬ (M : Int) = 0 := by omega
  have hM8 : ¬ M = 0 := by omega
  have HW := Lib.hid (Whole.made w 24 #[.int .i64 (W : Int), .int .i64 H, .int .i64 (B : Int), .int .i64 (C : Int), .slice A n c])
  have HV := (Below.refl w.heap.size w).alloc (Nat.le_refl _) (.cells #[.int .i64 (W : Int), .int .i64 H, .int .i64 (B : Int), .int .i64 (C : Int), .slice A n c] 24)
  have HX := Lib.hid hA
  have hsB : s ≤ 8 ∧ B ≤ 8 := by omega
  clear hX hM hY hK hZ hP hS hb hb2 hi hr h0
  go_enter Try.func48, Try.ntmps48
  go_wp2_with fail
  generalize hW0 : w.alloc (.cells #[.int .i64 (W : Int), .int .i64 H, .int .i64 (B : Int), .int .i64 (C : Int), .slice A n c] 24) = W0 at *
  have lI := HW.out.lt
  refine (HP.out _).mono ?_
  rintro e v ⟨rfl, kk⟩
  have HK := Lib.hid (HV.trans (kk.mono HV.size))
  have hcells := img_cells (HW.out.here kk)
  have hsv := kk.size
  obtain ⟨R, q, rfl, hR, hcell⟩ := (HX.out.below HK.out).at_ (by omega)
  have hc := hcell K x hx
  clear hcell hx hA
  obtain ⟨c0, c1, c2, c3, c4⟩ := hcells
  go_wp2_with fail
  go_quiet (fail)
  all_goals
    go_wp2_with fail
    go_ret
    refine ⟨?_, by exact bdrewNr HK.out _⟩
    rfl
end Go.Proofs.Ytmleoagdelgddaa
/- raster: a sample of sixteen bits. -/
namespace Go.Proofs.Ytmleoagdelgddaa
open Go.RowKit Dec

set_option maxRecDepth 100000 in
set_option maxHeartbeats 4000000 in
theorem getwide_any (H : Int) (W C i P S : Nat) (A : Option Addr) (n c : Nat) (bs : List Nat) (w : World) (hA : Bytes w A n c bs) (hP : W * C = P) (hS : (P * 16 + 7) / 8 = S) (h0 : 0 < P) (hb : P * 16 ≤ 10000000) (hb2 : P ≤ 10000000) (hi : i ≤ 10000000) (hr : i / P * S ≤ 1000000000)
    (K : Nat) (hK : i / P * S + i % P * 16 / 8 = K) (hKn : K + 1 < n) (x y : Nat) (hx : bs[K]? = some x) (hy : bs[K + 1]? = some y) :
    Calls Try.prog 48 #[.agg #[.int .i64 (W : Int), .int .i64 H, .int .i64 16, .int .i64 (C : Int), .slice A n c], .int .i64 (i : Int)] w fun e w' => e = .returned (.int .i64 ((256 * x + y : Nat) : Int)) ∧ Below w.heap.size w w' := by
  have HP := Lib.hid (fun w => place_any H W 16 C i P S A n c w hP hS h0 hb hb2 hi hr (by omega))
  rw [hK, show i % P * 16 % 8 = 0 from by omega] at HP
  have hx9 : x < 256 := hA.byte x (List.mem_of_getElem? hx)
  have hy9 : y < 256 := hA.byte y (List.mem_of_getElem? hy)
  have hn0 := hA.cap
  have hn1 := hA.top
  have q1 : IntKind.i64.wrap ((K : Int) + 1) = ((K + 1 : Nat) : Int) := by rw [IntKind.wrap_i64]; omega
  have q7 : IntKind.i64.wrap (x : Int) = (x : Int) := by rw [IntKind.wrap_i64]; omega
  have q8 : IntKind.i64.wrap (y : Int) = (y : Int) := by rw [IntKind.wrap_i64]; omega
  have HW := Lib.hid (Whole.made w 24 #[.int .i64 (W : Int), .int .i64 H, .int .i64 16, .int .i64 (C : Int), .slice A n c])
  have HV := (Below.refl w.heap.size w).alloc (Nat.le_refl _) (.cells #[.int .i64 (W : Int), .int .i64 H, .int .i64 16, .int .i64 (C : Int), .slice A n c] 24)
  have HX := Lib.hid hA
  clear hK hP hS hb hb2 hi hr h0
  go_enter Try.func48, Try.ntmps48
  go_wp2_with fail
  generalize hW0 : w.alloc (.cells #[.int .i64 (W : Int), .int .i64 H, .int .i64 16, .int .i64 (C : Int), .slice A n c] 24) = W0 at *
  have lI := HW.out.lt
  refine (HP.out _).mono ?_
  rintro e v ⟨rfl, kk⟩
  have HK := Lib.hid (HV.trans (kk.mono HV.size))
  have hcells := img_cells (HW.out.here kk)
  have hsv := kk.size
  obtain ⟨R, q, rfl, hR, hcell⟩ := (HX.out.below HK.out).at_ (by omega)
  have hc := hcell K x hx
  have hd := hcell (K + 1) y hy
  have hd1 := hd
  rw [← Nat.add_assoc] at hd1
  clear hcell hx hA hy
  obtain ⟨c0, c1, c2, c3, c4⟩ := hcells
  go_wp2_with fail
  go_quiet (fail)
  all_goals
    go_wp2_with fail
    go_ret
    refine ⟨?_, bdrewNr HK.out _⟩
    show Ending.returned (.int .i64 ((x : Int) * 256 + (y : Int))) = _
    rw [show (x : Int) * 256 + (y : Int) = ((256 * x + y : Nat) : Int) from by omega]
/-- The sample that a byte row holds at a place. -/
def smp (bs : List Nat) (B S P i : Nat) : Nat :=
  let k := i / P * S + i % P * B / 8
  if B = 16 then 256 * bs.getD k 0 + bs.getD (k + 1) 0 else bs.getD k 0 / 2 ^ (8 - B - i % P * B % 8) % 2 ^ B
theorem row_fits (P B S H i : Nat) (h0 : 0 < P) (hS : (P * B + 7) / 8 = S) (hi : i < H * P) (hB0 : 0 < B) (hB : B ≤ 8) : i / P * S + i % P * B / 8 < H * S := by
  have h1 : i / P < H := by rw [Nat.div_lt_iff_lt_mul h0]; exact hi
  have h2 : i % P < P := Nat.mod_lt _ h0
  have h3 : i % P * B + B ≤ P * B := by rw [← Nat.succ_mul]; exact Nat.mul_le_mul_right _ h2
  have h4 : i % P * B / 8 < S := by omega
  have h5 : i / P * S + S ≤ H * S := by rw [← Nat.succ_mul]; exact Nat.mul_le_mul_right _ h1
  omega
theorem row_fits16 (P S H i : Nat) (h0 : 0 < P) (hS : (P * 16 + 7) / 8 = S) (hi : i < H * P) : i / P * S + i % P * 16 / 8 + 1 < H * S := by
  have h1 : i / P < H := by rw [Nat.div_lt_iff_lt_mul h0]; exact hi
  have h2 : i % P < P := Nat.mod_lt _ h0
  have h5 : i / P * S + S ≤ H * S := by rw [← Nat.succ_mul]; exact Nat.mul_le_mul_right _ h1
  omega
theorem get_is {bs : List Nat} {k : Nat} (h : k < bs.length) : bs[k]? = some (bs.getD k 0) := by
  rw [List.getD_eq_getElem?_getD, List.getElem?_eq_getElem h]
  rfl
/-- A sample is what the bytes say. -/
theorem get_any (H W B C i P S : Nat) (A : Option Addr) (n c : Nat) (bs : List Nat) (w : World) (hA : Bytes w A n c bs) (hP : W * C = P) (hS : (P * B + 7) / 8 = S) (h0 : 0 < P) (hH : H * P ≤ 262144) (hB : B = 1 ∨ B = 2 ∨ B = 4 ∨ B = 8 ∨ B = 16) (hn : n = H * S) (hi : i < H * P) :
    Calls Try.prog 48 #[.agg #[.int .i64 (W : Int), .int .i64 (H : Int), .int .i64 (B : Int), .int .i64 (C : Int), .slice A n c], .int .i64 (i : Int)] w fun e w' => e = .returned (.int .i64 ((smp bs B S P i : Nat) : Int)) ∧ Below w.heap.size w w' := by
  have hH1 : 0 < H := Nat.pos_of_ne_zero (fun e => by subst e; omega)
  have hP1 : P ≤ H * P := Nat.le_mul_of_pos_left P hH1
  have hPB : P * B ≤ P * 16 := Nat.mul_le_mul_left _ (by omega)
  have hrow : i / P * S ≤ 1000000000 := by
    have h1 : i / P ≤ H := Nat.le_of_lt (by rw [Nat.div_lt_iff_lt_mul h0]; exact hi)
    have h2 : i / P * S ≤ H * S := Nat.mul_le_mul_right _ h1
    have h3 : S ≤ P * 3 := by omega
    have h4 : H * S ≤ H * (P * 3) := Nat.mul_le_mul_left _ h3
    have h5 : H * (P * 3) = H * P * 3 := (Nat.mul_assoc _ _ _).symm
    omega
  by_cases h16 : B = 16
  · subst h16
    have hk := row_fits16 P S H i h0 hS hi
    have := getwide_any (H : Int) W C i P S A n c bs w hA hP hS h0 (by omega) (by omega) (by omega) hrow _ rfl (by omega) _ _ (get_is (by rw [hA.len]; omega)) (get_is (by rw [hA.len]; omega))
    exact this
  · have hk := row_fits P B S H i h0 hS hi (by omega) (by omega)
    have hz : B + i % P * B % 8 ≤ 8 := by
      rcases hB with rfl | rfl | rfl | rfl | rfl <;> omega
    have := getlow_any (H : Int) W B C i P S A n c bs w hA hP hS h0 (by omega) (by omega) (by omega) hrow (by omega) _ rfl _ rfl (8 - B - i % P * B % 8) (by omega) (by omega) _ (get_is (by rw [hA.len]; omega))
    unfold smp
    rw [if_neg h16]
    exact this
end Go.Proofs.Ytmleoagdelgddaa
