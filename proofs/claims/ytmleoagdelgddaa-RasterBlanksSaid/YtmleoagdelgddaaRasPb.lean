/- raster: put. -/
import Derived.Test.YtmleoagdelgddaaRasPa
namespace Go.Proofs.Ytmleoagdelgddaa
open Go.RowKit Dec

theorem bvs_get {l : List Nat} {i x : Nat} (h : l[i]? = some x) : (bvs l).toArray[i]? = some (.int .u8 (x : Int)) := by simp [bvs, h]
theorem bvs_set (l : List Nat) (i x : Nat) : (bvs l).toArray.setIfInBounds i (.int .u8 (x : Int)) = (bvs (l.set i x)).toArray := by simp [bvs, List.map_set]
/-- Of what was there all is as it was but the row. -/
structure PutSt (w w' : World) (R : Nat) (bs : List Nat) : Prop where
  row : Whole w' R 5 (bvs bs).toArray
  fr : Fr (fun g => g = R) w w'
set_option maxRecDepth 100000 in
set_option maxHeartbeats 4000000 in
theorem putlow_any (H : Int) (W B C i P S : Nat) (R n c : Nat) (bs : List Nat) (v : Nat) (w : World) (hA : Whole w R 5 (bvs bs).toArray) (hP : W * C = P) (hS : (P * B + 7) / 8 = S) (h0 : 0 < P) (hb : P * B ≤ 10000000) (hb2 : P ≤ 10000000) (hi : i ≤ 10000000) (hr : i / P * S ≤ 1000000000) (hB : B ≤ 8)
    (K : Nat) (hK : i / P * S + i % P * B / 8 = K) (Z : Nat) (hZ : i % P * B % 8 = Z) (s : Nat) (hs : B + Z + s = 8) (hKn : K < n) (x : Nat) (hx : bs[K]? = some x) (hx9 : x + v * 2 ^ s < 256) :
    Calls Try.prog 33 #[.agg #[.int .i64 (W : Int), .int .i64 H, .int .i64 (B : Int), .int .i64 (C : Int), .slice (some ⟨R, 0, none⟩) n c], .int .i64 (i : Int), .int .i64 (v : Int)] w fun e w' => e = .returned (.tuple #[]) ∧ PutSt w w' R (bs.set K (x + v * 2 ^ s)) := by
  have HP := Lib.hid (fun w => place_any H W B C i P S (some ⟨R, 0, none⟩) n c w hP hS h0 hb hb2 hi hr (by omega))
  rw [hK, hZ, show 8 - (B : Int) - (Z : Int) = (s : Int) from by omega] at HP
  have q1 : (v : Int) * 2 ^ s = ((v * 2 ^ s : Nat) : Int) := by rw [two_pow_cast, Int.natCast_mul]
  obtain ⟨Y, hY⟩ : ∃ Y, v * 2 ^ s = Y := ⟨_, rfl⟩
  rw [hY] at q1 hx9 ⊢
  have q4 : IntKind.i64.wrap (Y : Int) = (Y : Int) := by rw [IntKind.wrap_i64]; omega
  have q5 : IntKind.u8.wrap (Y : Int) = (Y : Int) := by show (Y : Int) % 256 = _; omega
  have q6 : IntKind.u8.wrap ((x : Int) + (Y : Int)) = ((x + Y : Nat) : Int) := by show ((x : Int) + (Y : Int)) % 256 = _; omega
  have HW := Lib.hid (Whole.made w 24 #[.int .i64 (W : Int), .int .i64 H, .int .i64 (B : Int), .int .i64 (C : Int), .slice (some ⟨R, 0, none⟩) n c])
  have HV := (Below.refl w.heap.size w).alloc (Nat.le_refl _) (.cells #[.int .i64 (W : Int), .int .i64 H, .int .i64 (B : Int), .int .i64 (C : Int), .slice (some ⟨R, 0, none⟩) n c] 24)
  have HX := Lib.hid hA
  have HXX := Lib.hid hx
  have lR := hA.lt
  have b0 : (0 : Int) ≤ (K : Int) := by omega
  have b1 : (K : Int) < (n : Int) := by omega
  have hsB : s ≤ 8 ∧ B ≤ 8 := by omega
  clear hK hZ hP hS hb hb2 hi hr h0 hY hA hx
  go_enter Try.func33, Try.ntmps33
  go_wp2_with fail
  generalize hW0 : w.alloc (.cells #[.int .i64 (W : Int), .int .i64 H, .int .i64 (B : Int), .int .i64 (C : Int), .slice (some ⟨R, 0, none⟩) n c] 24) = W0 at *
  have lI := HW.out.lt
  refine (HP.out _).mono ?_
  rintro e u ⟨rfl, kk⟩
  have HK := Lib.hid (HV.trans (kk.mono HV.size))
  have hcells := img_cells (HW.out.here kk)
  have hsv := kk.size
  have hrow := HX.out.here HK.out
  have hc0 : u.cell? ⟨R, K, none⟩ = some (.int .u8 (x : Int)) := (hrow.reads K).trans (bvs_get HXX.out)
  have hf0 := hrow.thawed K
  have lR2 := hrow.lt
  obtain ⟨c0, c1, c2, c3, c4⟩ := hcells
  have HROW := Lib.hid hrow
  clear hrow
  go_wp2_with fail
  go_region
  go_wp2_with fail
  go_end0
  refine ⟨rfl, ?_, ?_⟩
  · have := HROW.out.set K (.int .u8 ((x + Y : Nat) : Int))
    rw [bvs_set] at this
    rw [show ((x : Int) + (Y : Int)) = ((x + Y : Nat) : Int) from by omega]
    exact this
  · exact ((((fr_below HK.out).more (fun _ _ e => e.elim) : Fr (fun g => g = R) _ _).setB K _).drewN 1)
set_option maxRecDepth 100000 in
set_option maxHeartbeats 4000000 in
theorem putwide_any (H : Int) (W C i P S : Nat) (R n c : Nat) (bs : List Nat) (v : Nat) (w : World) (hA : Whole w R 5 (bvs bs).toArray) (hn : bs.length = n) (hn9 : n ≤ 1000000000) (hP : W * C = P) (hS : (P * 16 + 7) / 8 = S) (h0 : 0 < P) (hb : P * 16 ≤ 10000000) (hb2 : P ≤ 10000000) (hi : i ≤ 10000000) (hr : i / P * S ≤ 1000000000)
    (K : Nat) (hK : i / P * S + i % P * 16 / 8 = K) (hKn : K + 1 < n) (hv : v < 65536) :
    Calls Try.prog 33 #[.agg #[.int .i64 (W : Int), .int .i64 H, .int .i64 16, .int .i64 (C : Int), .slice (some ⟨R, 0, none⟩) n c], .int .i64 (i : Int), .int .i64 (v : Int)] w fun e w' => e = .returned (.tuple #[]) ∧ PutSt w w' R ((bs.set K (v / 256)).set (K + 1) (v % 256)) := by
  have HP := Lib.hid (fun w => place_any H W 16 C i P S (some ⟨R, 0, none⟩) n c w hP hS h0 hb hb2 hi hr (by omega))
  rw [hK, show i % P * 16 % 8 = 0 from by omega] at HP
  have q0 : (v : Int) / 256 = ((v / 256 : Nat) : Int) := by omega
  obtain ⟨Y, hY⟩ : ∃ Y, v / 256 = Y := ⟨_, rfl⟩
  obtain ⟨X, hX⟩ : ∃ X, v % 256 = X := ⟨_, rfl⟩
  rw [hY] at q0 ⊢
  rw [hX]
  have q1 : IntKind.i64.wrap ((K : Int) + 1) = ((K + 1 : Nat) : Int) := by rw [IntKind.wrap_i64]; omega
  have q4 : IntKind.i64.wrap (Y : Int) = (Y : Int) := by rw [IntKind.wrap_i64]; omega
  have q5 : IntKind.u8.wrap (Y : Int) = (Y : Int) := by show (Y : Int) % 256 = _; omega
  have q6 : IntKind.u8.wrap (v : Int) = (X : Int) := by show (v : Int) % 256 = _; omega
  have HW := Lib.hid (Whole.made w 24 #[.int .i64 (W : Int), .int .i64 H, .int .i64 16, .int .i64 (C : Int), .slice (some ⟨R, 0, none⟩) n c])
  have HV := (Below.refl w.heap.size w).alloc (Nat.le_refl _) (.cells #[.int .i64 (W : Int), .int .i64 H, .int .i64 16, .int .i64 (C : Int), .slice (some ⟨R, 0, none⟩) n c] 24)
  have HX := Lib.hid hA
  have lR := hA.lt
  obtain ⟨x0, hx0⟩ : ∃ x, bs[K]? = some x := ⟨_, List.getElem?_eq_getElem (by omega)⟩
  obtain ⟨x1, hx1⟩ : ∃ x, bs[K + 1]? = some x := ⟨_, List.getElem?_eq_getElem (by omega)⟩
  have b0 : (0 : Int) ≤ (K : Int) := by omega
  have b1 : (K : Int) < (n : Int) := by omega
  have b2 : ((K + 1 : Nat) : Int) < (n : Int) := by omega
  have b3 : (K : Int) + 1 < (n : Int) := by omega
  have b4 : (0 : Int) ≤ (K : Int) + 1 := by omega
  have HXX := Lib.hid (And.intro hx0 hx1)
  clear hK hP hS hb hb2 hi hr h0 hY hX hn hA hx0 hx1
  go_enter Try.func33, Try.ntmps33
  go_wp2_with fail
  generalize hW0 : w.alloc (.cells #[.int .i64 (W : Int), .int .i64 H, .int .i64 16, .int .i64 (C : Int), .slice (some ⟨R, 0, none⟩) n c] 24) = W0 at *
  have lI := HW.out.lt
  refine (HP.out _).mono ?_
  rintro e u ⟨rfl, kk⟩
  have HK := Lib.hid (HV.trans (kk.mono HV.size))
  have hcells := img_cells (HW.out.here kk)
  have hsv := kk.size
  have hrow := HX.out.here HK.out
  have hc0 : u.cell? ⟨R, K, none⟩ = some (.int .u8 (x0 : Int)) := (hrow.reads K).trans (bvs_get HXX.out.1)
  have hc1 : u.cell? ⟨R, K + 1, none⟩ = some (.int .u8 (x1 : Int)) := (hrow.reads (K + 1)).trans (bvs_get HXX.out.2)
  have hf0 := hrow.thawed K
  have hf1 := hrow.thawed (K + 1)
  have lR2 := hrow.lt
  have lRI : R < w.heap.size := lR
  obtain ⟨c0, c1, c2, c3, c4⟩ := hcells
  have HROW := Lib.hid hrow
  clear hrow
  go_wp2_with fail
  go_region
  go_wp2_with fail
  (try simp only [Exit.inBlock, Exit.then])
  refine bodyPost_ret (results_none rfl _ _ _) rfl ?_
  refine ⟨rfl, ?_, ?_⟩
  · have := (HROW.out.set K (.int .u8 (Y : Int))).set (K + 1) (.int .u8 (X : Int))
    rw [bvs_set, bvs_set] at this
    exact this
  · exact (((((fr_below HK.out).more (fun _ _ e => e.elim) : Fr (fun g => g = R) _ _).setB K _).setB (K + 1) _).drewN 1)
/-- A sample put where it is nought. -/
theorem put_any (H W B C i P S : Nat) (R n c : Nat) (bs : List Nat) (v : Nat) (w : World) (hA : Whole w R 5 (bvs bs).toArray) (hl : bs.length = n) (hbs : ∀ x ∈ bs, x < 256) (hP : W * C = P) (hS : (P * B + 7) / 8 = S) (h0 : 0 < P) (hH : H * P ≤ 262144) (hB : B = 1 ∨ B = 2 ∨ B = 4 ∨ B = 8 ∨ B = 16) (hn : n = H * S) (hi : i < H * P) (hv : v < 2 ^ B) (hz : smp bs B S P i = 0) :
    Calls Try.prog 33 #[.agg #[.int .i64 (W : Int), .int .i64 (H : Int), .int .i64 (B : Int), .int .i64 (C : Int), .slice (some ⟨R, 0, none⟩) n c], .int .i64 (i : Int), .int .i64 (v : Int)] w fun e w' => e = .returned (.tuple #[]) ∧ PutSt w w' R (putB bs B S P i v) := by
  have hH1 : 0 < H := Nat.pos_of_ne_zero (fun e => by subst e; omega)
  have hP1 : P ≤ H * P := Nat.le_mul_of_pos_left P hH1
  have hPB : P * B ≤ P * 16 := Nat.mul_le_mul_left _ (by omega)
  have h3 : S ≤ P * 3 := by omega
  have h4 : H * S ≤ H * (P * 3) := Nat.mul_le_mul_left _ h3
  have h5 : H * (P * 3) = H * P * 3 := (Nat.mul_assoc _ _ _).symm
  have hrow : i / P * S ≤ 1000000000 := by
    have h1 : i / P ≤ H := Nat.le_of_lt (by rw [Nat.div_lt_iff_lt_mul h0]; exact hi)
    have h2 : i / P * S ≤ H * S := Nat.mul_le_mul_right _ h1
    omega
  by_cases h16 : B = 16
  · subst h16
    have hk := row_fits16 P S H i h0 hS hi
    have := putwide_any (H : Int) W C i P S R n c bs v w hA hl (by omega) hP hS h0 (by omega) (by omega) (by omega) hrow _ rfl (by omega) (by simpa using hv)
    unfold putB
    rw [if_pos rfl]
    exact this
  · have hB8 : B = 1 ∨ B = 2 ∨ B = 4 ∨ B = 8 := by omega
    have hk := row_fits P B S H i h0 hS hi (by omega) (by omega)
    have oi := off_mod hB8 (i % P)
    have hx : bs.getD (plc B S P i) 0 < 256 := hbs _ (by
      rw [List.getD_eq_getElem?_getD, List.getElem?_eq_getElem (by rw [hl, hn]; exact hk), Option.getD_some]
      exact List.getElem_mem _)
    unfold smp at hz
    rw [if_neg h16] at hz
    obtain ⟨f1, -, -⟩ := fld_put hB8 hx hv oi.1 oi.2 hz
    have := putlow_any (H : Int) W B C i P S R n c bs v w hA hP hS h0 (by omega) (by omega) (by omega) hrow (by omega) _ rfl _ rfl (8 - B - i % P * B % 8) (by omega) (by omega) _ (get_is (by rw [hl, hn]; exact hk)) f1
    unfold putB
    rw [if_neg h16]
    exact this
end Go.Proofs.Ytmleoagdelgddaa
