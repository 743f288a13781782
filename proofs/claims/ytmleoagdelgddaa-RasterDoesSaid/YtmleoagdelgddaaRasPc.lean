/- raster: put. -/
import Derived.Test.YtmleoagdelgddaaRasDb
import Derived.BigQuiet
import Derived.Deep.QuietTactic
namespace Go.Proofs.Ytmleoagdelgddaa
open Go.RowKit Dec

theorem bvs_get {l : List Nat} {i x : Nat} (h : l[i]? = some x) : (bvs l).toArray[i]? = some (.int .u8 (x : Int)) := by simp [bvs, h]
theorem bvs_set (l : List Nat) (i x : Nat) : (bvs l).toArray.setIfInBounds i (.int .u8 (x : Int)) = (bvs (l.set i x)).toArray := by simp [bvs, List.map_set]
/-- Of what was there all is as it was but the row. -/
structure PutSt (w w' : World) (R : Nat) (bs : List Nat) : Prop where
  row : Whole w' R 5 (bvs bs).toArray
  fr : Fr (fun g => g = R) w w'
set_option maxRecDepth 100000 in
set_option maxHeartbeats 4000000 in
theorem putlow_any (H : Int) (W B C i P S : Nat) (R n c : Nat) (bs : List Nat) (v : Nat) (w : World) (hA : Whole w R 5 (bvs bs).toArray) (hP : W * C = P) (hS : (P * B + 7) / 8 = S) (h0 : 0 < P) (hb : P * B ≤ 10000000) (hb2 : P ≤ 10000000) (hi : i ≤ 10000000) (hr : i / P * S ≤ 1000000000) (hB : B ≤ 8)
    (K : Nat) (hK : i / P * S + i % P * B / 8 = K) (Z : Nat) (hZ : i % P * B % 8 = Z) (s : Nat) (hs : B + Z + s = 8) (hKn : K < n) (x : Nat) (hx : bs[K]? = some x) (hx9 : x + v * 2 ^ s < 256) :
    Calls Try.prog 33 #[.agg #[.int .i64 (W : Int), .int .i64 H, .int .i64 (B : Int), .int .i64 (C : Int), .slice (some ⟨R, 0, none⟩) n c], .int .i64 (i : Int), .int .i64 (v : Int)] w fun e w' => e = .returned (.tuple #[]) ∧ PutSt w w' R (bs.set K (x + v * 2 ^ s)) := by
  have HP := Lib.hid (fun w => place_any H W B C i P S (some ⟨R, 0, none⟩) n c w hP hS h0 hb hb2 hi hr (by omega))
  rw [hK, hZ, show 8 - (B : Int) - (Z : Int) = (s : Int) from by omega] at HP
  have q1 : (v : Int) * 2 ^ s = ((v * 2 ^ s : Nat) : Int) := by rw [two_pow_cast, Int.natCast_mul]
  obtain ⟨Y, hY⟩ : ∃ Y, v * 2 ^ s = Y := ⟨_, rfl⟩
  rw [hY] at q1 hx9 ⊢
  have q4 : IntKind.i64.wrap (Y : Int) = (Y : Int) := by rw [IntKind.wrap_i64]; omega
  have q5 : IntKind.u8.wrap (Y : Int) = (Y : Int) := by show (Y : Int) % 256 = _; omega
  have q6 : IntKind.u8.wrap ((x : Int) + (Y : Int)) = ((x + Y : Nat) : Int) := by show ((x : Int) + (Y : Int)) % 256 = _; omega
  have HW := Lib.hid (Whole.made w 24 #[.int .i64 (W : Int), .int .i64 H, .int .i64 (B : Int), .int .i64 (C : Int), .slice (some ⟨R, 0, none⟩) n c])
  have HV := (Below.refl w.heap.size w).alloc (Nat.le_refl _) (.cells #[.int .i64 (W : Int), .int .i64 H, .int .i64 (B : Int), .int .i64 (C : Int), .slice (some ⟨R, 0, none⟩) n c] 24)
  have HX := Lib.hid hA
  have HXX := Lib.hid hx
  have lR := hA.lt
  have b0 : (0 : Int) ≤ (K : Int) := by omega
  have b1 : (K : Int) < (n : Int) := by omega
  have hsB : s ≤ 8 ∧ B ≤ 8 := by omega
  clear hK hZ hP hS hb hb2 hi hr h0 hY hA hx
  go_enter Try.func33, Try.ntmps33
  go_wp2_with fail
  generalize hW0 : w.alloc (.cells #[.int .i64 (W : Int), .int .i64 H, .int .i64 (B : Int), .int .i64 (C : Int), .slice (some ⟨R, 0, none⟩) n c] 24) = W0 at *
  have lI := HW.out.lt
  refine (HP.out _).mono ?_
  rintro e u ⟨rfl, kk⟩
  have HK := Lib.hid (HV.trans (kk.mono HV.size))
  have hcells := img_cells (HW.out.here kk)
  have hsv := kk.size
  have hrow := HX.out.here HK.out
  have hc0 : u.cell? ⟨R, K, none⟩ = some (.int .u8 (x : Int)) := (hrow.reads K).trans (bvs_get HXX.out)
  have hf0 := hrow.thawed K
  have lR2 := hrow.lt
  obtain ⟨c0, c1, c2, c3, c4⟩ := hcells
  have HROW := Lib.hid hrow
  clear hrow
  go_wp2_with fail
  go_region
  go_wp2_with fail
  go_end0
  refine ⟨rfl, ?_, ?_⟩
  · have := HROW.out.set K (.int .u8 ((x + Y : Nat) : Int))
    rw [bvs_set] at this
    rw [show ((x : Int) + (Y : Int)) = ((x + Y : Nat) : Int) from by omega]
    exact this
  · exact ((((fr_below HK.out).more (fun _ _ e => e.elim) : Fr (fun g => g = R) _ _).setB K _).drewN 1)
set_option maxRecDepth 100000 in
set_option maxHeartbeats 4000000 in
theorem putwide_any (H : Int) (W C i P S : Nat) (R n c : Nat) (bs : List Nat) (v : Nat) (w : World) (hA : Whole w R 5 (bvs bs).toArray) (hn : bs.length = n) (hn9 : n ≤ 1000000000) (hP : W * C = P) (hS : (P * 16 + 7) / 8 = S) (h0 : 0 < P) (hb : P * 16 ≤ 10000000) (hb2 : P ≤ 10000000) (hi : i ≤ 10000000) (hr : i / P * S ≤ 1000000000)
    (K : Nat) (hK : i / P * S + i % P * 16 / 8 = K) (hKn : K + 1 < n) (hv : v < 65536) :
    Calls Try.prog 33 #[.agg #[.int .i64 (W : Int), .int .i64 H, .int .i64 16, .int .i64 (C : Int), .slice (some ⟨R, 0, none⟩) n c], .int .i64 (i : Int), .int .i64 (v : Int)] w fun e w' => e = .returned (.tuple #[]) ∧ PutSt w w' R ((bs.set K (v / 256)).set (K + 1) (v % 256)) := by
  have HP := Lib.hid (fun w => place_any H W 16 C i P S (some ⟨R, 0, none⟩) n c w hP hS h0 hb hb2 hi hr (by omega))
  rw [hK, show i % P * 16 % 8 = 0 from by omega] at HP
  have q0 : (v : Int) / 256 = ((v / 256 : Nat) : Int) := by omega
  obtain ⟨Y, hY⟩ : ∃ Y, v / 256 = Y := ⟨_, rfl⟩
  obtain ⟨X, hX⟩ : ∃ X, v % 256 = X := ⟨_, rfl⟩
  rw [hY] at q0 ⊢
  rw [hX]
  have q1 : IntKind.i64.wrap ((K : Int) + 1) = ((K + 1 : Nat) : Int) := by rw [IntKind.wrap_i64]; omega
  have q4 : IntKind.i64.wrap (Y : Int) = (Y : Int) := by rw [IntKind.wrap_i64]; omega
  have q5 : IntKind.u8.wrap (Y : Int) = (Y : Int) := by show (Y : Int) % 256 = _; omega
  have q6 : IntKind.u8.wrap (v : Int) = (X : Int) := by show (v : Int) % 256 = _; omega
  have HW := Lib.hid (Whole.made w 24 #[.int .i64 (W : Int), .int .i64 H, .int .i64 16, .int .i64 (C : Int), .slice (some ⟨R, 0, none⟩) n c])
  have HV := (Below.refl w.heap.size w).alloc (Nat.le_refl _) (.cells #[.int .i64 (W : Int), .int .i64 H, .int .i64 16, .int .i64 (C : Int), .slice (some ⟨R, 0, none⟩) n c] 24)
  have HX := Lib.hid hA
  have lR := hA.lt
  obtain ⟨x0, hx0⟩ : ∃ x, bs[K]? = some x := ⟨_, List.getElem?_eq_getElem (by omega)⟩
  obtain ⟨x1, hx1⟩ : ∃ x, bs[K + 1]? = some x := ⟨_, List.getElem?_eq_getElem (by omega)⟩
  have b0 : (0 : Int) ≤ (K : Int) := by omega
  have b1 : (K : Int) < (n : Int) := by omega
  have b2 : ((K + 1 : Nat) : Int) < (n : Int) := by omega
  have b3 : (K : Int) + 1 < (n : Int) := by omega
  have b4 : (0 : Int) ≤ (K : Int) + 1 := by omega
  have HXX := Lib.hid (And.intro hx0 hx1)
  clear hK hP hS hb hb2 hi hr h0 hY hX hn hA hx0 hx1
  go_enter Try.func33, Try.ntmps33
  go_wp2_with fail
  generalize hW0 : w.alloc (.cells #[.int .i64 (W : Int), .int .i64 H, .int .i64 16, .int .i64 (C : Int), .slice (some ⟨R, 0, none⟩) n c] 24) = W0 at *
  have lI := HW.out.lt
  refine (HP.out _).mono ?_
  rintro e u ⟨rfl, kk⟩
  have HK := Lib.hid (HV.trans (kk.mono HV.size))
  have hcells := img_cells (HW.out.here kk)
  have hsv := kk.size
  have hrow := HX.out.here HK.out
  have hc0 : u.cell? ⟨R, K, none⟩ = some (.int .u8 (x0 : Int)) := (hrow.reads K).trans (bvs_get HXX.out.1)
  have hc1 : u.cell? ⟨R, K + 1, none⟩ = some (.int .u8 (x1 : Int)) := (hrow.reads (K + 1)).trans (bvs_get HXX.out.2)
  have hf0 := hrow.thawed K
  have hf1 := hrow.thawed (K + 1)
  have lR2 := hrow.lt
  have lRI : R < w.heap.size := lR
  obtain ⟨c0, c1, c2, c3, c4⟩ := hcells
  have HROW := Lib.hid hrow
  clear hrow
  go_wp2_with fail
  go_region
  go_wp2_with fail
  (try simp only [Exit.inBlock, Exit.then])
  refine bodyPost_ret (results_none rfl _ _ _) rfl ?_
  refine ⟨rfl, ?_, ?_⟩
  · have := (HROW.out.set K (.int .u8 (Y : Int))).set (K + 1) (.int .u8 (X : Int))
    rw [bvs_set, bvs_set] at this
    exact this
  · exact (((((fr_below HK.out).more (fun _ _ e => e.elim) : Fr (fun g => g = R) _ _).setB K _).setB (K + 1) _).drewN 1)
/-- A sample put where it is nought. -/
theorem put_any (H W B C i P S : Nat) (R n c : Nat) (bs : List Nat) (v : Nat) (w : World) (hA : Whole w R 5 (bvs bs).toArray) (hl : bs.length = n) (hbs : ∀ x ∈ bs, x < 256) (hP : W * C = P) (hS : (P * B + 7) / 8 = S) (h0 : 0 < P) (hH : H * P ≤ 262144) (hB : B = 1 ∨ B = 2 ∨ B = 4 ∨ B = 8 ∨ B = 16) (hn : n = H * S) (hi : i < H * P) (hv : v < 2 ^ B) (hz : smp bs B S P i = 0) :
    Calls Try.prog 33 #[.agg #[.int .i64 (W : Int), .int .i64 (H : Int), .int .i64 (B : Int), .int .i64 (C : Int), .slice (some ⟨R, 0, none⟩) n c], .int .i64 (i : Int), .int .i64 (v : Int)] w fun e w' => e = .returned (.tuple #[]) ∧ PutSt w w' R (putB bs B S P i v) := by
  have hH1 : 0 < H := Nat.pos_of_ne_zero (fun e => by subst e; omega)
  have hP1 : P ≤ H * P := Nat.le_mul_of_pos_left P hH1
  have hPB : P * B ≤ P * 16 := Nat.mul_le_mul_left _ (by omega)
  have h3 : S ≤ P * 3 := by omega
  have h4 : H * S ≤ H * (P * 3) := Nat.mul_le_mul_left _ h3
  have h5 : H * (P * 3) = H * P * 3 := (Nat.mul_assoc _ _ _).symm
  have hrow : i / P * S ≤ 1000000000 := by
    have h1 : i / P ≤ H := Nat.le_of_lt (by rw [Nat.div_lt_iff_lt_mul h0]; exact hi)
    have h2 : i / P * S ≤ H * S := Nat.mul_le_mul_right _ h1
    omega
  by_cases h16 : B = 16
  · subst h16
    have hk := row_fits16 P S H i h0 hS hi
    have := putwide_any (H : Int) W C i P S R n c bs v w hA hl (by omega) hP hS h0 (by omega) (by omega) (by omega) hrow _ rfl (by omega) (by simpa using hv)
    unfold putB
    rw [if_pos rfl]
    exact this
  · have hB8 : B = 1 ∨ B = 2 ∨ B = 4 ∨ B = 8 := by omega
    have hk := row_fits P B S H i h0 hS hi (by omega) (by omega)
    have oi := off_mod hB8 (i % P)
    have hx : bs.getD (plc B S P i) 0 < 256 := hbs _ (by
      rw [List.getD_eq_getElem?_getD, List.getElem?_eq_getElem (by rw [hl, hn]; exact hk), Option.getD_some]
      exact List.getElem_mem _)
    unfold smp at hz
    rw [if_neg h16] at hz
    obtain ⟨f1, -, -⟩ := fld_put hB8 hx hv oi.1 oi.2 hz
    have := putlow_any (H : Int) W B C i P S R n c bs v w hA hP hS h0 (by omega) (by omega) (by omega) hrow (by omega) _ rfl _ rfl (8 - B - i % P * B % 8) (by omega) (by omega) _ (get_is (by rw [hl, hn]; exact hk)) f1
    unfold putB
    rw [if_neg h16]
    exact this
end Go.Proofs.Ytmleoagdelgddaa
/- raster: Pack. Written by gen_pack.py. -/
namespace Go.Proofs.Ytmleoagdelgddaa
open Go.RowKit Dec

theorem infoB8 : (Try.prog.info? 5).map (fun i => (i.zero, i.size, i.bytes)) = some (some (.int .u8 0), 1, 1) := by kernel_rfl
theorem make_u8 (n : Nat) (hn : n ≤ 10000000) (w : World) :
    (Instr.makeSlice 22 (.int .i64 (n : Int)) (.int .i64 (n : Int))).run Try.prog w = .ok (.slice (some ⟨w.heap.size, 0, none⟩) n n) (w.alloc (.cells (bvs (List.replicate n 0)).toArray 5)) := by
  have h := run_make_row' (P := Try.prog) 22 5 (.int .u8 0) 1 Try.underlying22 (by kernel_rfl) rfl .i64 .i64 n (by omega) (by omega) w
  have e : madeCells #[Value.int .u8 0] n = (bvs (List.replicate n 0)).toArray := by
    apply Array.toList_inj.1
    rw [toList_madeCells_one]
    simp [bvs]
  rw [← e]
  exact h
theorem five_set {w : World} {g : Nat} {T : TypeId} {a b c d e p q r s t : Value} (h : Whole w g T #[a, b, c, d, e]) : Whole (((((w.setCell ⟨g, 0, none⟩ p).setCell ⟨g, 1, none⟩ q).setCell ⟨g, 2, none⟩ r).setCell ⟨g, 3, none⟩ s).setCell ⟨g, 4, none⟩ t) g T #[p, q, r, s, t] := by
  have := ((((h.set 0 p).set 1 q).set 2 r).set 3 s).set 4 t
  simpa using this
theorem five_away {w : World} {g g' : Nat} {T : TypeId} {cs : Array Value} (h : Whole w g T cs) (ne : g ≠ g') (a b c d e : Value) : Whole (((((w.setCell ⟨g', 0, none⟩ a).setCell ⟨g', 1, none⟩ b).setCell ⟨g', 2, none⟩ c).setCell ⟨g', 3, none⟩ d).setCell ⟨g', 4, none⟩ e) g T cs :=
  ((((h.away (p := ⟨g', 0, none⟩) ne a).away (p := ⟨g', 1, none⟩) ne b).away (p := ⟨g', 2, none⟩) ne c).away (p := ⟨g', 3, none⟩) ne d).away (p := ⟨g', 4, none⟩) ne e
theorem five_below {w v : World} {g : Nat} (h : Below w.heap.size w v) (hg : w.heap.size ≤ g) (a b c d e : Value) : Below w.heap.size w (((((v.setCell ⟨g, 0, none⟩ a).setCell ⟨g, 1, none⟩ b).setCell ⟨g, 2, none⟩ c).setCell ⟨g, 3, none⟩ d).setCell ⟨g, 4, none⟩ e) :=
  ((((h.setCell (p := ⟨g, 0, none⟩) hg a).setCell (p := ⟨g, 1, none⟩) hg b).setCell (p := ⟨g, 2, none⟩) hg c).setCell (p := ⟨g, 3, none⟩) hg d).setCell (p := ⟨g, 4, none⟩) hg e
theorem ret_img {fn : Func} {a : Act} {Q : Ending → World → Prop} {W : World} {g : Nat} {T : TypeId} {p q r s t : Value} {E : Int} (hW : Whole W g T #[p, q, r, s, t])
    (hr : ∀ V : World, Whole V g T #[p, q, r, s, t] → (results fn a.tmps).run Try.prog V = .ok (.tuple #[.agg #[p, q, r, s, t], .int .i64 E]) V) (hd : a.defers = []) (hQ : Q (.returned (.tuple #[.agg #[p, q, r, s, t], .int .i64 E])) W) : bodyPost Try.prog fn Q .ret a W :=
  bodyPost_ret (hr W hW) hd hQ
/-- What a refused image's call answers. -/
def NoImg (w : World) (e : Ending) (w' : World) : Prop := e = .returned (.tuple #[.agg #[.int .i64 0, .int .i64 0, .int .i64 0, .int .i64 0, .slice none 0 0], .int .i64 1]) ∧ Below w.heap.size w w'
theorem start_img (w : World) (x y z u v : Value) : Whole ((w.alloc (.cells #[x, y, z, u, v] 24)).alloc (.cells #[.int .i64 0, .int .i64 0, .int .i64 0, .int .i64 0, .slice none 0 0] 24)) w.heap.size 24 #[x, y, z, u, v] ∧
    Whole ((w.alloc (.cells #[x, y, z, u, v] 24)).alloc (.cells #[.int .i64 0, .int .i64 0, .int .i64 0, .int .i64 0, .slice none 0 0] 24)) (w.heap.size + 1) 24 #[.int .i64 0, .int .i64 0, .int .i64 0, .int .i64 0, .slice none 0 0] ∧
    Below w.heap.size w ((w.alloc (.cells #[x, y, z, u, v] 24)).alloc (.cells #[.int .i64 0, .int .i64 0, .int .i64 0, .int .i64 0, .slice none 0 0] 24)) := by
  refine ⟨(Whole.made w _ _).old _, ?_, ((Below.refl _ _).alloc (Nat.le_refl _) _).alloc (by simp) _⟩
  have := Whole.made (w.alloc (.cells #[x, y, z, u, v] 24)) 24 #[.int .i64 0, .int .i64 0, .int .i64 0, .int .i64 0, .slice none 0 0]
  rwa [World.size_alloc] at this
theorem five_facts {v : World} {g : Nat} {T : TypeId} {a b c d e : Value} (h : Whole v g T #[a, b, c, d, e]) : (v.cell? ⟨g, 0, none⟩ = some a ∧ v.cell? ⟨g, 1, none⟩ = some b ∧ v.cell? ⟨g, 2, none⟩ = some c ∧ v.cell? ⟨g, 3, none⟩ = some d ∧ v.cell? ⟨g, 4, none⟩ = some e) ∧ (v.frozen? ⟨g, 0, none⟩ = false ∧ v.frozen? ⟨g, 1, none⟩ = false ∧ v.frozen? ⟨g, 2, none⟩ = false ∧ v.frozen? ⟨g, 3, none⟩ = false ∧ v.frozen? ⟨g, 4, none⟩ = false) ∧ g < v.heap.size :=
  ⟨⟨h.reads 0, h.reads 1, h.reads 2, h.reads 3, h.reads 4⟩, ⟨h.thawed 0, h.thawed 1, h.thawed 2, h.thawed 3, h.thawed 4⟩, h.lt⟩
set_option maxRecDepth 100000 in
set_option maxHeartbeats 4000000 in
theorem pack_fmt (W H B C : Int) (A : Option Addr) (n c : Nat) (A2 : Option Addr) (n2 c2 : Nat) (w : World) (hF : fmtB W H B C = false) :
    Calls Try.prog 12 #[.agg #[.int .i64 W, .int .i64 H, .int .i64 B, .int .i64 C, .slice A n c], .slice A2 n2 c2] w (NoImg w) := by
  have HF := Lib.hid (fun w => hasFormat_any W H B C A n c w)
  rw [hF] at HF
  obtain ⟨hI, hO, hB⟩ := start_img w (.int .i64 W) (.int .i64 H) (.int .i64 B) (.int .i64 C) (.slice A n c)
  have HI := Lib.hid hI
  have HO0 := Lib.hid hO
  have HB0 := Lib.hid hB
  clear hI hO hB hF
  go_enter Try.func12, Try.ntmps12
  go_wp2_with fail
  generalize hW0 : (w.alloc (.cells #[.int .i64 W, .int .i64 H, .int .i64 B, .int .i64 C, .slice A n c] 24)).alloc (.cells #[.int .i64 0, .int .i64 0, .int .i64 0, .int .i64 0, .slice none 0 0] 24) = W0 at *
  clear hW0
  have lI := HI.out.lt
  have HC : Hid (∀ v, Below W0.heap.size W0 v → (fun v => (v.cell? ⟨w.heap.size, 0, none⟩ = some (.int .i64 W) ∧ v.cell? ⟨w.heap.size, 1, none⟩ = some (.int .i64 H) ∧ v.cell? ⟨w.heap.size, 2, none⟩ = some (.int .i64 B) ∧ v.cell? ⟨w.heap.size, 3, none⟩ = some (.int .i64 C) ∧ v.cell? ⟨w.heap.size, 4, none⟩ = some (.slice A n c)) ∧ Below W0.heap.size W0 v) v) := Lib.hid (fun v k => ⟨img_cells (HI.out.here k), k⟩)
  have hS := HC.out W0.drew ((Below.refl W0.heap.size W0).drew)
  refine wp_region_C (fun v => (v.cell? ⟨w.heap.size, 0, none⟩ = some (.int .i64 W) ∧ v.cell? ⟨w.heap.size, 1, none⟩ = some (.int .i64 H) ∧ v.cell? ⟨w.heap.size, 2, none⟩ = some (.int .i64 B) ∧ v.cell? ⟨w.heap.size, 3, none⟩ = some (.int .i64 C) ∧ v.cell? ⟨w.heap.size, 4, none⟩ = some (.slice A n c)) ∧ Below W0.heap.size W0 v) (by kernel_rfl) ?_
  refine wpAnyC_take (i := 0) (v := .agg #[.int .i64 W, .int .i64 H, .int .i64 B, .int .i64 C, .slice A n c]) rfl (by kernel_rfl) (fun _ _ _ h => h) (Or.inl ⟨by rfl, ?y1⟩) hS ?r1
  case y1 => rintro wq ⟨⟨c0, c1, c2, c3, c4⟩, -⟩; go_simp; all_goals (first | with_reducible rfl | (simp only []; done) | (simp []; done) | (simp; omega) | skip)
  try simp only [Act.put, List.setIfInBounds_toArray, List.set_cons_zero, List.set_cons_succ]
  refine wpAnyC_one (j := 1) (by kernel_rfl) rfl (fun K hK => ?_)
  go_simp
  go_at_call 31
  refine (HF.out _).mono ?_
  rintro e V ⟨rfl, kk⟩
  have hbv : Below W0.heap.size W0 V := ((Below.refl W0.heap.size W0).drew).trans kk
  have hS := HC.out V hbv
  clear kk
  go_wp2_with fail
  refine hK.out _ _ ⟨hS, ?_⟩
  clear hK K
  try simp only [Act.put, List.setIfInBounds_toArray, List.set_cons_zero, List.set_cons_succ]
  refine wpAnyC_take (i := 2) (v := .bool true) rfl (by kernel_rfl) (fun _ _ _ h => h) (Or.inl ⟨by rfl, ?y2⟩) hS ?r2
  case y2 => intro wq _; go_simp; all_goals (first | with_reducible rfl | (simp only []; done) | (simp []; done) | (simp; omega) | skip)
  try simp only [Act.put, List.setIfInBounds_toArray, List.set_cons_zero, List.set_cons_succ]
  refine wpAnyC_take (i := 3) (v := .bool true) rfl (by kernel_rfl) (fun _ _ _ h => h) (Or.inl ⟨by rfl, ?y3⟩) hS ?r3
  case y3 => intro wq _; go_simp; all_goals (first | with_reducible rfl | (simp only []; done) | (simp []; done) | (simp; omega) | skip)
  try simp only [Act.put, List.setIfInBounds_toArray, List.set_cons_zero, List.set_cons_succ]
  refine wpAnyC_take (i := 4) (v := undef) rfl (by kernel_rfl) (fun _ _ _ h => h) (Or.inr ⟨by rfl, rfl⟩) hS ?r4
  try simp only [Act.put, List.setIfInBounds_toArray, List.set_cons_zero, List.set_cons_succ]
  refine wpAnyC_take (i := 5) (v := undef) rfl (by kernel_rfl) (fun _ _ _ h => h) (Or.inr ⟨by rfl, rfl⟩) hS ?r5
  try simp only [Act.put, List.setIfInBounds_toArray, List.set_cons_zero, List.set_cons_succ]
  refine wpAnyC_take (i := 6) (v := undef) rfl (by kernel_rfl) (fun _ _ _ h => h) (Or.inr ⟨by rfl, rfl⟩) hS ?r6
  try simp only [Act.put, List.setIfInBounds_toArray, List.set_cons_zero, List.set_cons_succ]
  refine wpAnyC_take (i := 7) (v := undef) rfl (by kernel_rfl) (fun _ _ _ h => h) (Or.inr ⟨by rfl, rfl⟩) hS ?r7
  try simp only [Act.put, List.setIfInBounds_toArray, List.set_cons_zero, List.set_cons_succ]
  refine wpAnyC_take (i := 8) (v := undef) rfl (by kernel_rfl) (fun _ _ _ h => h) (Or.inr ⟨by rfl, rfl⟩) hS ?r8
  try simp only [Act.put, List.setIfInBounds_toArray, List.set_cons_zero, List.set_cons_succ]
  refine wpAnyC_take (i := 9) (v := undef) rfl (by kernel_rfl) (fun _ _ _ h => h) (Or.inr ⟨by rfl, rfl⟩) hS ?r9
  try simp only [Act.put, List.setIfInBounds_toArray, List.set_cons_zero, List.set_cons_succ]
  refine wpAnyC_take (i := 10) (v := undef) rfl (by kernel_rfl) (fun _ _ _ h => h) (Or.inr ⟨by rfl, rfl⟩) hS ?r10
  try simp only [Act.put, List.setIfInBounds_toArray, List.set_cons_zero, List.set_cons_succ]
  refine wpAnyC_take (i := 11) (v := undef) rfl (by kernel_rfl) (fun _ _ _ h => h) (Or.inr ⟨by rfl, rfl⟩) hS ?r11
  try simp only [Act.put, List.setIfInBounds_toArray, List.set_cons_zero, List.set_cons_succ]
  refine wpAnyC_take (i := 12) (v := .bool true) rfl (by kernel_rfl) (fun _ _ _ h => h) (Or.inl ⟨by rfl, ?y12⟩) hS ?r12
  case y12 => intro wq _; go_simp; all_goals (first | with_reducible rfl | (simp only []; done) | (simp []; done) | (simp; omega) | skip)
  try simp only [Act.put, List.setIfInBounds_toArray, List.set_cons_zero, List.set_cons_succ]
  refine wpAnyC_done (by kernel_rfl) ?_ _
  have HO := Lib.hid (HO0.out.here hbv)
  have HB := Lib.hid (HB0.out.trans (hbv.mono HB0.out.size))
  obtain ⟨p1, p2, p3⟩ := five_facts HO.out
  clear hS hbv HC
  go_wp2_with fail
  refine ret_img (E := 1) (g := w.heap.size + 1) (five_set HO.out) (fun V hV => by have rv := hV.reads; simp [results, Try.results12, go_sem, rv]) rfl ?_
  exact ⟨rfl, five_below HB.out (by omega) _ _ _ _ _⟩
set_option maxRecDepth 100000 in
set_option maxHeartbeats 4000000 in
theorem pack_len (W H B C P N : Nat) (A : Option Addr) (n c : Nat) (A2 : Option Addr) (n2 c2 : Nat) (w : World) (hF : fmtB (W : Int) (H : Int) (B : Int) (C : Int) = true) (hP : W * C = P) (hP2 : P ≤ 262144) (hN : H * P = N) (hN2 : N ≤ 262144) (hne : n2 ≠ N) :
    Calls Try.prog 12 #[.agg #[.int .i64 (W : Int), .int .i64 (H : Int), .int .i64 (B : Int), .int .i64 (C : Int), .slice A n c], .slice A2 n2 c2] w (NoImg w) := by
  have HF := Lib.hid (fun w => hasFormat_any (W : Int) (H : Int) (B : Int) (C : Int) A n c w)
  rw [hF] at HF
  have HP := Lib.hid (fun w => perRow_any (W : Int) (H : Int) (B : Int) (C : Int) A n c (P : Int) w (by rw [← Int.natCast_mul, hP, IntKind.wrap_i64]; omega))
  have e1 : IntKind.i64.wrap ((H : Int) * (P : Int)) = (N : Int) := by rw [← Int.natCast_mul, hN, IntKind.wrap_i64]; omega
  obtain ⟨hI, hO, hB⟩ := start_img w (.int .i64 (W : Int)) (.int .i64 (H : Int)) (.int .i64 (B : Int)) (.int .i64 (C : Int)) (.slice A n c)
  have HI := Lib.hid hI
  have HO0 := Lib.hid hO
  have HB0 := Lib.hid hB
  have d1 : ((n2 : Int) != (N : Int)) = true := by simp; omega
  have d2 : ¬ (n2 : Int) = (N : Int) := by omega
  clear hI hO hB hF hP hN
  go_enter Try.func12, Try.ntmps12
  go_wp2_with fail
  generalize hW0 : (w.alloc (.cells #[.int .i64 (W : Int), .int .i64 (H : Int), .int .i64 (B : Int), .int .i64 (C : Int), .slice A n c] 24)).alloc (.cells #[.int .i64 0, .int .i64 0, .int .i64 0, .int .i64 0, .slice none 0 0] 24) = W0 at *
  clear hW0
  have HK := Below.refl W0.heap.size W0
  have lI := HI.out.lt
  go_region_held3 (fun v => v.cell? ⟨w.heap.size, 0, none⟩ = some (.int .i64 (W : Int)) ∧ v.cell? ⟨w.heap.size, 1, none⟩ = some (.int .i64 (H : Int)) ∧ v.cell? ⟨w.heap.size, 2, none⟩ = some (.int .i64 (B : Int)) ∧ v.cell? ⟨w.heap.size, 3, none⟩ = some (.int .i64 (C : Int)) ∧ v.cell? ⟨w.heap.size, 4, none⟩ = some (.slice A n c))
    (first | with_reducible exact img_cells (HI.out.here HK) | with_reducible exact img_cells (HI.out.here (Below.drew HK)))
    (first
      | (go_at_call 31; (with_reducible refine (HF.out _).mono ?_); rintro x v ⟨rfl, kk⟩; have HK := (Below.drew HK).trans (kk.mono (Below.drew HK).size))
      | (go_at_call 27; (with_reducible refine (HP.out _).mono ?_); rintro x v ⟨rfl, kk⟩; have HK := HK.trans (kk.mono HK.size)))
  all_goals
    have HO := Lib.hid (HO0.out.here HK)
    have HB := Lib.hid (HB0.out.trans (HK.mono HB0.out.size))
    obtain ⟨p1, p2, p3⟩ := five_facts HO.out
    clear HK
    go_wp2_with fail
    refine ret_img (E := 1) (g := w.heap.size + 1) (five_set HO.out) (fun V hV => by have rv := hV.reads; simp [results, Try.results12, go_sem, rv]) rfl ?_
    exact ⟨rfl, five_below HB.out (by omega) _ _ _ _ _⟩
/-- Between two rounds of Pack. -/
structure PkSt (w wr : World) (O Q R : Nat) (im om : Array Value) (bs : List Nat) : Prop where
  im : Whole wr w.heap.size 24 im
  res : Whole wr O 24 #[.int .i64 0, .int .i64 0, .int .i64 0, .int .i64 0, .slice none 0 0]
  out : Whole wr Q 24 om
  row : Whole wr R 5 (bvs bs).toArray
  below : Below w.heap.size w wr
  low : w.heap.size ≤ O ∧ w.heap.size ≤ Q ∧ w.heap.size ≤ R ∧ Q ≠ O
theorem PkSt.put {w wr wr' : World} {O Q R : Nat} {im om : Array Value} {bs bs' : List Nat} (h : PkSt w wr O Q R im om bs) (k : PutSt wr wr' R bs') : PkSt w wr' O Q R im om bs' := by
  have ap : ∀ {g : Nat} {cs : Array Value}, Whole wr g 24 cs → Whole wr' g 24 cs := fun hw => hw.frame k.fr (fun e => hw.apart h.row (by decide) e)
  exact ⟨ap h.im, ap h.res, ap h.out, k.row, h.below.trans (k.fr.below h.below.size (fun j e => by have := h.low; show ¬ j = R; omega)), h.low⟩
theorem PkSt.drew {w wr : World} {O Q R : Nat} {im om : Array Value} {bs : List Nat} (h : PkSt w wr O Q R im om bs) : PkSt w wr.drew O Q R im om bs := ⟨h.im, h.res, h.out, h.row, h.below.drew, h.low⟩
/-- What Pack answers of good samples. -/
def PackGo (W H B C P S n2 : Nat) (l : List Int) (w : World) (e : Ending) (w' : World) : Prop :=
  ∃ R, e = .returned (.tuple #[.agg #[.int .i64 (W : Int), .int .i64 (H : Int), .int .i64 (B : Int), .int .i64 (C : Int), .slice (some ⟨R, 0, none⟩) (H * S) (H * S)], .int .i64 0]) ∧ Whole w' R 5 (bvs (pkN (l.map Int.toNat) B S P (H * S) n2)).toArray ∧ Below w.heap.size w w'
def goodV (B : Nat) (v : Int) : Prop := 0 ≤ v ∧ v < ((2 ^ B : Nat) : Int)
set_option maxRecDepth 100000 in
set_option maxHeartbeats 4000000 in
theorem pack_go (W H B C P S N : Nat) (A : Option Addr) (n c : Nat) (A2 : Option Addr) (c2 : Nat) (l : List Int) (w : World) (hF : fmtB (W : Int) (H : Int) (B : Int) (C : Int) = true) (hP : W * C = P) (hP2 : P ≤ 262144) (hP0 : 0 < P) (hBB : B = 1 ∨ B = 2 ∨ B = 4 ∨ B = 8 ∨ B = 16) (hS : (P * B + 7) / 8 = S) (hPB : P * B ≤ 10000000) (hHS : H * S ≤ 1000000) (hN : H * P = N) (hN2 : N ≤ 262144) (hl : IntsAt w A2 N c2 l) :
    Calls Try.prog 12 #[.agg #[.int .i64 (W : Int), .int .i64 (H : Int), .int .i64 (B : Int), .int .i64 (C : Int), .slice A n c], .slice A2 N c2] w fun e w' => ((∀ v ∈ l, goodV B v) ∧ PackGo W H B C P S N l w e w') ∨ ((¬ ∀ v ∈ l, goodV B v) ∧ NoImg w e w') := by
  have HF := Lib.hid (fun w => hasFormat_any (W : Int) (H : Int) (B : Int) (C : Int) A n c w)
  rw [hF] at HF
  have HP := Lib.hid (fun w => perRow_any (W : Int) (H : Int) (B : Int) (C : Int) A n c (P : Int) w (by rw [← Int.natCast_mul, hP, IntKind.wrap_i64]; omega))
  have e1 : IntKind.i64.wrap ((H : Int) * (P : Int)) = (N : Int) := by rw [← Int.natCast_mul, hN, IntKind.wrap_i64]; omega
  obtain ⟨hI, hO, hB⟩ := start_img w (.int .i64 (W : Int)) (.int .i64 (H : Int)) (.int .i64 (B : Int)) (.int .i64 (C : Int)) (.slice A n c)
  have HI := Lib.hid hI
  have HO0 := Lib.hid hO
  have HB0 := Lib.hid hB
  have HR := Lib.hid (fun w => rowSize_any (H : Int) W B C A n c w (by rw [hP]; exact hPB) (by rw [hP]; omega))
  rw [hP, hS] at HR
  obtain ⟨G, hG⟩ : ∃ G, H * S = G := ⟨_, rfl⟩
  rw [hG] at hHS
  have e2 : IntKind.i64.wrap ((H : Int) * (S : Int)) = (G : Int) := by rw [← Int.natCast_mul, hG, IntKind.wrap_i64]; omega
  obtain ⟨zs, hzs⟩ : ∃ z, (bvs (List.replicate G 0)).toArray = z := ⟨_, rfl⟩
  have hmk : ∀ V : World, (Instr.makeSlice 22 (.int .i64 (G : Int)) (.int .i64 (G : Int))).run Try.prog V = .ok (.slice (some ⟨V.heap.size, 0, none⟩) G G) (V.alloc (.cells zs 5)) := fun V => hzs ▸ make_u8 G (by omega) V
  have HL := Lib.hid hl
  have HQQ := Lib.hid (And.intro hP (And.intro hP2 (And.intro hP0 (And.intro hBB (And.intro hS (And.intro hN (And.intro hN2 (And.intro hG hzs))))))))
  clear hI hO hF hP hN hl hS hG hzs hPB hP2 hP0
  clear hB hBB
  go_enter Try.func12, Try.ntmps12
  go_wp2_with fail
  generalize hW0 : (w.alloc (.cells #[.int .i64 (W : Int), .int .i64 (H : Int), .int .i64 (B : Int), .int .i64 (C : Int), .slice A n c] 24)).alloc (.cells #[.int .i64 0, .int .i64 0, .int .i64 0, .int .i64 0, .slice none 0 0] 24) = W0 at *
  clear hW0
  have HK := Below.refl W0.heap.size W0
  have lI := HI.out.lt
  go_region_held3 (fun v => v.cell? ⟨w.heap.size, 0, none⟩ = some (.int .i64 (W : Int)) ∧ v.cell? ⟨w.heap.size, 1, none⟩ = some (.int .i64 (H : Int)) ∧ v.cell? ⟨w.heap.size, 2, none⟩ = some (.int .i64 (B : Int)) ∧ v.cell? ⟨w.heap.size, 3, none⟩ = some (.int .i64 (C : Int)) ∧ v.cell? ⟨w.heap.size, 4, none⟩ = some (.slice A n c))
    (first | with_reducible exact img_cells (HI.out.here HK) | with_reducible exact img_cells (HI.out.here (Below.drew HK)))
    (first
      | (go_at_call 31; (with_reducible refine (HF.out _).mono ?_); rintro x v ⟨rfl, kk⟩; have HK := (Below.drew HK).trans (kk.mono (Below.drew HK).size))
      | (go_at_call 27; (with_reducible refine (HP.out _).mono ?_); rintro x v ⟨rfl, kk⟩; have HK := HK.trans (kk.mono HK.size)))
  all_goals
    have HK1 := Lib.hid HK
    have kz := HK.size
    clear HK
    go_wp2_with fail
    have hQ := Whole.made v 24 #[.int .i64 (W : Int), .int .i64 (H : Int), .int .i64 (B : Int), .int .i64 (C : Int), .slice A n c]
    have sv := HB0.out.size
    have st : w.heap.size ≤ v.heap.size ∧ w.heap.size + 1 < v.heap.size := by
      have := HO0.out.lt
      omega
    have hB1 : Below w.heap.size w (v.alloc (.cells #[.int .i64 (W : Int), .int .i64 (H : Int), .int .i64 (B : Int), .int .i64 (C : Int), .slice A n c] 24)) := (HB0.out.trans (HK1.out.mono HB0.out.size)).alloc st.1 _
    have hI1 := (HI.out.here HK1.out).old (.cells #[.int .i64 (W : Int), .int .i64 (H : Int), .int .i64 (B : Int), .int .i64 (C : Int), .slice A n c] 24)
    have hO1 := (HO0.out.here HK1.out).old (.cells #[.int .i64 (W : Int), .int .i64 (H : Int), .int .i64 (B : Int), .int .i64 (C : Int), .slice A n c] 24)
    obtain ⟨Q0, hQ0⟩ : ∃ q, v.heap.size = q := ⟨_, rfl⟩
    have sV1 : (v.alloc (.cells #[.int .i64 (W : Int), .int .i64 (H : Int), .int .i64 (B : Int), .int .i64 (C : Int), .slice A n c] 24)).heap.size = Q0 + 1 := by simp [hQ0]
    rw [hQ0] at hQ st ⊢
    clear hQ0 HK1 kz
    generalize v.alloc (.cells #[.int .i64 (W : Int), .int .i64 (H : Int), .int .i64 (B : Int), .int .i64 (C : Int), .slice A n c] 24) = V1 at *
    have HST := Lib.hid (And.intro hQ (And.intro hI1 (And.intro hO1 hB1)))
    clear hQ hI1 hO1 hB1 HI HO0 HB0 HF HP
    have HK := Below.refl Q0 V1
    have hkz : Q0 ≤ V1.heap.size := by omega
    have lI := HST.out.2.1.lt
    obtain ⟨p1, p2, p3⟩ := five_facts HST.out.1
    go_region_held3 (fun v => v.cell? ⟨w.heap.size, 0, none⟩ = some (.int .i64 (W : Int)) ∧ v.cell? ⟨w.heap.size, 1, none⟩ = some (.int .i64 (H : Int)) ∧ v.cell? ⟨w.heap.size, 2, none⟩ = some (.int .i64 (B : Int)) ∧ v.cell? ⟨w.heap.size, 3, none⟩ = some (.int .i64 (C : Int)) ∧ v.cell? ⟨w.heap.size, 4, none⟩ = some (.slice A n c))
      (with_reducible refine img_cells (HST.out.2.1.later (B := Q0) ?_ (by omega)); (repeat (first | with_reducible exact HK | with_reducible refine Below.drew ?_ | (with_reducible refine Below.alloc ?_ ?_ _; rotate_left; focus (first | exact hkz | exact Nat.le_refl _ | omega | (simp; omega))) | (with_reducible refine Below.setCell ?_ ?_ _; rotate_left; focus (first | exact Nat.le_refl _ | omega | (simp; omega) | (simp; done))))))
      (first
        | (go_at_call 32; (with_reducible refine (HR.out _).mono ?_); rintro x u ⟨rfl, kk⟩; have kk := undrew2 kk; have HK := HK.trans (kk.mono hkz); have hkz := Nat.le_trans hkz kk.size; have hQu := HST.out.1.here kk; obtain ⟨q1, q2, q3⟩ := five_facts hQu))
    have hkk := HK
    have HS0 : Hid (PkSt w ((u.setCell ⟨Q0, 4, none⟩ (.slice (some ⟨u.heap.size, 0, none⟩) G G)).alloc (.cells zs 5)) (w.heap.size + 1) Q0 u.heap.size #[.int .i64 (W : Int), .int .i64 (H : Int), .int .i64 (B : Int), .int .i64 (C : Int), .slice A n c] #[.int .i64 (W : Int), .int .i64 (H : Int), .int .i64 (B : Int), .int .i64 (C : Int), .slice (some ⟨u.heap.size, 0, none⟩) G G] (List.replicate G 0)) := Lib.hid (by
      have t1 := ((HST.out.2.1.later (B := Q0) hkk (by omega)).away (p := ⟨Q0, 4, none⟩) (by show w.heap.size ≠ Q0; omega) (.slice (some ⟨u.heap.size, 0, none⟩) G G)).old (.cells zs 5)
      have t2 := ((HST.out.2.2.1.later (B := Q0) hkk (by omega)).away (p := ⟨Q0, 4, none⟩) (by show w.heap.size + 1 ≠ Q0; omega) (.slice (some ⟨u.heap.size, 0, none⟩) G G)).old (.cells zs 5)
      have t3 := (hQu.set 4 (.slice (some ⟨u.heap.size, 0, none⟩) G G)).old (.cells zs 5)
      have t4 := Whole.made (u.setCell ⟨Q0, 4, none⟩ (.slice (some ⟨u.heap.size, 0, none⟩) G G)) 5 zs
      simp only [World.size_setCell] at t4
      have t5 := HST.out.2.2.2.trans (hkk.mono (show w.heap.size ≤ Q0 from st.1))
      refine ⟨t1, t2, by simpa using t3, by rw [HQQ.out.2.2.2.2.2.2.2.2]; exact t4, (t5.setCell (p := ⟨Q0, 4, none⟩) st.1 _).alloc (by have := t5.size; simp; omega) _, by omega, st.1, by have := t5.size; omega, by omega⟩)
    obtain ⟨R, hR⟩ : ∃ R, u.heap.size = R := ⟨_, rfl⟩
    rw [hR] at HS0 ⊢
    clear hkk HK hQu q1 q2 q3 p1 p2 p3 hkz kk lI hR
    generalize (u.setCell ⟨Q0, 4, none⟩ (.slice (some ⟨R, 0, none⟩) G G)).alloc (.cells zs 5) = U at *
    clear HST sV1
    go_wp2_with fail
    go_loopw [33] (fun i wr => ∃ k : Nat, i = .int .i64 (k : Int) ∧ k ≤ N ∧ Hid (PkSt w wr (w.heap.size + 1) Q0 R #[.int .i64 (W : Int), .int .i64 (H : Int), .int .i64 (B : Int), .int .i64 (C : Int), .slice A n c] #[.int .i64 (W : Int), .int .i64 (H : Int), .int .i64 (B : Int), .int .i64 (C : Int), .slice (some ⟨R, 0, none⟩) G G] (pkN (l.map Int.toNat) B S P G k)) ∧ Hid (∀ v ∈ l.take k, goodV B v)) (fun i _ => N - (intOf i).toNat)
    case atStart => exact ⟨0, rfl, by omega, HS0, Lib.hid (fun v hv => by simp at hv)⟩
    case round =>
      obtain ⟨k, rfl, hk, HS, HG⟩ := hrel
      by_cases hlt : k < N
      · have d1 : decide ((k : Int) < (N : Int)) = true := decide_eq_true (by omega)
        obtain ⟨v, hv⟩ : ∃ v, l[k]? = some v := ⟨_, List.getElem?_eq_getElem (by rw [HL.out.len]; exact hlt)⟩
        obtain ⟨R2, o2, rfl, hR2, hcell⟩ := (HL.out.below HS.out.below).at_ (by omega)
        have hc0 := hcell k v hv
        have b0 : (0 : Int) ≤ (k : Int) := by omega
        have b1 : (k : Int) < (N : Int) := by omega
        obtain ⟨i1, i2, i3⟩ := five_facts HS.out.im
        obtain ⟨q1, q2, q3⟩ := five_facts HS.out.out
        obtain ⟨M, hM⟩ : ∃ M, 2 ^ B = M := ⟨_, rfl⟩
        have hM1 : M ≤ 65536 := by
          have : 2 ^ B ≤ 2 ^ 16 := Nat.pow_le_pow_right (by omega) (by have := HQQ.out.2.2.2.1; omega)
          omega
        have m1 : (2 : Int) ^ B = (M : Int) := by rw [two_pow_cast, hM]
        have m2 : IntKind.i64.wrap (M : Int) = (M : Int) := by rw [IntKind.wrap_i64]; omega
        have HM := Lib.hid hM
        have hB16 : B ≤ 16 := by have := HQQ.out.2.2.2.1; omega
        have HV := Lib.hid hv
        clear hcell hM hv
        by_cases h0 : v < 0
        · have d2 : decide (v < 0) = true := decide_eq_true h0
          have HN := Lib.hid (show ¬ ∀ x ∈ l, goodV B x from fun k => by have := (k v (List.mem_of_getElem? HV.out)).1; omega)
          have HO := Lib.hid HS.out.res
          have HB := Lib.hid HS.out.below
          obtain ⟨p1, p2, p3⟩ := five_facts HO.out
          clear h0
          go_wp2_with fail
          refine ret_img (E := 1) (g := w.heap.size + 1) (five_set HO.out) (fun V hV => by have rv := hV.reads; simp [results, Try.results12, go_sem, rv]) rfl ?_
          exact .inr ⟨HN.out, rfl, five_below HB.out (by omega) _ _ _ _ _⟩
        · have d2 : decide (v < 0) = false := decide_eq_false h0
          obtain ⟨x, rfl⟩ : ∃ x : Nat, v = (x : Int) := ⟨v.toNat, by omega⟩
          by_cases hx : M ≤ x
          · have d3 : decide ((M : Int) ≤ (x : Int)) = true := decide_eq_true (by omega)
            have d4 : decide (M ≤ x) = true := decide_eq_true (by omega)
            have d5 : M ≤ x := by omega
            have HN := Lib.hid (show ¬ ∀ x ∈ l, goodV B x from fun k => by have := (k _ (List.mem_of_getElem? HV.out)).2; have := HM.out; omega)
            have HO := Lib.hid HS.out.res
            have HB := Lib.hid HS.out.below
            obtain ⟨p1, p2, p3⟩ := five_facts HO.out
            clear hx h0
            go_wp2_with fail
            refine ret_img (E := 1) (g := w.heap.size + 1) (five_set HO.out) (fun V hV => by have rv := hV.reads; simp [results, Try.results12, go_sem, rv]) rfl ?_
            exact .inr ⟨HN.out, rfl, five_below HB.out (by omega) _ _ _ _ _⟩
          · have d3 : decide ((M : Int) ≤ (x : Int)) = false := decide_eq_false (by omega)
            have d4 : decide (M ≤ x) = false := decide_eq_false (by omega)
            have d5 : ¬ M ≤ x := by omega
            obtain ⟨zP, zP2, zP0, zB, zS, zN, zN2, zG, zz⟩ := HQQ.out
            have hgv : goodV B (x : Int) := ⟨by omega, by have := HM.out; omega⟩
            have HGN := Lib.hid (show ∀ y ∈ l.take (k + 1), goodV B y from fun y hy => by
              rw [List.take_add_one, HV.out] at hy
              rcases List.mem_append.1 hy with hy | hy
              · exact HG.out y hy
              · simp at hy; subst hy; exact hgv)
            have hpk := pkN_is (H := H) (l := l.map Int.toNat) zB zS zP0 k (by omega) (fun j hj => by
              have hj2 : j < l.length := by rw [HL.out.len]; omega
              rw [List.getD_eq_getElem?_getD, List.getElem?_map, List.getElem?_eq_getElem hj2]
              have := HG.out l[j] (List.mem_take_iff_getElem.2 ⟨j, Nat.lt_min.2 ⟨hj, hj2⟩, rfl⟩)
              show l[j].toNat < 2 ^ B
              have := this.1
              have := (HG.out l[j] (List.mem_take_iff_getElem.2 ⟨j, Nat.lt_min.2 ⟨hj, hj2⟩, rfl⟩)).2
              omega)
            rw [zG] at hpk
            have HPUT := Lib.hid (fun u hu => put_any H W B C k P S R G G (pkN (l.map Int.toNat) B S P G k) x u hu hpk.1 hpk.2.1 zP zS zP0 (by omega) zB zG.symm (by omega) (by have := HM.out; omega) (by rw [hpk.2.2 k (by omega), if_neg (by omega)]))
            have HST := Lib.hid (show putB (pkN (l.map Int.toNat) B S P G k) B S P k x = pkN (l.map Int.toNat) B S P G (k + 1) by
              rw [pkN, List.getD_eq_getElem?_getD, List.getElem?_map, HV.out]
              rfl)
            clear hx h0 hgv hpk zP zP2 zP0 zB zS zN zN2 zG zz
            go_wp2_with fail
            refine (HPUT.out _ HS.out.row).mono ?_
            rintro e u ⟨rfl, hp⟩
            have HS2 := Lib.hid (HST.out ▸ HS.out.put hp)
            clear hp HPUT HST i1 i2 i3 q1 q2 q3 hc0
            go_wp2_with fail
            go_roundw
            case rel => exact ⟨k + 1, by go_num, by omega, HS2, HGN⟩
            case measure => simp [intOf]; omega
      · obtain rfl : k = N := by omega
        have d1 : decide ((k : Int) < (k : Int)) = false := by simp
        have HO := Lib.hid HS.out.res
        have HB := Lib.hid HS.out.below
        have HR2 := Lib.hid HS.out.row
        obtain ⟨p1, p2, p3⟩ := five_facts HO.out
        obtain ⟨q1, q2, q3⟩ := five_facts HS.out.out
        have hne := HS.out.low
        have ap : R ≠ w.heap.size + 1 := HS.out.row.apart HS.out.res (by decide)
        have HGA := Lib.hid (show ∀ v ∈ l, goodV B v by
          have := HG.out
          rwa [List.take_of_length_le (by rw [HL.out.len]; exact Nat.le_refl _)] at this)
        go_wp2_with fail
        refine ret_img (E := 0) (g := w.heap.size + 1) (five_set HO.out) (fun V hV => by have rv := hV.reads; simp [results, Try.results12, go_sem, rv]) rfl ?_
        refine .inl ⟨HGA.out, R, by rw [HQQ.out.2.2.2.2.2.2.2.1], ?_, five_below HB.out (by omega) _ _ _ _ _⟩
        rw [HQQ.out.2.2.2.2.2.2.2.1]
        exact five_away HR2.out ap _ _ _ _ _

end Go.Proofs.Ytmleoagdelgddaa
