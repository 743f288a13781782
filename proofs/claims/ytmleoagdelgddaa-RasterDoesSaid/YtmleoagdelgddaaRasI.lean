/- raster: the grid's corners of a pixel. -/
import Derived.Test.YtmleoagdelgddaaRasH
namespace Go.Proofs.Ytmleoagdelgddaa
open Go.RowKit Dec

theorem uncons {α : Type} {n : Nat} {l : List α} (h : l.length = n + 1) : ∃ a t, l = a :: t ∧ t.length = n := by
  cases l with
  | nil => cases h
  | cons a t => exact ⟨a, t, rfl, by simpa using h⟩
theorem set16 (l : List Value) (hl : l.length = 16) (x0 x1 x2 x3 x4 x5 x6 x7 x8 x9 x10 x11 x12 x13 x14 x15 : Value) : ((((((((((((((((l.toArray.setIfInBounds 0 x0).setIfInBounds 1 x1).setIfInBounds 2 x2).setIfInBounds 3 x3).setIfInBounds 4 x4).setIfInBounds 5 x5).setIfInBounds 6 x6).setIfInBounds 7 x7).setIfInBounds 8 x8).setIfInBounds 9 x9).setIfInBounds 10 x10).setIfInBounds 11 x11).setIfInBounds 12 x12).setIfInBounds 13 x13).setIfInBounds 14 x14).setIfInBounds 15 x15) = #[x0, x1, x2, x3, x4, x5, x6, x7, x8, x9, x10, x11, x12, x13, x14, x15] := by
  obtain ⟨a0, l0, rfl, h0⟩ := uncons hl
  obtain ⟨a1, l1, rfl, h1⟩ := uncons h0
  obtain ⟨a2, l2, rfl, h2⟩ := uncons h1
  obtain ⟨a3, l3, rfl, h3⟩ := uncons h2
  obtain ⟨a4, l4, rfl, h4⟩ := uncons h3
  obtain ⟨a5, l5, rfl, h5⟩ := uncons h4
  obtain ⟨a6, l6, rfl, h6⟩ := uncons h5
  obtain ⟨a7, l7, rfl, h7⟩ := uncons h6
  obtain ⟨a8, l8, rfl, h8⟩ := uncons h7
  obtain ⟨a9, l9, rfl, h9⟩ := uncons h8
  obtain ⟨a10, l10, rfl, h10⟩ := uncons h9
  obtain ⟨a11, l11, rfl, h11⟩ := uncons h10
  obtain ⟨a12, l12, rfl, h12⟩ := uncons h11
  obtain ⟨a13, l13, rfl, h13⟩ := uncons h12
  obtain ⟨a14, l14, rfl, h14⟩ := uncons h13
  obtain ⟨a15, l15, rfl, h15⟩ := uncons h14
  cases l15 with
  | nil => simp only [List.setIfInBounds_toArray, List.set_cons_zero, List.set_cons_succ]
  | cons _ _ => cases h15
theorem Whole.store16 {w : World} {B : Nat} {T : TypeId} {x0 x1 x2 x3 x4 x5 x6 x7 x8 x9 x10 x11 x12 x13 x14 x15 : Value} {cs : Array Value} (h : Whole w B T cs) (hs : cs.size = 16) :
    Whole ((((((((((((((((w.setCell ⟨B, 0, none⟩ x0).setCell ⟨B, 1, none⟩ x1).setCell ⟨B, 2, none⟩ x2).setCell ⟨B, 3, none⟩ x3).setCell ⟨B, 4, none⟩ x4).setCell ⟨B, 5, none⟩ x5).setCell ⟨B, 6, none⟩ x6).setCell ⟨B, 7, none⟩ x7).setCell ⟨B, 8, none⟩ x8).setCell ⟨B, 9, none⟩ x9).setCell ⟨B, 10, none⟩ x10).setCell ⟨B, 11, none⟩ x11).setCell ⟨B, 12, none⟩ x12).setCell ⟨B, 13, none⟩ x13).setCell ⟨B, 14, none⟩ x14).setCell ⟨B, 15, none⟩ x15) B T #[x0, x1, x2, x3, x4, x5, x6, x7, x8, x9, x10, x11, x12, x13, x14, x15] := by
  have h' := ((((((((((((((((h.set 0 x0).set 1 x1).set 2 x2).set 3 x3).set 4 x4).set 5 x5).set 6 x6).set 7 x7).set 8 x8).set 9 x9).set 10 x10).set 11 x11).set 12 x12).set 13 x13).set 14 x14).set 15 x15)
  obtain ⟨l⟩ := cs
  rw [set16 l hs] at h'
  exact h'
theorem Whole.fill16 {w : World} {B : Nat} {T : TypeId} {x0 x1 x2 x3 x4 x5 x6 x7 x8 x9 x10 x11 x12 x13 x14 x15 : Value} (h : Whole w B T #[.int .i64 0, .int .i64 0, .int .i64 0, .int .i64 0, .int .i64 0, .int .i64 0, .int .i64 0, .int .i64 0, .int .i64 0, .int .i64 0, .int .i64 0, .int .i64 0, .int .i64 0, .int .i64 0, .int .i64 0, .int .i64 0]) :
    Whole ((((((((((((((((w.setCell ⟨B, 0, none⟩ x0).setCell ⟨B, 1, none⟩ x1).setCell ⟨B, 2, none⟩ x2).setCell ⟨B, 3, none⟩ x3).setCell ⟨B, 4, none⟩ x4).setCell ⟨B, 5, none⟩ x5).setCell ⟨B, 6, none⟩ x6).setCell ⟨B, 7, none⟩ x7).setCell ⟨B, 8, none⟩ x8).setCell ⟨B, 9, none⟩ x9).setCell ⟨B, 10, none⟩ x10).setCell ⟨B, 11, none⟩ x11).setCell ⟨B, 12, none⟩ x12).setCell ⟨B, 13, none⟩ x13).setCell ⟨B, 14, none⟩ x14).setCell ⟨B, 15, none⟩ x15) B T #[x0, x1, x2, x3, x4, x5, x6, x7, x8, x9, x10, x11, x12, x13, x14, x15] := h.store16 rfl
theorem Whole.away16 {w : World} {g B : Nat} {T : TypeId} {x0 x1 x2 x3 x4 x5 x6 x7 x8 x9 x10 x11 x12 x13 x14 x15 : Value} {cs : Array Value} (h : Whole w g T cs) (hn : g ≠ B) :
    Whole ((((((((((((((((w.setCell ⟨B, 0, none⟩ x0).setCell ⟨B, 1, none⟩ x1).setCell ⟨B, 2, none⟩ x2).setCell ⟨B, 3, none⟩ x3).setCell ⟨B, 4, none⟩ x4).setCell ⟨B, 5, none⟩ x5).setCell ⟨B, 6, none⟩ x6).setCell ⟨B, 7, none⟩ x7).setCell ⟨B, 8, none⟩ x8).setCell ⟨B, 9, none⟩ x9).setCell ⟨B, 10, none⟩ x10).setCell ⟨B, 11, none⟩ x11).setCell ⟨B, 12, none⟩ x12).setCell ⟨B, 13, none⟩ x13).setCell ⟨B, 14, none⟩ x14).setCell ⟨B, 15, none⟩ x15) g T cs := ((((((((((((((((h.away (p := ⟨B, 0, none⟩) hn x0).away (p := ⟨B, 1, none⟩) hn x1).away (p := ⟨B, 2, none⟩) hn x2).away (p := ⟨B, 3, none⟩) hn x3).away (p := ⟨B, 4, none⟩) hn x4).away (p := ⟨B, 5, none⟩) hn x5).away (p := ⟨B, 6, none⟩) hn x6).away (p := ⟨B, 7, none⟩) hn x7).away (p := ⟨B, 8, none⟩) hn x8).away (p := ⟨B, 9, none⟩) hn x9).away (p := ⟨B, 10, none⟩) hn x10).away (p := ⟨B, 11, none⟩) hn x11).away (p := ⟨B, 12, none⟩) hn x12).away (p := ⟨B, 13, none⟩) hn x13).away (p := ⟨B, 14, none⟩) hn x14).away (p := ⟨B, 15, none⟩) hn x15)
theorem B16 {W w : World} {b B : Nat} {x0 x1 x2 x3 x4 x5 x6 x7 x8 x9 x10 x11 x12 x13 x14 x15 : Value} (hB : b ≤ B) (h : Below b W w) : Below b W ((((((((((((((((w.setCell ⟨B, 0, none⟩ x0).setCell ⟨B, 1, none⟩ x1).setCell ⟨B, 2, none⟩ x2).setCell ⟨B, 3, none⟩ x3).setCell ⟨B, 4, none⟩ x4).setCell ⟨B, 5, none⟩ x5).setCell ⟨B, 6, none⟩ x6).setCell ⟨B, 7, none⟩ x7).setCell ⟨B, 8, none⟩ x8).setCell ⟨B, 9, none⟩ x9).setCell ⟨B, 10, none⟩ x10).setCell ⟨B, 11, none⟩ x11).setCell ⟨B, 12, none⟩ x12).setCell ⟨B, 13, none⟩ x13).setCell ⟨B, 14, none⟩ x14).setCell ⟨B, 15, none⟩ x15) := ((((((((((((((((h.setCell hB _).setCell hB _).setCell hB _).setCell hB _).setCell hB _).setCell hB _).setCell hB _).setCell hB _).setCell hB _).setCell hB _).setCell hB _).setCell hB _).setCell hB _).setCell hB _).setCell hB _).setCell hB _)
/-- The four corners of a pixel. -/
def crn (F : Nat → PV) (X x z : Nat) : Nat → PV
  | 0 => F (z * (X + 1) + x)
  | 1 => F (z * (X + 1) + x + 1)
  | 2 => F ((z + 1) * (X + 1) + x)
  | _ => F ((z + 1) * (X + 1) + x + 1)
def fourV (F : Nat → PV) (X x z : Nat) : Array Value := #[.int .i64 (crn F X x z 0).x.m, .int .i64 (crn F X x z 0).x.s, .int .i64 (crn F X x z 0).y.m, .int .i64 (crn F X x z 0).y.s, .int .i64 (crn F X x z 1).x.m, .int .i64 (crn F X x z 1).x.s, .int .i64 (crn F X x z 1).y.m, .int .i64 (crn F X x z 1).y.s, .int .i64 (crn F X x z 2).x.m, .int .i64 (crn F X x z 2).x.s, .int .i64 (crn F X x z 2).y.m, .int .i64 (crn F X x z 2).y.s, .int .i64 (crn F X x z 3).x.m, .int .i64 (crn F X x z 3).x.s, .int .i64 (crn F X x z 3).y.m, .int .i64 (crn F X x z 3).y.s]
theorem crn_pts {w : World} {B : Nat} {T : TypeId} {F : Nat → PV} {X x z : Nat} (h : Whole w B T (fourV F X x z)) : ∀ i < 4, PAt w B (0 + i * 4) (crn F X x z i) := by
  intro i hi
  rcases (by omega : i = 0 ∨ i = 1 ∨ i = 2 ∨ i = 3) with rfl | rfl | rfl | rfl
  · exact ⟨h.reads 0, h.reads 1, h.reads 2, h.reads 3⟩
  · exact ⟨h.reads 4, h.reads 5, h.reads 6, h.reads 7⟩
  · exact ⟨h.reads 8, h.reads 9, h.reads 10, h.reads 11⟩
  · exact ⟨h.reads 12, h.reads 13, h.reads 14, h.reads 15⟩
theorem ret_four {fn : Func} {a : Act} {Q : Ending → World → Prop} {W : World} {g : Nat} {cs : Array Value} (hW : Whole W g 96 cs)
    (hr : ∀ V : World, Whole V g 96 cs → (results fn a.tmps).run Try.prog V = .ok (.agg cs) V) (hd : a.defers = []) (hQ : Q (.returned (.agg cs)) W) : bodyPost Try.prog fn Q .ret a W :=
  bodyPost_ret (hr W hW) hd hQ
set_option maxRecDepth 100000 in
set_option maxHeartbeats 8000000 in
theorem corners_any (F : Nat → PV) (X Z R o n c x z : Nat) (w : World) (hn : n = (Z + 1) * (X + 1)) (hn9 : n ≤ 1000000) (hx : x < X) (hz : z < Z) (hF : ∀ i < n, PAt w R (o + i * 4) (F i)) (hR : R < w.heap.size) :
    Calls Try.prog 56 #[.agg #[.int .i64 (X : Int), .int .i64 (Z : Int), .slice (some ⟨R, o, none⟩) n c], .int .i64 (x : Int), .int .i64 (z : Int)] w fun e w' => e = .returned (.agg (fourV F X x z)) ∧ Below w.heap.size w w' := by
  obtain ⟨lo, hlo⟩ : ∃ l, z * (X + 1) + x = l := ⟨_, rfl⟩
  obtain ⟨hi, hhi⟩ : ∃ l, (z + 1) * (X + 1) + x = l := ⟨_, rfl⟩
  have hle : (z + 1) * (X + 1) ≤ Z * (X + 1) := Nat.mul_le_mul_right _ (by omega)
  have hz1 : (z + 1) * (X + 1) = z * (X + 1) + (X + 1) := by rw [Nat.add_mul, Nat.one_mul]
  have hZ1 : (Z + 1) * (X + 1) = Z * (X + 1) + (X + 1) := by rw [Nat.add_mul, Nat.one_mul]
  have b1 : lo + 1 < n := by omega
  have b2 : hi + 1 < n := by omega
  have m1 : IntKind.i64.wrap ((z : Int) * ((X : Int) + 1)) = ((z * (X + 1) : Nat) : Int) := by rw [show (z : Int) * ((X : Int) + 1) = ((z * (X + 1) : Nat) : Int) by rw [Int.natCast_mul]; rfl, IntKind.wrap_i64]; omega
  have m2 : IntKind.i64.wrap (((z * (X + 1) : Nat) : Int) + (x : Int)) = (lo : Int) := by rw [show ((z * (X + 1) : Nat) : Int) + (x : Int) = (lo : Int) by omega, IntKind.wrap_i64]; omega
  have m3 : IntKind.i64.wrap (((z : Int) + 1) * ((X : Int) + 1)) = (((z + 1) * (X + 1) : Nat) : Int) := by rw [show ((z : Int) + 1) * ((X : Int) + 1) = (((z + 1) * (X + 1) : Nat) : Int) by rw [Int.natCast_mul]; rfl, IntKind.wrap_i64]; omega
  have m4 : IntKind.i64.wrap ((((z + 1) * (X + 1) : Nat) : Int) + (x : Int)) = (hi : Int) := by rw [show (((z + 1) * (X + 1) : Nat) : Int) + (x : Int) = (hi : Int) by omega, IntKind.wrap_i64]; omega
  obtain ⟨p0, p1, p2, p3⟩ := hF lo (by omega)
  obtain ⟨q0, q1, q2, q3⟩ := hF (lo + 1) (by omega)
  obtain ⟨r0, r1, r2, r3⟩ := hF hi (by omega)
  obtain ⟨s0, s1, s2, s3⟩ := hF (hi + 1) (by omega)
  have HX := Lib.hid (show fourV F X x z = #[.int .i64 (F lo).x.m, .int .i64 (F lo).x.s, .int .i64 (F lo).y.m, .int .i64 (F lo).y.s, .int .i64 (F (lo+1)).x.m, .int .i64 (F (lo+1)).x.s, .int .i64 (F (lo+1)).y.m, .int .i64 (F (lo+1)).y.s, .int .i64 (F hi).x.m, .int .i64 (F hi).x.s, .int .i64 (F hi).y.m, .int .i64 (F hi).y.s, .int .i64 (F (hi+1)).x.m, .int .i64 (F (hi+1)).x.s, .int .i64 (F (hi+1)).y.m, .int .i64 (F (hi+1)).y.s] by rw [← hlo, ← hhi]; rfl)
  have hX9 : X ≤ 1000000 := by omega
  have hz9 : z ≤ 1000000 := by
    have : z * 1 ≤ z * (X + 1) := Nat.mul_le_mul_left _ (by omega)
    omega
  generalize (z * (X + 1) : Nat) = u1 at m1 m2
  generalize ((z + 1) * (X + 1) : Nat) = u2 at m3 m4
  have HWR := Lib.hid (Whole.made (w.alloc (.cells #[.int .i64 (X : Int), .int .i64 (Z : Int), .slice (some ⟨R, o, none⟩) n c] 69)) 96 #[.int .i64 0, .int .i64 0, .int .i64 0, .int .i64 0, .int .i64 0, .int .i64 0, .int .i64 0, .int .i64 0, .int .i64 0, .int .i64 0, .int .i64 0, .int .i64 0, .int .i64 0, .int .i64 0, .int .i64 0, .int .i64 0])
  have HBB := Lib.hid (((Below.refl w.heap.size w).alloc (Nat.le_refl _) (.cells #[.int .i64 (X : Int), .int .i64 (Z : Int), .slice (some ⟨R, o, none⟩) n c] 69)).alloc (by simp) (.cells #[.int .i64 0, .int .i64 0, .int .i64 0, .int .i64 0, .int .i64 0, .int .i64 0, .int .i64 0, .int .i64 0, .int .i64 0, .int .i64 0, .int .i64 0, .int .i64 0, .int .i64 0, .int .i64 0, .int .i64 0, .int .i64 0] 96))
  have i1 : (0 : Int) ≤ (lo : Int) := by omega
  have i2 : (lo : Int) < (n : Int) := by omega
  have i3 : (0 : Int) ≤ (lo : Int) + 1 := by omega
  have i4 : (lo : Int) + 1 < (n : Int) := by omega
  have i5 : (hi : Int) < (n : Int) := by omega
  have i6 : (hi : Int) + 1 < (n : Int) := by omega
  clear hF hn hlo hhi hle hz1 hZ1
  go_enter Try.func56, Try.ntmps56
  go_wp2_with fail
  go_quiet (fail)
  go_wp2_with fail
  go_region
  go_wp2_with fail
  rw [HX.out]
  refine ret_four (g := w.heap.size + 1) (Whole.fill16 ?hw) (fun V hV => by have rv := hV.reads; simp [results, Try.results56, go_sem, rv]) rfl ?_
  case hw => exact (show Whole _ (w.heap.size + 1) _ _ from by have := HWR.out; simp only [World.size_alloc] at this; exact this.drawn _)
  exact ⟨rfl, B16 (by omega) (below_drewN HBB.out _)⟩
end Go.Proofs.Ytmleoagdelgddaa
