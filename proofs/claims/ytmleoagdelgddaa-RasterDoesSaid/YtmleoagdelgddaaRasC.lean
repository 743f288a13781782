/- raster: the scaler's sum. -/
import Derived.Test.YtmleoagdelgddaaRasB
namespace Go.Proofs.Ytmleoagdelgddaa
open Go.RowKit Dec

/-- (a + b) + c, and its first error. -/
noncomputable def su (a b c : DV) : DV × Int := ((ad (ad a b).1 c).1, kp (ad a b).2 (ad (ad a b).1 c).2)
theorem kp_kp (e a b : Int) : kp (kp e a) b = kp e (kp a b) := by
  unfold kp
  by_cases h : e = 0
  · simp [h]
  · simp [h]
theorem su_ok (a b c : DV) : (su a b c).1.Ok := ad_ok _ _
/-- What lies of a decimal in a block. -/
theorem dec_facts {w : World} {g : Nat} {r : DV} (h : Whole w g 40 #[.int .i64 r.m, .int .i64 r.s]) : w.cell? ⟨g, 0, none⟩ = some (.int .i64 r.m) ∧ w.cell? ⟨g, 1, none⟩ = some (.int .i64 r.s) ∧ w.frozen? ⟨g, 0, none⟩ = false ∧ w.frozen? ⟨g, 1, none⟩ = false ∧ g < w.heap.size := ⟨h.reads 0, h.reads 1, h.thawed 0, h.thawed 1, h.lt⟩
set_option maxRecDepth 100000 in
set_option maxHeartbeats 4000000 in
theorem sum_any (S : Nat) (e : Int) (a b c : DV) (w : World) (h : SC w S e) (ha : a.Ok) (hb : b.Ok) (hc : c.Ok) :
    Calls Try.prog 54 #[.pointer (some ⟨S, 0, none⟩), .agg #[.int .i64 a.m, .int .i64 a.s], .agg #[.int .i64 b.m, .int .i64 b.s], .agg #[.int .i64 c.m, .int .i64 c.s]] w fun x w' => x = .returned (.agg #[.int .i64 (su a b c).1.m, .int .i64 (su a b c).1.s]) ∧ ScSt S (kp e (su a b c).2) w w' := by
  have HA := Lib.hid (fun w => add_tells a b (ad a b).1 (ad a b).2 w ha hb (ad_is a b))
  have HC := Lib.hid (fun w => add_tells (ad a b).1 c (ad (ad a b).1 c).1 (ad (ad a b).1 c).2 w (ad_ok a b) hc (ad_is (ad a b).1 c))
  have hsu : su a b c = ((ad (ad a b).1 c).1, kp (ad a b).2 (ad (ad a b).1 c).2) := rfl
  rw [hsu]
  clear hsu
  obtain ⟨⟨r, E⟩, hr⟩ : ∃ z, ad (ad a b).1 c = z := ⟨_, rfl⟩
  rw [hr] at HC ⊢
  clear hr
  obtain ⟨⟨t, F⟩, ht⟩ : ∃ z, ad a b = z := ⟨_, rfl⟩
  rw [ht] at HC HA ⊢
  clear ht
  have l0 := h.lt
  have H := Lib.hid h
  clear h ha hb hc
  go_enter Try.func54, Try.ntmps54
  go_wp2_with fail
  refine (HA.out _).mono ?_
  rintro x w1 ⟨rfl, hb⟩
  have HB := Lib.hid (show Below w.heap.size w w1 from ((((((Below.refl w.heap.size w).alloc (Nat.le_refl _) (.cells #[.int .i64 a.m, .int .i64 a.s] 40)).alloc (by simp) (.cells #[.int .i64 b.m, .int .i64 b.s] 40)).alloc (by simp; omega) (.cells #[.int .i64 c.m, .int .i64 c.s] 40)).alloc (by simp; omega) (.cells #[.int .i64 0, .int .i64 0] 40)).trans (hb.mono (by simp; omega))))
  have HCC := Lib.hid (show Whole w1 (w.heap.size + 1 + 1) 40 #[.int .i64 c.m, .int .i64 c.s] by
    have := (Whole.made ((w.alloc (.cells #[.int .i64 a.m, .int .i64 a.s] 40)).alloc (.cells #[.int .i64 b.m, .int .i64 b.s] 40)) 40 #[.int .i64 c.m, .int .i64 c.s]).old (.cells #[.int .i64 0, .int .i64 0] 40)
    simp only [World.size_alloc] at this
    exact this.here hb)
  have HR := Lib.hid (show Whole w1 (w.heap.size + 1 + 1 + 1) 40 #[.int .i64 0, .int .i64 0] by
    have := Whole.made (((w.alloc (.cells #[.int .i64 a.m, .int .i64 a.s] 40)).alloc (.cells #[.int .i64 b.m, .int .i64 b.s] 40)).alloc (.cells #[.int .i64 c.m, .int .i64 c.s] 40)) 40 #[.int .i64 0, .int .i64 0]
    simp only [World.size_alloc] at this
    exact this.here hb)
  have lR := HR.out.lt
  clear hb
  have HS1 := Lib.hid (show SC (w1.alloc (.cells #[.int .i64 t.m, .int .i64 t.s] 40)) S e from (H.out.here HB.out).old _)
  have HD1 := Lib.hid (Whole.made w1 40 #[.int .i64 t.m, .int .i64 t.s])
  have HF1 := Lib.hid (FrS.of_below (S := S) (HB.out.alloc HB.out.size (.cells #[.int .i64 t.m, .int .i64 t.s] 40)))
  go_wp2_with fail
  refine (keep_any S e F _ HS1.out).mono ?_
  rintro x w2 ⟨rfl, hsc, hfr⟩
  have HS2 := Lib.hid hsc
  have hD := hfr.keeps HD1.out (by have := HB.out.size; omega)
  have HR2 := Lib.hid (hfr.keeps (HR.out.old _) (by omega))
  have hC := hfr.keeps (HCC.out.old _) (by omega)
  have HF2 := Lib.hid (HF1.out.trans hfr)
  obtain ⟨d0, d1, -, -, d4⟩ := dec_facts hD
  obtain ⟨c0, c1, -, -, c4⟩ := dec_facts hC
  clear hsc hfr hD hC
  go_wp2_with fail
  refine (HC.out _).mono ?_
  rintro x w3 ⟨rfl, hb⟩
  have HS3 := Lib.hid (show SC (w3.alloc (.cells #[.int .i64 r.m, .int .i64 r.s] 40)) S (kp e F) from (HS2.out.here hb).old _)
  have HD3 := Lib.hid (Whole.made w3 40 #[.int .i64 r.m, .int .i64 r.s])
  have HR3 := Lib.hid ((HR2.out.here hb).old (.cells #[.int .i64 r.m, .int .i64 r.s] 40))
  have HF3 := Lib.hid (HF2.out.trans (FrS.of_below (hb.alloc hb.size (.cells #[.int .i64 r.m, .int .i64 r.s] 40))))
  have s23 := hb.size
  have s12 := HF2.out.size
  clear hb d0 d1 d4 c0 c1 c4
  go_wp2_with fail
  refine (keep_any S (kp e F) E _ HS3.out).mono ?_
  rintro x w4 ⟨rfl, hsc, hfr⟩
  have HS4 := Lib.hid hsc
  have hD := hfr.keeps HD3.out (by omega)
  have hR := hfr.keeps HR3.out (by omega)
  have HR4 := Lib.hid hR
  have HF4 := Lib.hid (HF3.out.trans hfr)
  obtain ⟨d0, d1, -, -, d4⟩ := dec_facts hD
  have r0 : w4.cell? ⟨w.heap.size + 1 + 1 + 1, 0, none⟩ = some (.int .i64 0) := hR.reads 0
  have r1 : w4.cell? ⟨w.heap.size + 1 + 1 + 1, 1, none⟩ = some (.int .i64 0) := hR.reads 1
  have f0 := hR.thawed 0
  have f1 := hR.thawed 1
  have lR2 := hR.lt
  clear hsc hfr hD hR
  go_wp2_with fail
  refine ret_dec (r := r) (g := w.heap.size + 1 + 1 + 1) (two_set HR4.out) (fun V hV => by have rv := hV.reads; simp [results, Try.results54, go_sem, rv]) rfl ?_
  refine ⟨rfl, ?_, ?_⟩
  · rw [← kp_kp]
    exact (HS4.out.away (by show S ≠ w.heap.size + 1 + 1 + 1; omega) _).away (by show S ≠ w.heap.size + 1 + 1 + 1; omega) _
  · exact (HF4.out.set (p := ⟨w.heap.size + 1 + 1 + 1, 0, none⟩) (fun h => by simp at h; omega) _).set (p := ⟨w.heap.size + 1 + 1 + 1, 1, none⟩) (fun h => by simp at h; omega) _
end Go.Proofs.Ytmleoagdelgddaa
