/- raster: the scaler's keep, times, sum. -/
import Derived.Test.YtmleoagdelgddaaMatWalkA
import Derived.Test.YtmleoagdelgddaaBoxWalkB
import Derived.Test.YtmleoagdelgddaaMem
import Derived.Lib.Hide
import Derived.Outline
namespace Go.Proofs.Ytmleoagdelgddaa
open Go.RowKit Dec

noncomputable def tm (d : DV) (n : Int) : DV × Int := (Classical.choose (Tells.total (d.v * (DV.mk n 0).v) 18), Classical.choose (Classical.choose_spec (Tells.total (d.v * (DV.mk n 0).v) 18)))
theorem tm_is (d : DV) (n : Int) : Tells (d.v * (DV.mk n 0).v) 18 (tm d n).1 (tm d n).2 := Classical.choose_spec (Classical.choose_spec (Tells.total (d.v * (DV.mk n 0).v) 18))
noncomputable def ad (a b : DV) : DV × Int := (Classical.choose (Tells.total (a.v + b.v) 9), Classical.choose (Classical.choose_spec (Tells.total (a.v + b.v) 9)))
theorem ad_is (a b : DV) : Tells (a.v + b.v) 9 (ad a b).1 (ad a b).2 := Classical.choose_spec (Classical.choose_spec (Tells.total (a.v + b.v) 9))
theorem tm_ok (d : DV) (n : Int) : (tm d n).1.Ok := (tm_is d n).ok.1
theorem ad_ok (a b : DV) : (ad a b).1.Ok := (ad_is a b).ok.1
/-- The first error that came up. -/
def kp (e e' : Int) : Int := if e = 0 then e' else e
/-- The scaler's error lies in block S. -/
abbrev SC (w : World) (S : Nat) (e : Int) : Prop := Whole w S 66 #[.int .i64 e]
abbrev FrS (S : Nat) (w w' : World) : Prop := Fr (fun j => j = S) w w'
theorem FrS.trans {S : Nat} {a b d : World} (h : FrS S a b) (k : FrS S b d) : FrS S a d := Fr.trans h k (fun _ _ e => e)
theorem FrS.of_below {S : Nat} {a b : World} (h : Below a.heap.size a b) : FrS S a b := ⟨h.os, h.tape, h.output, h.size, fun k hk _ => h.block k hk⟩
theorem FrS.keeps {S g : Nat} {T : TypeId} {cs : Array Value} {a b : World} (h : FrS S a b) (hw : Whole a g T cs) (hg : g ≠ S) : Whole b g T cs := hw.frame h (by show ¬ g = S; exact hg)
/-- Of what was there all is as it was but block S. -/
structure ScSt (S : Nat) (e : Int) (w w' : World) : Prop where
  sc : SC w' S e
  fr : FrS S w w'
set_option maxRecDepth 100000 in
theorem keep_any (S : Nat) (e e' : Int) (w : World) (h : SC w S e) :
    Calls Try.prog 71 #[.pointer (some ⟨S, 0, none⟩), .int .i64 e'] w fun x w' => x = .returned (.tuple #[]) ∧ ScSt S (kp e e') w w' := by
  have r0 : w.cell? ⟨S, 0, none⟩ = some (.int .i64 e) := h.reads 0
  have f0 := h.thawed 0
  have l0 := h.lt
  have H := Lib.hid h
  clear h
  by_cases h0 : e = 0
  · have z : (e == 0) = true := by simp [h0]
    have HK := Lib.hid (show kp e e' = e' from if_pos h0)
    clear h0
    go_enter Try.func71, Try.ntmps71
    go_wp2
    go_end0
    refine ⟨rfl, ?_, ?_⟩
    · rw [HK.out]
      exact H.out.set 0 _
    · exact (Fr.refl _ _).setB 0 _
  · have z : (e == 0) = false := by simpa using h0
    have HK := Lib.hid (show kp e e' = e from if_neg h0)
    clear h0
    go_enter Try.func71, Try.ntmps71
    go_wp2
    go_end0
    refine ⟨rfl, ?_, Fr.refl _ _⟩
    rw [HK.out]
    exact H.out
theorem two_set {w : World} {g : Nat} {a b p q : Value} (h : Whole w g 40 #[a, b]) : Whole ((w.setCell ⟨g, 0, none⟩ p).setCell ⟨g, 1, none⟩ q) g 40 #[p, q] := by
  have := (h.set 0 p).set 1 q
  simpa using this
theorem ret_dec {fn : Func} {a : Act} {Q : Ending → World → Prop} {W : World} {g : Nat} {r : DV} (hW : Whole W g 40 #[.int .i64 r.m, .int .i64 r.s])
    (hr : ∀ V : World, Whole V g 40 #[.int .i64 r.m, .int .i64 r.s] → (results fn a.tmps).run Try.prog V = .ok (.agg #[.int .i64 r.m, .int .i64 r.s]) V) (hd : a.defers = []) (hQ : Q (.returned (.agg #[.int .i64 r.m, .int .i64 r.s])) W) : bodyPost Try.prog fn Q .ret a W :=
  bodyPost_ret (hr W hW) hd hQ
set_option maxRecDepth 100000 in
set_option maxHeartbeats 4000000 in
theorem times_any (S : Nat) (e : Int) (d : DV) (n : Int) (w : World) (h : SC w S e) (hd : d.Ok) (hn : (DV.mk n 0).Ok) :
    Calls Try.prog 53 #[.pointer (some ⟨S, 0, none⟩), .agg #[.int .i64 d.m, .int .i64 d.s], .int .i64 n] w fun x w' => x = .returned (.agg #[.int .i64 (tm d n).1.m, .int .i64 (tm d n).1.s]) ∧ ScSt S (kp e (tm d n).2) w w' := by
  have HM := Lib.hid (fun w => mul_tells d ⟨n, 0⟩ (tm d n).1 (tm d n).2 w hd hn (tm_is d n))
  obtain ⟨⟨r, E⟩, hr⟩ : ∃ z, tm d n = z := ⟨_, rfl⟩
  rw [hr] at HM ⊢
  have l0 := h.lt
  have H := Lib.hid h
  clear h hr hd hn
  go_enter Try.func53, Try.ntmps53
  go_wp2_with fail
  refine (HM.out _).mono ?_
  rintro x w1 ⟨rfl, hb⟩
  have HB := Lib.hid (show Below w.heap.size w w1 from ((((Below.refl w.heap.size w).alloc (Nat.le_refl _) _).alloc (by simp) _).trans (hb.mono (by simp; omega))))
  have HR := Lib.hid (show Whole w1 (w.heap.size + 1) 40 #[.int .i64 0, .int .i64 0] by
    have := Whole.made (w.alloc (.cells #[.int .i64 d.m, .int .i64 d.s] 40)) 40 #[.int .i64 0, .int .i64 0]
    simp only [World.size_alloc] at this
    exact this.here hb)
  have lR := HR.out.lt
  clear hb
  have HS1 := Lib.hid (show SC (w1.alloc (.cells #[.int .i64 r.m, .int .i64 r.s] 40)) S e from (H.out.here HB.out).old _)
  have HD1 := Lib.hid (Whole.made w1 40 #[.int .i64 r.m, .int .i64 r.s])
  go_wp2_with fail
  refine (keep_any S e E _ HS1.out).mono ?_
  rintro x w2 ⟨rfl, hsc, hfr⟩
  have HS2 := Lib.hid hsc
  have hD := hfr.keeps HD1.out (by have := HB.out.size; omega)
  have hR := hfr.keeps (HR.out.old _) (by omega)
  have HF2 := Lib.hid ((FrS.of_below (HB.out.alloc HB.out.size (.cells #[.int .i64 r.m, .int .i64 r.s] 40))).trans hfr)
  have d0 : w2.cell? ⟨w1.heap.size, 0, none⟩ = some (.int .i64 r.m) := hD.reads 0
  have d1 : w2.cell? ⟨w1.heap.size, 1, none⟩ = some (.int .i64 r.s) := hD.reads 1
  have r0 : w2.cell? ⟨w.heap.size + 1, 0, none⟩ = some (.int .i64 0) := hR.reads 0
  have r1 : w2.cell? ⟨w.heap.size + 1, 1, none⟩ = some (.int .i64 0) := hR.reads 1
  have f0 := hR.thawed 0
  have f1 := hR.thawed 1
  have lD := hD.lt
  have lR2 := hR.lt
  have HR2 := Lib.hid hR
  clear hsc hfr hD hR
  go_wp2_with fail
  refine ret_dec (r := r) (g := w.heap.size + 1) (two_set HR2.out) (fun V hV => by have rv := hV.reads; simp [results, Try.results53, go_sem, rv]) rfl ?_
  exact ⟨rfl, (HS2.out.away (by show S ≠ w.heap.size + 1; omega) _).away (by show S ≠ w.heap.size + 1; omega) _, (HF2.out.set (p := ⟨w.heap.size + 1, 0, none⟩) (fun h => by simp at h; omega) _).set (p := ⟨w.heap.size + 1, 1, none⟩) (fun h => by simp at h; omega) _⟩
end Go.Proofs.Ytmleoagdelgddaa
