/- font's reference: Cut; what its loop knows. -/
import Derived.Test.YtldhkhaciflmoaaFontZ
import Derived.Test.YtldhkhaciflmoaaFontN
namespace Go.Proofs.Ytldhkhaciflmoaa
open Go.RowKit

theorem Glyphs.moved {w w' : World} {A : Option Addr} {n c : Nat} {l : List Gl} (h : Glyphs w A n c l) (hs : w.heap.size ≤ w'.heap.size) (hc : ∀ R o, A = some ⟨R, o, none⟩ → w'.heap[R]? = w.heap[R]?) : Glyphs w' A n c l :=
  ⟨h.len, h.cap, h.top, h.text, fun hn => by
    obtain ⟨R, o, e, hR, hcell⟩ := h.at_ hn
    have key : ∀ j, w'.cell? ⟨R, j, none⟩ = w.cell? ⟨R, j, none⟩ := fun j => by
      unfold World.cell?
      rw [hc R o e]
    refine ⟨R, o, e, by omega, fun i x hx => ?_⟩
    obtain ⟨a, b, d⟩ := hcell i x hx
    exact ⟨(key _).trans a, (key _).trans b, (key _).trans d⟩⟩
structure RcSt (w wx : World) (P : Nat) (wd : Bool) (A : Option Addr) (n c : Nat) (ot : Int) (L : List Gl) : Prop where
  f : FB wx w.heap.size wd A n c ot
  r : Whole wx (w.heap.size + 1) 24 #[.bool false, .slice none 0 0, .int .i64 0]
  o : ∃ A' c', Whole wx P 24 #[.bool wd, .slice A' L.length c', .int .i64 0] ∧ Glyphs wx A' L.length c' L ∧ ∀ R o, A' = some ⟨R, o, none⟩ → P < R
  below : Below w.heap.size w wx
  lo : w.heap.size + 1 < P
theorem RcSt.later {w wx wy : World} {P : Nat} {wd : Bool} {A : Option Addr} {n c : Nat} {ot : Int} {L : List Gl} (h : RcSt w wx P wd A n c ot L) (hb : Below wx.heap.size wx wy) : RcSt w wy P wd A n c ot L :=
  ⟨Whole.here h.f hb, h.r.here hb, by
    obtain ⟨A', c', h1, h2, h3⟩ := h.o
    exact ⟨A', c', h1.here hb, h2.below hb, h3⟩, h.below.trans (hb.mono h.below.size), h.lo⟩
theorem RcSt.put {w wx wy : World} {P : Nat} {wd : Bool} {A : Option Addr} {n c : Nat} {ot : Int} {L L2 : List Gl} {A2 : Option Addr} {c2 : Nat} (h : RcSt w wx P wd A n c ot L) (hb : Below wx.heap.size wx wy) (hg : Glyphs wy A2 L2.length c2 L2) (hl : ∀ R o, A2 = some ⟨R, o, none⟩ → wx.heap.size < R) :
    RcSt w (wy.setCell ⟨P, 1, none⟩ (.slice A2 L2.length c2)) P wd A n c ot L2 := by
  obtain ⟨A', c', h1, h2, h3⟩ := h.o
  have hP := h1.lt
  have lo := h.lo
  refine ⟨(Whole.here h.f hb).away (p := ⟨P, 1, none⟩) (by show w.heap.size ≠ P; omega) _, (h.r.here hb).away (p := ⟨P, 1, none⟩) (by show w.heap.size + 1 ≠ P; omega) _, ⟨A2, c2, (h1.here hb).set 1 _, ?_, fun R o e => by have := hl R o e; omega⟩, ?_, lo⟩
  · refine hg.moved (by simp) (fun R o e => Below.heap_setCell wy ⟨P, 1, none⟩ _ R ?_)
    have := hl R o e
    show R ≠ P
    omega
  · exact (h.below.trans (hb.mono h.below.size)).setCell (by show w.heap.size ≤ P; omega) _
set_option maxRecDepth 100000 in
set_option maxHeartbeats 4000000 in
theorem rcut_bad (wd : Bool) (A : Option Addr) (n c : Nat) (ot : Int) (gs : List Gl) (kv : Value) (w : World) (h : Glyphs w A n c gs) (hn : n ≤ 1000000) (hk : chkB wd ot gs = false) :
    Calls Try.prog 20 #[.agg #[.bool wd, .slice A n c, .int .i64 ot], kv] w fun e w' => e = .returned (.tuple #[.agg #[.bool false, .slice none 0 0, .int .i64 0], .int .i64 1]) ∧ Below w.heap.size w w' := by
  have hF := (Whole.made w 24 #[.bool wd, .slice A n c, .int .i64 ot]).old (.cells #[.bool false, .slice none 0 0, .int .i64 0] 24)
  have hR := Whole.made (w.alloc (.cells #[.bool wd, .slice A n c, .int .i64 ot] 24)) 24 #[.bool false, .slice none 0 0, .int .i64 0]
  simp only [World.size_alloc] at hR
  have hB : Below w.heap.size w ((w.alloc (.cells #[.bool wd, .slice A n c, .int .i64 ot] 24)).alloc (.cells #[.bool false, .slice none 0 0, .int .i64 0] 24)) := by (repeat (first | with_reducible exact Below.refl _ _ | with_reducible refine Below.drew ?_ | with_reducible refine bdrewN ?_ _ | (with_reducible refine Below.setCell ?_ ?_ _; rotate_left; focus (first | exact Nat.le_refl _ | omega | (simp; omega) | (simp; done))) | (with_reducible refine Below.alloc ?_ ?_ _; rotate_left; focus (first | exact Nat.le_refl _ | omega | (simp; omega) | (simp; done))) | (with_reducible refine Below.trans ?_ (Below.mono (by assumption) ?_); rotate_left; focus (first | exact Nat.le_refl _ | omega | (simp; omega) | (simp; done)))))
  have H := Lib.hid (And.intro h (And.intro hR hB))
  have HK := Lib.hid hk
  clear h hk hF hR hB
  go_enter Try.func20, Try.ntmps20
  go_wp2_with fail
  refine (rright_any wd A n c ot gs _ (H.out.1.below H.out.2.2) hn).mono ?_
  rw [HK.out]
  rintro e w1 ⟨rfl, hb⟩
  have hR := H.out.2.1.here hb
  have hB := H.out.2.2.trans (hb.mono H.out.2.2.size)
  have rd := hR.reads
  have ft := hR.thawed
  have lR := hR.lt
  clear hb
  go_wp2_with fail
  refine bodyPost_ret (v := .tuple #[.agg #[.bool false, .slice none 0 0, .int .i64 0], .int .i64 1]) (by simp [results, Try.results20, go_sem, rd]) rfl ⟨rfl, ?_⟩
  (repeat (first | with_reducible refine Below.drew ?_ | with_reducible refine bdrewN ?_ _ | (with_reducible refine Below.setCell ?_ ?_ _; rotate_left; focus (first | exact Nat.le_refl _ | omega | (simp; omega) | (simp; done))) | (with_reducible refine Below.alloc ?_ ?_ _; rotate_left; focus (first | exact Nat.le_refl _ | omega | (simp; omega) | (simp; done))))); with_reducible exact hB
end Go.Proofs.Ytldhkhaciflmoaa
