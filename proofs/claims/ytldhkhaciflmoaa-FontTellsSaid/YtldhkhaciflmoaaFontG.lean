/- font: the document's examples. -/
import Derived.Test.YtldhkhaciflmoaaFontF
namespace Go.Proofs.Ytldhkhaciflmoaa
open Go.RowKit

theorem glyphs_nil (w : World) : Glyphs w none 0 0 [] := ⟨rfl, by omega, by omega, fun g h => by simp at h, fun h => absurd h (by omega)⟩
theorem pair_ints {w : World} {g : Nat} {a b : Int} (h : Whole w g 3 #[.int .i64 a, .int .i64 b]) : IntsAt w (some ⟨g, 0, none⟩) 2 2 [a, b] :=
  ⟨rfl, by omega, by omega, fun _ => ⟨g, 0, rfl, h.lt, fun i x hx => by
    rw [h.reads]
    match i, hx with
    | 0, hx => simp at hx; subst hx; rfl
    | 1, hx => simp at hx; subst hx; rfl
    | i + 2, hx => simp at hx⟩⟩
set_option maxRecDepth 100000 in
set_option maxHeartbeats 4000000 in
theorem awake_any (w : World) : Calls Try.prog 13 #[] w fun e w' => e = .returned (.bool true) ∧ Below w.heap.size w w' := by
  have hfa : ∀ w : World, (Instr.field 35 (.agg #[.int .i64 65, .int .i64 500, .string ⟨#[]⟩]) 1).run Try.prog w = .ok (.int .i64 500) w := fun _ => by kernel_rfl
  have hfb : ∀ w : World, (Instr.field 35 (.agg #[.int .i64 66, .int .i64 0, .string ⟨#[]⟩]) 1).run Try.prog w = .ok (.int .i64 0) w := fun _ => by kernel_rfl
  go_enter Try.func13, Try.ntmps13
  go_wp2_with fail
  refine (codes_good true none 0 0 0 [] _ 2 _ (glyphs_nil _) (by decide) (by decide) (by decide) (by decide)).mono ?_
  rintro e w1 ⟨A, n, c, rfl, hl, hb⟩
  have hg1 : One65 w1 w.heap.size := ((Whole.made w _ _).old _).here hb
  have hx1 : Whole w1 (w.heap.size + 1) 24 #[.bool false, .slice (some ⟨w.heap.size, 0, none⟩) 1 1, .int .i64 0] := by
    have := (Whole.made (w.alloc (.cells #[.int .i64 65, .int .i64 500, .string ⟨#[]⟩] 35)) 24 #[.bool false, .slice (some ⟨w.heap.size, 0, none⟩) 1 1, .int .i64 0]).here hb
    simpa using this
  have hl1 : IntsAt w1 A n c [65, 258] := hl
  have hb1 : Below w.heap.size w w1 := (((Below.refl w.heap.size w).alloc (Nat.le_refl _) _).alloc (by simp) _).trans (hb.mono (by simp; omega))
  have c0 := hx1.reads 0
  have c1 := hx1.reads 1
  have c2 := hx1.reads 2
  have HG := Lib.hid (And.intro hg1 (And.intro hx1 (And.intro hl1 hb1)))
  have hsz := hb1.size
  clear hg1 hx1 hl hl1 hb1 hb
  go_wp2_with fail
  refine (find65 _ _ HG.out.1).mono ?_
  rintro e w2 ⟨rfl, hb⟩
  have hx2 := HG.out.2.1.here hb
  have c0 := hx2.reads 0
  have c1 := hx2.reads 1
  have c2 := hx2.reads 2
  have HG2 := Lib.hid (And.intro (Whole.here HG.out.1 hb) (And.intro (HG.out.2.2.1.below hb) (HG.out.2.2.2.trans (hb.mono hsz))))
  have hsz2 := hb.size
  clear hx2 hb
  go_wp2_with fail
  refine (find66 _ _ HG2.out.1).mono ?_
  rintro e w3 ⟨rfl, hb⟩
  have HG3 := Lib.hid (And.intro (HG2.out.2.1.below hb) (HG2.out.2.2.trans (hb.mono (Nat.le_trans hsz hsz2))))
  clear hb
  go_wp2_with fail
  refine (ints_same _ _ _ _ _ _ _ _ (HG3.out.1.below ((Below.refl _ _).alloc (Nat.le_refl _) _)) (pair_ints (Whole.made _ _ _))).mono ?_
  rintro e w4 ⟨rfl, q, rfl⟩
  go_wp2_with fail
  go_ret
  exact ⟨rfl, below_drewN (HG3.out.2.alloc HG3.out.2.size _) q⟩
end Go.Proofs.Ytldhkhaciflmoaa
