/- font: Find at the document's example; the document's examples. -/
import Derived.Test.YtldhkhaciflmoaaFontE
import Derived.Deep.RegionWith
namespace Go.Proofs.Ytldhkhaciflmoaa
open Go.RowKit

theorem results_find (tmps : Array Value) (w : World) (g : Nat) (a b c : Value) (hp : tmps.getD 4 undef = .pointer (some ⟨g, 0, none⟩)) (h0 : w.cell? ⟨g, 0, none⟩ = some a) (h1 : w.cell? ⟨g, 1, none⟩ = some b) (h2 : w.cell? ⟨g, 2, none⟩ = some c) :
    (results Try.f16 tmps).run Try.prog w = .ok (.agg #[a, b, c]) w := by
  have hp' : tmps[4]?.getD undef = .pointer (some ⟨g, 0, none⟩) := by simpa using hp
  simp [results, Try.results16, hp', asAddr, go_sem, h0, h1, h2]
/-- One glyph of the code 65, 500 wide, without a text. -/
def One65 (w : World) (R : Nat) : Prop := Whole w R 35 #[.int .i64 65, .int .i64 500, .string ⟨#[]⟩]
set_option maxRecDepth 100000 in
set_option maxHeartbeats 4000000 in
theorem find65 (R : Nat) (w : World) (h : One65 w R) :
    Calls Try.prog 16 #[.agg #[.bool false, .slice (some ⟨R, 0, none⟩) 1 1, .int .i64 0], .int .i64 65] w fun e w' => e = .returned (.agg #[.int .i64 65, .int .i64 500, .string ⟨#[]⟩]) ∧ Below w.heap.size w w' := by
  have g0 : w.cell? ⟨R, 0, none⟩ = some (.int .i64 65) := by rw [h.reads]; rfl
  have g1 : w.cell? ⟨R, 1, none⟩ = some (.int .i64 500) := by rw [h.reads]; rfl
  have g2 : w.cell? ⟨R, 2, none⟩ = some (.string ⟨#[]⟩) := by rw [h.reads]; rfl
  have hR := h.lt
  clear h
  go_enter Try.func16, Try.ntmps16
  go_wp2
  refine wp_loop_rounds 1 ?_
  rw [rounds_succ]
  go_wp2_with fail
  refine bodyPost_ret (v := .agg #[.int .i64 65, .int .i64 500, .string ⟨#[]⟩]) ?_ rfl ⟨rfl, ?_⟩
  · exact results_find _ _ (w.heap.size + 1) _ _ _ rfl (by go_simp) (by go_simp) (by go_simp)
  · (repeat (first | with_reducible exact Below.refl _ _ | with_reducible refine Below.drew ?_ | with_reducible refine bdrewN ?_ _ | (with_reducible refine Below.setCell ?_ ?_ _; rotate_left; focus (first | exact Nat.le_refl _ | omega | (simp; omega) | (simp; done))) | (with_reducible refine Below.alloc ?_ ?_ _; rotate_left; focus (first | exact Nat.le_refl _ | omega | (simp; omega) | (simp; done))) | (with_reducible refine Below.trans ?_ (Below.mono (by assumption) ?_); rotate_left; focus (first | exact Nat.le_refl _ | omega | (simp; omega) | (simp; done)))))
set_option maxRecDepth 100000 in
set_option maxHeartbeats 4000000 in
theorem find66 (R : Nat) (w : World) (h : One65 w R) :
    Calls Try.prog 16 #[.agg #[.bool false, .slice (some ⟨R, 0, none⟩) 1 1, .int .i64 0], .int .i64 66] w fun e w' => e = .returned (.agg #[.int .i64 66, .int .i64 0, .string ⟨#[]⟩]) ∧ Below w.heap.size w w' := by
  have g0 : w.cell? ⟨R, 0, none⟩ = some (.int .i64 65) := by rw [h.reads]; rfl
  have g1 : w.cell? ⟨R, 1, none⟩ = some (.int .i64 500) := by rw [h.reads]; rfl
  have g2 : w.cell? ⟨R, 2, none⟩ = some (.string ⟨#[]⟩) := by rw [h.reads]; rfl
  have hR := h.lt
  clear h
  go_enter Try.func16, Try.ntmps16
  go_wp2
  refine wp_loop_rounds 2 ?_
  rw [rounds_succ]
  go_wp2_with fail
  rw [rounds_succ]
  go_wp2_with fail
  refine bodyPost_ret (v := .agg #[.int .i64 66, .int .i64 0, .string ⟨#[]⟩]) ?_ rfl ⟨rfl, ?_⟩
  · exact results_find _ _ (w.heap.size + 1) _ _ _ rfl (by go_simp) (by go_simp) (by go_simp)
  · (repeat (first | with_reducible exact Below.refl _ _ | with_reducible refine Below.drew ?_ | with_reducible refine bdrewN ?_ _ | (with_reducible refine Below.setCell ?_ ?_ _; rotate_left; focus (first | exact Nat.le_refl _ | omega | (simp; omega) | (simp; done))) | (with_reducible refine Below.alloc ?_ ?_ _; rotate_left; focus (first | exact Nat.le_refl _ | omega | (simp; omega) | (simp; done))) | (with_reducible refine Below.trans ?_ (Below.mono (by assumption) ?_); rotate_left; focus (first | exact Nat.le_refl _ | omega | (simp; omega) | (simp; done)))))
end Go.Proofs.Ytldhkhaciflmoaa
