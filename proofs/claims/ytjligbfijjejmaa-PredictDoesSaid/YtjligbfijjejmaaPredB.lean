/- predict's Check and Row, the document's own Check, Row and step: walked. -/
import Derived.Test.YtjligbfijjejmaaPredA
namespace Go.Proofs.Ytjligbfijjejmaa
open Go.RowKit

/-- How many bytes a row has; how far back the byte stands that foretells. -/
def PaV.n (p : PaV) : Nat := ((p.co * p.bi * p.cl + 7) / 8).toNat
def PaV.s (p : PaV) : Nat := ((p.co * p.bi + 7) / 8).toNat
theorem mul_in {x y X Y : Int} (hx : 1 ≤ x) (hX : x ≤ X) (hy : 1 ≤ y) (hY : y ≤ Y) : 1 ≤ x * y ∧ x * y ≤ X * Y := by
  constructor
  · have := Int.mul_le_mul hx hy (by omega) (by omega)
    omega
  · exact Int.mul_le_mul hX hY (by omega) (by omega)
theorem PaV.Ok.mul {p : PaV} (h : p.Ok) : (1 ≤ p.co * p.bi ∧ p.co * p.bi ≤ 512) ∧ (1 ≤ p.co * p.bi * p.cl ∧ p.co * p.bi * p.cl ≤ 33554432) := by
  obtain ⟨_, hb, h1, h2, h3, h4⟩ := h
  have hb1 : 1 ≤ p.bi ∧ p.bi ≤ 16 := by unfold PaV.BitsOk at hb; omega
  have k1 := mul_in h1 h2 hb1.1 hb1.2
  have k2 := mul_in k1.1 k1.2 h3 h4
  omega
theorem PaV.Ok.n_is {p : PaV} (h : p.Ok) : ((p.n : Nat) : Int) = (p.co * p.bi * p.cl + 7) / 8 ∧ 1 ≤ p.n ∧ p.n ≤ 4194304 := by
  have := h.mul
  unfold PaV.n
  omega
theorem PaV.Ok.s_is {p : PaV} (h : p.Ok) : ((p.s : Nat) : Int) = (p.co * p.bi + 7) / 8 ∧ 1 ≤ p.s ∧ p.s ≤ 64 := by
  have := h.mul
  unfold PaV.s
  omega
theorem whole_any (x : Int) (w : World) (h0 : 0 ≤ x) (h1 : x ≤ 33554432) :
    Calls Try.prog 25 #[.int .i64 x] w fun e w' => e = .returned (.int .i64 ((x + 7) / 8)) ∧ w = w' := by
  go_enter Try.func25, Try.ntmps25
  go_wp2
  go_ret
  exact ⟨rfl, rfl⟩
theorem row_ok (p : PaV) (w : World) (h : p.Ok) :
    Calls Try.prog 15 #[p.val] w fun e w' => e = .returned (.int .i64 p.n) ∧ Below w.heap.size w w' := by
  obtain ⟨⟨m1, m2⟩, m3, m4⟩ := h.mul
  have q1 : IntKind.i64.wrap (p.co * p.bi) = p.co * p.bi := IntWalk.i64_in _ (by omega)
  have q2 : IntKind.i64.wrap (p.co * p.bi * p.cl) = p.co * p.bi * p.cl := IntWalk.i64_in _ (by omega)
  have H := Lib.hid h
  have Q := Lib.hid (And.intro m3 m4)
  have HN := Lib.hid h.n_is.1
  clear h m1 m2 m3 m4
  go_enter Try.func15, Try.ntmps15
  go_wp2_with fail
  refine (valid_true p _ H.out).mono ?_
  rintro e w1 ⟨rfl, hb⟩
  have r0 : w1.cell? ⟨w.heap.size, 0, none⟩ = some (.int .i64 p.pr) := (hb.cell (p := ⟨w.heap.size, 0, none⟩) (by simp)).trans (by simp [go_sem])
  have r1 : w1.cell? ⟨w.heap.size, 1, none⟩ = some (.int .i64 p.co) := (hb.cell (p := ⟨w.heap.size, 1, none⟩) (by simp)).trans (by simp [go_sem])
  have r2 : w1.cell? ⟨w.heap.size, 2, none⟩ = some (.int .i64 p.bi) := (hb.cell (p := ⟨w.heap.size, 2, none⟩) (by simp)).trans (by simp [go_sem])
  have r3 : w1.cell? ⟨w.heap.size, 3, none⟩ = some (.int .i64 p.cl) := (hb.cell (p := ⟨w.heap.size, 3, none⟩) (by simp)).trans (by simp [go_sem])
  have l0 : w.heap.size < w1.heap.size := by have := hb.size; simp at this; omega
  have B1 : Hid (Below w.heap.size w w1) := Below.trans ((Below.refl _ _).alloc (Nat.le_refl _) _) (hb.mono (by simp))
  clear hb
  go_wp2_with fail
  refine (whole_any _ _ (by have := Q.out; omega) Q.out.2).mono ?_
  rintro e w2 ⟨rfl, rfl⟩
  rw [← HN.out]
  go_wp2
  go_ret
  exact ⟨rfl, B1.out⟩
theorem row_bad (p : PaV) (w : World) (h : ¬ p.Ok) :
    Calls Try.prog 15 #[p.val] w fun e w' => e = .returned (.int .i64 0) ∧ Below w.heap.size w w' := by
  have H := Lib.hid h
  clear h
  go_enter Try.func15, Try.ntmps15
  go_wp2_with fail
  refine (valid_false p _ H.out).mono ?_
  rintro e w1 ⟨rfl, hb⟩
  have B1 : Hid (Below w.heap.size w w1) := Below.trans ((Below.refl _ _).alloc (Nat.le_refl _) _) (hb.mono (by simp))
  clear hb
  go_wp2
  go_ret
  exact ⟨rfl, B1.out⟩
/-- The number of the error, if any. -/
def PaV.E (p : PaV) : Int := if p.Ok then (if p.pr = 2 ∧ p.bi ≠ 8 then 9 else 0) else 1
theorem check_any (p : PaV) (w : World) :
    Calls Try.prog 13 #[p.val] w fun e w' => e = .returned (.int .i64 p.E) ∧ Below w.heap.size w w' := by
  by_cases h : p.Ok
  · have hE : p.E = if p.pr = 2 ∧ p.bi ≠ 8 then 9 else 0 := by unfold PaV.E; rw [if_pos h]
    have H := Lib.hid h
    clear h
    have h3 : ((p.pr == 2) = false ∧ p.E = 0) ∨ ((p.pr == 2) = true ∧ (p.bi != 8) = false ∧ p.E = 0) ∨ ((p.pr == 2) = true ∧ (p.bi != 8) = true ∧ p.E = 9) := by
      by_cases a : p.pr = 2
      · by_cases b : p.bi = 8
        · exact .inr (.inl ⟨by simp [a], by simp [b], by rw [hE, if_neg (by omega)]⟩)
        · exact .inr (.inr ⟨by simp [a], by simp [b], by rw [hE, if_pos ⟨a, b⟩]⟩)
      · exact .inl ⟨by simp [a], by rw [hE, if_neg (by omega)]⟩
    clear hE
    rcases h3 with ⟨h3, hE⟩ | ⟨h3, h4, hE⟩ | ⟨h3, h4, hE⟩
    all_goals
      rw [hE]
      clear hE
      go_enter Try.func13, Try.ntmps13
      go_wp2_with fail
      refine (valid_true p _ H.out).mono ?_
      rintro e w1 ⟨rfl, hb⟩
      have r0 : w1.cell? ⟨w.heap.size, 0, none⟩ = some (.int .i64 p.pr) := (hb.cell (p := ⟨w.heap.size, 0, none⟩) (by simp)).trans (by simp [go_sem])
      have r2 : w1.cell? ⟨w.heap.size, 2, none⟩ = some (.int .i64 p.bi) := (hb.cell (p := ⟨w.heap.size, 2, none⟩) (by simp)).trans (by simp [go_sem])
      have l0 : w.heap.size < w1.heap.size := by have := hb.size; simp at this; omega
      have B1 : Hid (Below w.heap.size w w1) := Below.trans ((Below.refl _ _).alloc (Nat.le_refl _) _) (hb.mono (by simp))
      clear hb
      go_wp2
      go_ret
      exact ⟨rfl, B1.out⟩
  · have hE : p.E = 1 := by unfold PaV.E; rw [if_neg h]
    rw [hE]
    have H := Lib.hid h
    clear h hE
    go_enter Try.func13, Try.ntmps13
    go_wp2_with fail
    refine (valid_false p _ H.out).mono ?_
    rintro e w1 ⟨rfl, hb⟩
    have B1 : Hid (Below w.heap.size w w1) := Below.trans ((Below.refl _ _).alloc (Nat.le_refl _) _) (hb.mono (by simp))
    clear hb
    go_wp2
    go_ret
    exact ⟨rfl, B1.out⟩
end Go.Proofs.Ytjligbfijjejmaa
