/- What box's Map answers, whatever its arguments; Of at no points. -/
import Derived.Test.YtgdfdlicfjjfjaaBoxMapC1
import Derived.Test.YtgdfdlicfjjfjaaBoxMapC2
import Derived.Test.YtgdfdlicfjjfjaaBoxHoldMath
namespace Go.Proofs.Ytgdfdlicfjjfjaa
open Go.RowKit Dec

theorem MapIs.void {m : MV} {p r : PV} {E : Int} (h : MapIs m p r E) (hE : E ≠ 0) : r = .zero := by
  rcases h with ⟨-, -, x, y, ex, ey, hx, hy, h⟩ | ⟨-, h, -⟩
  · rcases h with ⟨-, h, -⟩ | ⟨-, -, h, -⟩ | ⟨-, -, -, h⟩
    · exact h
    · exact h
    · exact absurd h hE
  · exact h
/-- What Map answers of a box. -/
def BMapIs (m : MV) (b r : BV) (E : Int) : Prop :=
  (¬ m.Ok ∧ r = .zero ∧ E = 1) ∨ (m.Ok ∧ ¬ b.Ok ∧ r = .zero ∧ E = 1) ∨
  (m.Ok ∧ b.Ok ∧ ∃ (q : Nat → PV) (n : Nat), n < 4 ∧ (∀ i < n, MapIs m (cornF b i) (q i) 0) ∧ MapIs m (cornF b n) .zero E ∧ E ≠ 0 ∧ r = .zero) ∨
  (m.Ok ∧ b.Ok ∧ ∃ q : Nat → PV, (∀ i < 4, MapIs m (cornF b i) (q i) 0) ∧ r = ofN q 4 ∧ E = 0)
theorem BMapIs.total (m : MV) (b : BV) : ∃ r E, BMapIs m b r E := by
  by_cases hm : m.Ok
  · by_cases hb : b.Ok
    · obtain ⟨q0, e0, h0⟩ := MapIs.total m (cornF b 0)
      obtain ⟨q1, e1, h1⟩ := MapIs.total m (cornF b 1)
      obtain ⟨q2, e2, h2⟩ := MapIs.total m (cornF b 2)
      obtain ⟨q3, e3, h3⟩ := MapIs.total m (cornF b 3)
      let q : Nat → PV := fun i => match i with | 0 => q0 | 1 => q1 | 2 => q2 | _ => q3
      by_cases k0 : e0 = 0
      · subst k0
        by_cases k1 : e1 = 0
        · subst k1
          by_cases k2 : e2 = 0
          · subst k2
            by_cases k3 : e3 = 0
            · subst k3
              refine ⟨_, _, .inr (.inr (.inr ⟨hm, hb, q, fun i hi => ?_, rfl, rfl⟩))⟩
              rcases (by omega : i = 0 ∨ i = 1 ∨ i = 2 ∨ i = 3) with rfl | rfl | rfl | rfl
              · exact h0
              · exact h1
              · exact h2
              · exact h3
            · refine ⟨_, _, .inr (.inr (.inl ⟨hm, hb, q, 3, by omega, fun i hi => ?_, h3.void k3 ▸ h3, k3, rfl⟩))⟩
              rcases (by omega : i = 0 ∨ i = 1 ∨ i = 2) with rfl | rfl | rfl
              · exact h0
              · exact h1
              · exact h2
          · refine ⟨_, _, .inr (.inr (.inl ⟨hm, hb, q, 2, by omega, fun i hi => ?_, h2.void k2 ▸ h2, k2, rfl⟩))⟩
            rcases (by omega : i = 0 ∨ i = 1) with rfl | rfl
            · exact h0
            · exact h1
        · refine ⟨_, _, .inr (.inr (.inl ⟨hm, hb, q, 1, by omega, fun i hi => ?_, h1.void k1 ▸ h1, k1, rfl⟩))⟩
          obtain rfl : i = 0 := by omega
          exact h0
      · exact ⟨_, _, .inr (.inr (.inl ⟨hm, hb, q, 0, by omega, fun i hi => absurd hi (by omega), h0.void k0 ▸ h0, k0, rfl⟩))⟩
    · exact ⟨_, _, .inr (.inl ⟨hm, hb, rfl, rfl⟩)⟩
  · exact ⟨_, _, .inl ⟨hm, rfl, rfl⟩⟩
theorem bmap_any (m : MV) (b r : BV) (E : Int) (w : World) (h : BMapIs m b r E) :
    Calls Try.prog 11 #[m.val, b.val] w (IsB r E w) := by
  rcases h with ⟨hm, rfl, rfl⟩ | ⟨hm, hb, rfl, rfl⟩ | ⟨hm, hb, q, n, hn, hq, hx, hE, rfl⟩ | ⟨hm, hb, q, hq, rfl, rfl⟩
  · exact bmap_bad1 m b w hm
  · exact bmap_bad2 m b w hm hb
  · exact bmap_bad3 m b q n E w hm hb hn hq hx (by rw [bne_iff_ne]; exact hE)
  · exact bmap_ok m b _ q w hm hb hq (.inr (.inr ⟨by omega, fun i hi => (hq i hi).ok.1, rfl, rfl⟩))
/-- A point of the box is mapped into what Map answers. -/
theorem BMapIs.holds {m : MV} {b r : BV} {p s : PV} (h : BMapIs m b r 0) (hp : InB b p) (hs : MapIs m p s 0) : r.Ok ∧ InB r s := by
  rcases h with ⟨-, -, h⟩ | ⟨-, -, -, h⟩ | ⟨-, -, q, n, -, -, -, h, -⟩ | ⟨hm, hb, q, hq, rfl, -⟩
  · cases h
  · cases h
  · exact absurd rfl h
  · exact ⟨ofN_box q 4 (by omega) (fun i hi => (hq i hi).ok.1), maps_in hp hq hs⟩

theorem of_none (p : Option Addr) (c : Nat) (w : World) :
    Calls Try.prog 10 #[.slice p 0 c] w (IsB .zero 8 w) := by
  go_enter Try.func10, Try.ntmps10
  go_wp2
  exact bodyPost_ret (v := .tuple #[BV.zero.val, .int .i64 8]) (by simp [results, Try.results10, go_sem, BV.zero, DV.zero]) rfl ⟨rfl, by (repeat (first | with_reducible exact Below.refl _ _ | with_reducible refine Below.drew ?_ | with_reducible refine bdrewN ?_ _ | (with_reducible refine Below.setCell ?_ ?_ _; rotate_left; focus (first | exact Nat.le_refl _ | omega | (simp; omega) | (simp; done))) | (with_reducible refine Below.alloc ?_ ?_ _; rotate_left; focus (first | exact Nat.le_refl _ | omega | (simp; omega) | (simp; done))) | (with_reducible refine Below.trans ?_ (Below.mono (by assumption) ?_); rotate_left; focus (first | exact Nat.le_refl _ | omega | (simp; omega) | (simp; done)))))⟩
end Go.Proofs.Ytgdfdlicfjjfjaa
