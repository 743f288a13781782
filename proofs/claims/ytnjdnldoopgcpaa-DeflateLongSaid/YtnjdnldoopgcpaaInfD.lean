/- inflate: size, a number of bits, a token more. -/
import Derived.Test.YtnjdnldoopgcpaaInfA
import Derived.Test.YtnjdnldoopgcpaaRegionI
import Derived.Test.YtnjdnldoopgcpaaRowF
namespace Go.Proofs.Ytnjdnldoopgcpaa
open Go.RowKit

end Go.Proofs.Ytnjdnldoopgcpaa
/- inflate: number. -/
namespace Go.Proofs.Ytnjdnldoopgcpaa
open Go.RowKit

theorem SpansAt.get {w : World} {A : Option Addr} {n c : Nat} {l : List (Nat × Nat)} (h : SpansAt w A n c l) {i : Nat} {p : Nat × Nat} (hx : l[i]? = some p) : ∃ R o, A = some ⟨R, o, none⟩ ∧ R < w.heap.size ∧ (∃ cs, Whole w R 93 cs) ∧
    w.cell? ⟨R, o + i * 2, none⟩ = some (.int .i64 (p.1 : Int)) ∧ w.cell? ⟨R, o + i * 2 + 1, none⟩ = some (.int .i64 (p.2 : Int)) := by
  have hi := (List.getElem?_eq_some_iff.1 hx).1
  have hl := h.1.len
  rw [List.length_map] at hl
  obtain ⟨R, o, e, hR, hk⟩ := RowAt.at_ h.1 (by omega)
  have hm : (l.map spV)[i]? = some (spV p) := by rw [List.getElem?_map, hx]; rfl
  obtain ⟨cs, hw⟩ := h.2 R o e
  exact ⟨R, o, e, hR, ⟨cs, hw⟩, hk i _ hm 0 _ rfl, hk i _ hm 1 _ rfl⟩
end Go.Proofs.Ytnjdnldoopgcpaa
/- inflate: add. -/
namespace Go.Proofs.Ytnjdnldoopgcpaa
open Go.RowKit

theorem own_new {a b : World} {base z n : Nat} {e : TypeId} {v : Value} {xs : List Value} (h : a.ownsRow base e z v n xs) (hb : Below a.heap.size a b) : b.ownsRow base e z v n xs :=
  own_frame h (Fr.of_below hb) (fun _ hg e => by have := (own_lt h hg).2.1; omega)
theorem own_set {w : World} {base z n D : Nat} {e T : TypeId} {v : Value} {xs : List Value} {cs : Array Value} (h : w.ownsRow base e z v n xs) (hw : Whole w D T cs) (hT : e ≠ T) (i : Nat) (u : Value) : (w.setCell ⟨D, i, none⟩ u).ownsRow base e z v n xs :=
  own_frame h ((Fr.refl (fun k => k = D) w).setB i u) (fun g hg e => by
    obtain ⟨-, -, cs', hc⟩ := own_lt h hg
    exact hc.apart hw hT e)
theorem own_slM {w : World} {base : Nat} {e : TypeId} {size : Nat} {v : Value} {n : Nat} {xs : List Value} (h : w.ownsRow base e size v n xs) : ∃ a c, v = .slice a n c := by
  rcases h.2 with ⟨rfl, rfl⟩ | ⟨g, cap, cur, rfl, -⟩
  · exact ⟨none, 0, rfl⟩
  · exact ⟨some ⟨g, 0, none⟩, cap, rfl⟩
theorem infoTk : (Try.prog.info? 35).map (fun i => (i.zero, i.size, i.bytes)) = some (some (.agg #[.int .i64 0, .int .i64 0, .int .i64 0]), 3, 24) := by kernel_rfl
theorem info_tk : ∃ i, Try.prog.info? 35 = some i ∧ i.zero = some (.agg #[.int .i64 0, .int .i64 0, .int .i64 0]) ∧ i.size = 3 ∧ i.bytes = 24 := by
  have h := infoTk
  cases hi : Try.prog.info? 35 with
  | none => rw [hi] at h; cases h
  | some i =>
    rw [hi] at h
    injection h with h
    injection h with h1 h2
    injection h2 with h2 h3
    exact ⟨i, rfl, h1, h2, h3⟩
theorem wpAnyC_two {P : Program} {ops : Array Oper} {Q : Exit → Act → World → Prop} {md : Region.Mode} {C : World → Prop} {i j : Nat} {fuel : Nat} {listed : Array Bool} {a : Act} {w : World} {oi oj : Oper} {ri rj : List Oper} (hr : Region.ready md ops listed = [i, j]) (hi : ops.toList.drop i = oi :: ri) (hj : ops.toList.drop j = oj :: rj)
    (h1 : ∀ K' : Act → World → Prop, Shut (∀ a w, (C w ∧ wpAnyC P md ops Q C fuel (listed.setIfInBounds i true) a w) → K' a w) → if Region.wanted oi (yielded ops a.tmps) = true then Oper.wp P oi a w K' Q else K' (a.put oi.dst undef) w)
    (h2 : ∀ K' : Act → World → Prop, Shut (∀ a w, (C w ∧ wpAnyC P md ops Q C fuel (listed.setIfInBounds j true) a w) → K' a w) → if Region.wanted oj (yielded ops a.tmps) = true then Oper.wp P oj a w K' Q else K' (a.put oj.dst undef) w) :
    wpAnyC P md ops Q C (fuel + 1) listed a w := by
  refine ⟨fun h0 => absurd (hr ▸ h0) (by simp), fun m hm => ?_⟩
  rw [hr] at hm
  rcases List.mem_cons.1 hm with rfl | hm
  · exact wpOp_step (at_of_drop hi) (fun K' hK => h1 K' (fun a w hS => hK a w hS))
  · obtain rfl : m = j := by simpa using hm
    exact wpOp_step (at_of_drop hj) (fun K' hK => h2 K' (fun a w hS => hK a w hS))
end Go.Proofs.Ytnjdnldoopgcpaa

