/- The reference's Make: the walk. -/
import Derived.Test.YtdiaijdobglaaaaGreatDoorRefTold
import Derived.Test.YtdiaijdobglaaaaGreatDoorDecMul
namespace Go.Proofs.YtdiaijdobglaaaaGreatDoor
open Go.RowKit Dec

theorem num_digs : ∀ (u : Nat), num (digs u) = u ∧ Digs (digs u) := by
  intro u
  induction u using Nat.strongRecOn with
  | _ u ih =>
    by_cases h : u = 0
    · subst h; rw [digs_zero]; exact ⟨rfl, fun d hd => by cases hd⟩
    · obtain ⟨h1, h2⟩ := ih (u / 10) (by omega)
      rw [digs_pos h]
      refine ⟨?_, fun d hd => ?_⟩
      · show ((u % 10 : Nat) : Int).toNat + 10 * num (digs (u / 10)) = u
        rw [h1]; omega
      · rcases List.mem_cons.1 hd with rfl | hd
        · omega
        · exact h2 d hd

theorem own_row {w : World} {b : Nat} {v : Value} {ds : List Int} (h : w.ownsRow b 3 1 v ds.length (ds.map (Value.int .i64))) : Row w v ds := by
  rcases h.2 with ⟨rfl, h0⟩ | ⟨g, c, cur, rfl, hb, hg, hc, hm, hs, ht⟩
  · obtain rfl : ds = [] := List.length_eq_zero_iff.1 h0
    exact .inl ⟨rfl, rfl⟩
  · refine .inr ⟨g, 0, c, rfl, hc, fun j d hj => ?_⟩
    have := h.cells (g := g) rfl j (.int .i64 d) (by rw [List.getElem?_map, hj]; rfl)
    have ha : (⟨g, 0, none⟩ : Addr).add j = ⟨g, j, none⟩ := by unfold Addr.add; split <;> simp_all
    rw [ha] at this
    simpa using this
theorem row_reads {w : World} {v : Value} {ds : List Int} (h : Row w v ds) : ReadsD w v ds := by
  rcases h with ⟨rfl, rfl⟩ | ⟨g, o, c, rfl, hc, hr⟩
  · exact ⟨none, 0, rfl, Nat.le_refl _, fun h => absurd rfl h⟩
  · exact ⟨_, c, rfl, hc, fun _ => ⟨g, o, rfl, hr⟩⟩
theorem row_below {w w' : World} {v : Value} {ds : List Int} (h : Row w v ds) (hb : Below w.heap.size w w') : Row w' v ds := by
  rcases h with ⟨rfl, rfl⟩ | ⟨g, o, c, rfl, hc, hr⟩
  · exact .inl ⟨rfl, rfl⟩
  · refine .inr ⟨g, o, c, rfl, hc, fun j d hj => ?_⟩
    have h1 := hr j d hj
    have hlt : g < w.heap.size := by
      rcases Nat.lt_or_ge g w.heap.size with h | h
      · exact h
      · exfalso; simp [World.cell?, Array.getElem?_eq_none h] at h1
    rw [hb.cell (p := ⟨g, o + j, none⟩) hlt]; exact h1

end Go.Proofs.YtdiaijdobglaaaaGreatDoor

