/- Rows that are owned. -/
import Derived.Test.YtpdjooeogpidhaaRefMake
import Derived.Test.YtpdjooeogpidhaaMem
import Derived.Deep.CutRange
import Derived.Deep.RegionWith
namespace Go.Proofs.Ytpdjooeogpidhaa
open Go.RowKit Dec

theorem own_slice' {w : World} {base : Nat} {e : TypeId} {size : Nat} {v : Value} {n : Nat} {xs : List Value} (h : w.ownsRow base e size v n xs) : ∃ a c, v = .slice a n c := by
  obtain ⟨_, h⟩ := h
  rcases h with ⟨rfl, rfl⟩ | ⟨g, cap, cur, rfl, _⟩
  · exact ⟨none, 0, rfl⟩
  · exact ⟨_, cap, rfl⟩
theorem Fr.cell' {w w' : World} {X : Nat} (h : Fr (fun k => k = X) w w') {p : Addr} (hp : p.block ≠ X) (hl : p.block < w.heap.size) : w'.cell? p = w.cell? p := by
  have := h.block p.block hl hp
  unfold World.cell?
  rw [this]
theorem own_at {w : World} {base n : Nat} {A : Option Addr} {c : Nat} {ds : List Int} (h : w.ownsRow base 3 1 (.slice A n c) n (ds.map (Value.int .i64))) {j : Nat} {d : Int} (hd : ds[j]? = some d) :
    ∃ g, A = some ⟨g, 0, none⟩ ∧ base ≤ g ∧ g < w.heap.size ∧ w.cell? ⟨g, j, none⟩ = some (.int .i64 d) := by
  obtain ⟨hl, h⟩ := h
  have hl : ds.length = n := by simpa using hl
  have hj := (List.getElem?_eq_some_iff.1 hd).1
  rcases h with ⟨e1, e2⟩ | ⟨g, cap, cur, e1, hg, hw, hnc, hc, hs, ht⟩
  · omega
  · injection e1 with e1 _ _
    have hw' : Whole w g 3 cur := hw
    refine ⟨g, e1, hg, hw'.lt, ?_⟩
    have e2 : (ds.map (Value.int .i64))[j]? = some (.int .i64 d) := by simp [hd]
    rw [← ht, List.getElem?_take, if_pos (by omega)] at e2
    rw [hw'.reads, ← e2, Array.getElem?_toList]
end Go.Proofs.Ytpdjooeogpidhaa
