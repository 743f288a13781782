/- The reference's digit, and rows that can be read. -/
import Derived.Test.YtdiaijdobglaaaaGreatDoorRefOf
namespace Go.Proofs.YtdiaijdobglaaaaGreatDoor
open Go.RowKit Dec

/-- A slice value that reads as this row of numbers. -/
def ReadsD (w : World) (v : Value) (ds : List Int) : Prop :=
  ∃ a c, v = .slice a ds.length c ∧ ds.length ≤ c ∧ (ds ≠ [] → ∃ g o, a = some ⟨g, o, none⟩ ∧ ∀ j d, ds[j]? = some d → w.cell? ⟨g, o + j, none⟩ = some (.int .i64 d))

def digitAt (ds : List Int) (i : Int) : Int := if i < 0 then 0 else ds.getD i.toNat 0

set_option maxRecDepth 100000 in
theorem digit_ok (v : Value) (ds : List Int) (i : Int) (w : World) (hv : ReadsD w v ds) (hl : ds.length ≤ 1000000) :
    Calls Tryz.prog 52 #[v, .int .i64 i] w fun e w' => e = .returned (.int .i64 (digitAt ds i)) ∧ w = w' := by
  obtain ⟨a, c, rfl, hc, hr⟩ := hv
  by_cases h0 : i < 0
  · have hd : digitAt ds i = 0 := if_pos h0
    rw [hd]
    go_enter Tryz.func52, Tryz.ntmps52
    go_wp2
    go_ret
    exact ⟨rfl, rfl⟩
  · obtain ⟨k, rfl⟩ : ∃ k : Nat, i = k := ⟨i.toNat, by omega⟩
    have hd : digitAt ds k = ds.getD k 0 := by unfold digitAt; rw [if_neg h0, Int.toNat_natCast]
    rw [hd]
    by_cases h1 : ds.length ≤ k
    · have hd2 : ds.getD k 0 = 0 := by simp [List.getD, List.getElem?_eq_none h1]
      rw [hd2]
      have h2 : (ds.length : Int) ≤ k := by omega
      go_enter Tryz.func52, Tryz.ntmps52
      go_wp2
      go_ret
      exact ⟨rfl, rfl⟩
    · obtain ⟨g, o, rfl, hcell⟩ := hr (by intro e; subst e; simp at h1)
      have hk : w.cell? ⟨g, o + k, none⟩ = some (.int .i64 (ds.getD k 0)) := by
        refine hcell k _ ?_
        rw [List.getD, List.getElem?_eq_getElem (by omega)]; rfl
      have h2 : (k : Int) < ds.length := by omega
      have h3 : ¬ (ds.length : Int) ≤ k := by omega
      go_enter Tryz.func52, Tryz.ntmps52
      go_wp2
      go_ret
      exact ⟨rfl, rfl⟩
end Go.Proofs.YtdiaijdobglaaaaGreatDoor
