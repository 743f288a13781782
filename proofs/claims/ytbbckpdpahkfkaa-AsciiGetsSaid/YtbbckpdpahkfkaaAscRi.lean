/- ascii's reference: Get, where there is no end, or too much is asked for. -/
import Derived.Test.YtbbckpdpahkfkaaAscRh
namespace Go.Proofs.Ytbbckpdpahkfkaa
open Go.RowKit

theorem get_ref_arg (s : ByteArray) (most : Int) (w : World) (hm : most < 0 ∨ 1048576 < most) :
    Calls Try.prog 17 #[.string s, .int .i64 most] w (AnsIs (1, []) w) := by
  rcases hm with hm | hm
  · have d1 : decide (most < 0) = true := by simp; omega
    go_enter Try.func17, Try.ntmps17
    go_wp2
    go_ret2
    exact AnsIs.err (Below.refl _ _)
  · have d1 : decide (most < 0) = false := by simp; omega
    have d2 : decide (1048576 < most) = true := by simp; omega
    go_enter Try.func17, Try.ntmps17
    go_wp2
    go_ret2
    exact AnsIs.err (Below.refl _ _)
set_option maxRecDepth 100000 in
set_option maxHeartbeats 4000000 in
theorem get_ref_none (t : List Nat) (most : Int) (w : World) (hb : ∀ x ∈ t, x < 256) (hl : t.length ≤ 100000) (hm : ¬ (most < 0 ∨ 1048576 < most)) (hc : cut2 t = none) :
    Calls Try.prog 17 #[.string (strB t), .int .i64 most] w (AnsIs (4, []) w) := by
  have d1 : decide (most < 0) = false := by simp; omega
  have d2 : decide (1048576 < most) = false := by simp; omega
  obtain ⟨m, rfl⟩ : ∃ m : Nat, most = m := ⟨most.toNat, by omega⟩
  have hsz : (strB t).size = t.length := strB_size t
  have hix := fun i x (h : t[i]? = some x) w => strB_index t i x h (hb x (List.mem_of_getElem? h)) w
  generalize strB t = S at *
  have HIX := Lib.hid hix
  have HC := Lib.hid hc
  clear hix hc hm
  go_enter Try.func17, Try.ntmps17
  go_wp2
  go_loopw [6] (fun s6 wr => ∃ e : Nat, e ≤ t.length ∧ s6 = .int .i64 e ∧ CutTo t e ∧ wr = w) (fun s6 _ => t.length - (intOf s6).toNat)
  case atStart => exact ⟨0, by omega, rfl, CutTo.start t, rfl⟩
  case round =>
    obtain ⟨e, he, rfl, hct, rfl⟩ := hrel
    obtain ⟨f, hf⟩ : ∃ f, e + 1 = f := ⟨_, rfl⟩
    have hwf : IntKind.i64.wrap ((e : Int) + 1) = (f : Int) := by rw [show (e : Int) + 1 = (f : Int) by omega, IntKind.wrap_i64]; omega
    have hfe : (e : Int) + 1 = (f : Int) := by omega
    by_cases hlt : f < t.length
    · obtain ⟨c, hcc⟩ : ∃ x, t[e]? = some x := ⟨_, List.getElem?_eq_getElem (by omega)⟩
      obtain ⟨d, hdd⟩ : ∃ x, t[f]? = some x := ⟨_, List.getElem?_eq_getElem hlt⟩
      have hci := HIX.out e c hcc
      have hdi := HIX.out f d hdd
      have e1 : decide ((f : Int) < (t.length : Int)) = true := by simp; omega
      have hn : ¬ (c = 126 ∧ d = 62) := fun ⟨h1, h2⟩ => by
        subst h1 h2
        have := hct.some hcc (by rw [hf]; exact hdd)
        rw [HC.out] at this
        cases this
      have hst := hct.step hcc (by rw [hf]; exact hdd) hn
      have HS := Lib.hid (And.intro hst hf)
      have HN := Lib.hid hn
      by_cases h1 : c = 126
      · have h2 : d ≠ 62 := fun h => hn ⟨h1, h⟩
        have e2 : ((c : Int) != 126) = false := by simp; omega
        have e3 : ((d : Int) != 62) = true := by simp; omega
        clear hn hst hcc hdd h1 h2 hct hf
        go_wp2
        go_roundw
        case rel => exact ⟨e + 1, by have := HS.out.2; omega, by have := HS.out.2; first | go_num | (congr 1; omega), HS.out.1, by trivial⟩
        case measure => have := HS.out.2; simp [intOf]; omega
      · have e2 : ((c : Int) != 126) = true := by simp; omega
        clear hn hst hcc hdd h1 hct hf
        go_wp2
        go_roundw
        case rel => exact ⟨e + 1, by have := HS.out.2; omega, by have := HS.out.2; first | go_num | (congr 1; omega), HS.out.1, by trivial⟩
        case measure => have := HS.out.2; simp [intOf]; omega
    · have e1 : decide ((f : Int) < (t.length : Int)) = false := by simp; omega
      have e4 : decide ((t.length : Int) ≤ (f : Int)) = true := by simp; omega
      clear hf hct
      go_wp2
      go_ret2
      exact AnsIs.err (Below.refl _ _)
end Go.Proofs.Ytbbckpdpahkfkaa
