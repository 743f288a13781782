/- font's reference: Top, code, Means, Find. -/
import Derived.Test.YtldhkhaciflmoaaFontU
namespace Go.Proofs.Ytldhkhaciflmoaa
open Go.RowKit

def topI (wd : Bool) : Int := if wd then 65535 else 255
theorem top_any (wd : Bool) (w : World) : Calls Try.prog 43 #[.bool wd] w fun e w' => e = .returned (.int .i64 (topI wd)) ∧ w = w' := by
  cases wd
  all_goals
    go_enter Try.func43, Try.ntmps43
    go_wp2
    go_ret
    exact ⟨rfl, rfl⟩
theorem rcode_any (wd : Bool) (A : Option Addr) (n c : Nat) (ot x : Int) (w : World) : Calls Try.prog 31 #[.agg #[.bool wd, .slice A n c, .int .i64 ot], .int .i64 x] w fun e w' => e = .returned (.bool (codeB wd x)) ∧ Below w.heap.size w w' := by
  by_cases h0 : 0 ≤ x
  · have hc : codeB wd x = decide (x ≤ topI wd) := by
      unfold codeB topI
      rw [decide_eq_decide]
      cases wd <;> simp only [Bool.false_eq_true, if_false, if_true] <;> omega
    obtain ⟨T, hT⟩ : ∃ T, topI wd = T := ⟨_, rfl⟩
    rw [hc, hT]
    have HT := Lib.hid hT
    have d0 : decide (0 ≤ x) = true := by simp; omega
    clear hc hT
    go_enter Try.func31, Try.ntmps31
    go_wp2_with fail
    refine (top_any wd _).mono ?_
    rw [HT.out]
    rintro e w1 ⟨rfl, rfl⟩
    go_wp2_with fail
    go_ret
    exact ⟨rfl, (Below.refl _ _).alloc (Nat.le_refl _) _⟩
  · have hc : codeB wd x = false := by unfold codeB; exact decide_eq_false (fun h => h0 h.1)
    rw [hc]
    have d0 : decide (0 ≤ x) = false := by simp; omega
    go_enter Try.func31, Try.ntmps31
    go_wp2
    go_ret
    exact ⟨rfl, (Below.refl _ _).alloc (Nat.le_refl _) _⟩
theorem rmeans_any (s : ByteArray) (w : World) (hs : s.size ≤ 9223372036854775807) (h0 : 0 < s.size) : Calls Try.prog 32 #[.string s] w fun e w' => e = .returned (.bool (textB s)) ∧ w = w' := by
  by_cases h1 : s.size ≤ 16
  · go_enter Try.func32, Try.ntmps32
    go_wp2
    go_ret
    exact ⟨ret_b (by rw [Bool.eq_iff_iff, beq_iff_eq]; unfold textB; rw [decide_eq_true_iff]; omega), rfl⟩
  · go_enter Try.func32, Try.ntmps32
    go_wp2
    go_ret
    exact ⟨ret_b (dec_f (by omega)), rfl⟩
set_option maxRecDepth 100000 in
set_option maxHeartbeats 4000000 in
theorem rfind_any (wd : Bool) (A : Option Addr) (n c : Nat) (ot : Int) (gs : List Gl) (code : Int) (w : World) (h : Glyphs w A n c gs) (hn : n ≤ 1000000) :
    Calls Try.prog 17 #[.agg #[.bool wd, .slice A n c, .int .i64 ot], .int .i64 code] w fun e w' =>
      e = .returned (.agg #[.int .i64 (findG ot gs code).code, .int .i64 (findG ot gs code).width, .string (findG ot gs code).text]) ∧ Below w.heap.size w w' := by
  have hl := h.len
  subst hl
  have hcap := h.cap
  have H := Lib.hid h
  have hF2 := (FB.made w wd A gs.length c ot).here ((Below.refl _ _).alloc (Nat.le_refl _) (.cells #[.int .i64 0, .int .i64 0, .string ⟨#[]⟩] 35))
  have hR := Whole.made (w.alloc (.cells #[.bool wd, .slice A gs.length c, .int .i64 ot] 24)) 35 #[.int .i64 0, .int .i64 0, .string ⟨#[]⟩]
  simp only [World.size_alloc] at hR
  have hB : Below w.heap.size w ((w.alloc (.cells #[.bool wd, .slice A gs.length c, .int .i64 ot] 24)).alloc (.cells #[.int .i64 0, .int .i64 0, .string ⟨#[]⟩] 35)) := by (repeat (first | with_reducible exact Below.refl _ _ | with_reducible refine Below.drew ?_ | with_reducible refine bdrewN ?_ _ | (with_reducible refine Below.setCell ?_ ?_ _; rotate_left; focus (first | exact Nat.le_refl _ | omega | (simp; omega) | (simp; done))) | (with_reducible refine Below.alloc ?_ ?_ _; rotate_left; focus (first | exact Nat.le_refl _ | omega | (simp; omega) | (simp; done))) | (with_reducible refine Below.trans ?_ (Below.mono (by assumption) ?_); rotate_left; focus (first | exact Nat.le_refl _ | omega | (simp; omega) | (simp; done)))))
  have HS := Lib.hid (And.intro (show ∀ j q, j < 0 → gs[j]? = some q → q.code ≠ code from fun j q hj => absurd hj (by omega)) (And.intro hF2 (And.intro hR hB)))
  clear h hF2 hR hB
  go_enter Try.func17, Try.ntmps17
  go_wp2_with fail
  go_loopw [5] (fun s10 wx => ∃ k : Nat, k ≤ gs.length ∧ s10 = .int .i64 k ∧ Hid ((∀ j q, j < k → gs[j]? = some q → q.code ≠ code) ∧ FB wx w.heap.size wd A gs.length c ot ∧ Whole wx (w.heap.size + 1) 35 #[.int .i64 0, .int .i64 0, .string ⟨#[]⟩] ∧ Below w.heap.size w wx)) (fun s10 _ => gs.length - (intOf s10).toNat)
  case atStart => exact ⟨0, by omega, rfl, HS⟩
  case round =>
    clear HS
    obtain ⟨k, hk, rfl, hS⟩ := hrel
    obtain ⟨f0, f1, f2⟩ := hS.out.2.1.cells
    have lF := Whole.lt hS.out.2.1
    have rd := hS.out.2.2.1.reads
    have ft := hS.out.2.2.1.thawed
    have lR := hS.out.2.2.1.lt
    by_cases hlt : k < gs.length
    · obtain ⟨g, hg⟩ : ∃ g, gs[k]? = some g := ⟨_, List.getElem?_eq_getElem hlt⟩
      obtain ⟨R, o, rfl, hRR, hc⟩ := (H.out.below hS.out.2.2.2).at_ (by omega)
      obtain ⟨k0, k1, k2⟩ := hc k g hg
      have d1 : decide ((k : Int) < (gs.length : Int)) = true := by simp; omega
      have d2 : decide (k < gs.length) = true := by simp; omega
      have HG := Lib.hid hg
      clear hg hc
      by_cases he : g.code = code
      · have d3 : (g.code == code) = true := by simp; omega
        have HF := Lib.hid (show findG ot gs code = g by unfold findG; rw [hit_first HG.out he hS.out.1]; rfl)
        clear he
        go_wp2_with fail
        refine bodyPost_ret (v := .agg #[.int .i64 g.code, .int .i64 g.width, .string g.text]) (by simp [results, Try.results17, go_sem, rd]) rfl ⟨by rw [HF.out], ?_⟩
        (repeat (first | with_reducible refine Below.drew ?_ | with_reducible refine bdrewN ?_ _ | (with_reducible refine Below.setCell ?_ ?_ _; rotate_left; focus (first | exact Nat.le_refl _ | omega | (simp; omega) | (simp; done))) | (with_reducible refine Below.alloc ?_ ?_ _; rotate_left; focus (first | exact Nat.le_refl _ | omega | (simp; omega) | (simp; done))))); with_reducible exact hS.out.2.2.2
      · have d3 : (g.code == code) = false := by simp; omega
        have HN := Lib.hid (show ∀ j q, j < k + 1 → gs[j]? = some q → q.code ≠ code from fun j q hj hq => by
          rcases Nat.lt_succ_iff_lt_or_eq.1 hj with h | rfl
          · exact hS.out.1 j q h hq
          · rw [HG.out] at hq; injection hq with e; subst e; exact he)
        clear he
        go_wp2_with fail
        go_roundw
        case rel => exact ⟨k + 1, by omega, by go_num, Lib.hid ⟨HN.out, hS.out.2.1, hS.out.2.2.1, hS.out.2.2.2⟩⟩
        case measure => simp [intOf]; omega
    · have d1 : decide ((k : Int) < (gs.length : Int)) = false := by simp; omega
      have d2 : decide (k < gs.length) = false := by simp; omega
      have HF := Lib.hid (show findG ot gs code = ⟨code, ot, ⟨#[]⟩⟩ by unfold findG; rw [hit_never (fun j q hj => hS.out.1 j q (by omega))]; rfl)
      go_wp2_with fail
      refine bodyPost_ret (v := .agg #[.int .i64 code, .int .i64 ot, .string ⟨#[]⟩]) (by simp [results, Try.results17, go_sem, rd]) rfl ⟨by rw [HF.out], ?_⟩
      (repeat (first | with_reducible refine Below.drew ?_ | with_reducible refine bdrewN ?_ _ | (with_reducible refine Below.setCell ?_ ?_ _; rotate_left; focus (first | exact Nat.le_refl _ | omega | (simp; omega) | (simp; done))) | (with_reducible refine Below.alloc ?_ ?_ _; rotate_left; focus (first | exact Nat.le_refl _ | omega | (simp; omega) | (simp; done))))); with_reducible exact hS.out.2.2.2
end Go.Proofs.Ytldhkhaciflmoaa
