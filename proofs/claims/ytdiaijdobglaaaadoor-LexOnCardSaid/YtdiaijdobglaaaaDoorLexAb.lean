/- The law LexBack, whole. -/
import Derived.Test.YtdiaijdobglaaaaDoorLexX
namespace Go.Proofs.YtdiaijdobglaaaaDoor
open Go.RowKit

theorem print_yes {t : TokV} (h : validB t = true) : printI t = (0, printT DN t) := by unfold printI; rw [if_pos h]
theorem print_no {t : TokV} (h : validB t = false) : printI t = (1, []) := by unfold printI; rw [h]; rfl
theorem back_any (kt mt st ku mu su : Int) (xt xu : ByteArray) (w : World) (h1 : xt.size ≤ maxLen) (h2 : xu.size ≤ maxLen) (hE : Env w) :
    Calls Tryd.prog 3 #[.agg #[.int .i64 kt, .int .i64 mt, .int .i64 st, .string xt], .agg #[.int .i64 ku, .int .i64 mu, .int .i64 su, .string xu]] w (True_ w) := by
  unfold maxLen at h1 h2
  by_cases hl : 500 < xt.size + xu.size ∧ xt.size + xu.size ≤ 9223372036854775807
  · exact back_long kt mt st ku mu su xt xu w hl.2 hl.1
  obtain ⟨Z, e1, d1⟩ : ∃ Z : Int, IntKind.i64.wrap ((xt.size : Int) + (xu.size : Int)) = Z ∧ decide ((500 : Int) < Z) = false := ⟨_, rfl, by rw [IntKind.wrap_i64]; exact decide_eq_false (by omega)⟩
  have hbt : ∀ c ∈ (⟨kt, mt, st, natsOf xt⟩ : TokV).text, c < 256 := nats_lt xt
  have hbu : ∀ c ∈ (⟨ku, mu, su, natsOf xu⟩ : TokV).text, c < 256 := nats_lt xu
  cases ht : validB ⟨kt, mt, st, natsOf xt⟩
  · cases hu : validB ⟨ku, mu, su, natsOf xu⟩
    · exact back_bad kt mt st ku mu su xt xu w Z e1 d1 1 1 ⟨#[]⟩ ⟨#[]⟩ hE (fun w hE => print_cat (print_no ht) rfl w hE) (fun w hE => print_cat (print_no hu) rfl w hE) (.inl ⟨rfl, rfl, rfl, rfl⟩)
    · exact back_bad kt mt st ku mu su xt xu w Z e1 d1 1 0 ⟨#[]⟩ _ hE (fun w hE => print_cat (print_no ht) rfl w hE) (fun w hE => print_cat (print_yes hu) rfl w hE) (.inr (.inr ⟨rfl, rfl, rfl⟩))
  · cases hu : validB ⟨ku, mu, su, natsOf xu⟩
    · exact back_bad kt mt st ku mu su xt xu w Z e1 d1 0 1 _ ⟨#[]⟩ hE (fun w hE => print_cat (print_yes ht) rfl w hE) (fun w hE => print_cat (print_no hu) rfl w hE) (.inr (.inl ⟨rfl, rfl, rfl⟩))
    · have vt : (natsOf xt).length ≤ 65535 := valid_len ht hbt
      have vu : (natsOf xu).length ≤ 65535 := valid_len hu hbu
      rw [nats_len] at vt vu
      have hl' : xt.size + xu.size ≤ 500 := by omega
      have ea := nats_str (print_lt hbt)
      have eb := nats_str (print_lt hbu)
      have la := print_len ht
      have lb := print_len hu
      have lt : (⟨kt, mt, st, natsOf xt⟩ : TokV).text.length = xt.size := nats_len xt
      have lu : (⟨ku, mu, su, natsOf xu⟩ : TokV).text.length = xu.size := nats_len xu
      have sa := strB_len (printT DN ⟨kt, mt, st, natsOf xt⟩)
      have sb := strB_len (printT DN ⟨ku, mu, su, natsOf xu⟩)
      by_cases hk : kt = 0
      · obtain ⟨z9, hz⟩ := back_one ht hk hu hbu
        exact back_a kt mt st ku mu su xt xu w hl' (strB (printT DN ⟨kt, mt, st, natsOf xt⟩)) (strB (printT DN ⟨ku, mu, su, natsOf xu⟩)) (by omega) (by omega) hE (fun w hE => print_cat (print_yes ht) rfl w hE) (fun w hE => print_cat (print_yes hu) rfl w hE) hk z9 (by rw [ea, eb]; exact hz)
      · obtain ⟨p, z9, n1, n2, n3⟩ := back_two ht hbt hk hu hbu
        have n3' : nextI (backL (printT DN ⟨kt, mt, st, natsOf xt⟩) (printT DN ⟨ku, mu, su, natsOf xu⟩)) z9 = (0, noTok, ((4 + (strB (printT DN ⟨kt, mt, st, natsOf xt⟩)).size + 5 + (strB (printT DN ⟨ku, mu, su, natsOf xu⟩)).size + 1 : Nat) : Int)) := by
          rw [n3, back_len, sa, sb]
          congr 3
          omega
        by_cases hk2 : ku = 0
        · exact back_b kt mt st ku mu su xt xu w hl' (strB (printT DN ⟨kt, mt, st, natsOf xt⟩)) (strB (printT DN ⟨ku, mu, su, natsOf xu⟩)) (by omega) (by omega) hE (fun w hE => print_cat (print_yes ht) rfl w hE) (fun w hE => print_cat (print_yes hu) rfl w hE) hk hk2 p z9 (by rw [ea, eb]; exact n1) (by rw [ea, eb]; exact n2) (by rw [ea, eb]; exact n3')
        · exact back_c kt mt st ku mu su xt xu w hl' (strB (printT DN ⟨kt, mt, st, natsOf xt⟩)) (strB (printT DN ⟨ku, mu, su, natsOf xu⟩)) (by omega) (by omega) hE (fun w hE => print_cat (print_yes ht) rfl w hE) (fun w hE => print_cat (print_yes hu) rfl w hE) hk hk2 p z9 (by rw [ea, eb]; exact n1) (by rw [ea, eb]; exact n2) (by rw [ea, eb]; exact n3')
end Go.Proofs.YtdiaijdobglaaaaDoor
