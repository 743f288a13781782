/- lex: plain. -/
import Derived.Test.YtdiaijdobglaaaaGreatDoorLexF
import Derived.Test.YtdiaijdobglaaaaGreatDoorDecTexts
namespace Go.Proofs.YtdiaijdobglaaaaGreatDoor
open Go.RowKit

theorem tok_set {w : World} {g : Nat} {a b c d p q r s : Value} (h : Whole w g 27 #[a, b, c, d]) :
    Whole ((((w.setCell ⟨g, 0, none⟩ p).setCell ⟨g, 1, none⟩ q).setCell ⟨g, 2, none⟩ r).setCell ⟨g, 3, none⟩ s) g 27 #[p, q, r, s] := by
  have := (((h.set 0 p).set 1 q).set 2 r).set 3 s
  simpa using this
/-- A function ends with a token in the cells of block g. -/
theorem ret_tok {fn : Func} {a : Act} {Q : Ending → World → Prop} {W : World} {g : Nat} {t : TokV} {x : Value} (hW : Whole W g 27 #[.int .i64 t.kind, .int .i64 t.m, .int .i64 t.s, .string (strB t.text)])
    (hr : ∀ V : World, Whole V g 27 #[.int .i64 t.kind, .int .i64 t.m, .int .i64 t.s, .string (strB t.text)] → (results fn a.tmps).run Tryz.prog V = .ok (.tuple #[tokV t, x]) V) (hd : a.defers = []) (hQ : Q (.returned (.tuple #[tokV t, x])) W) : bodyPost Tryz.prog fn Q .ret a W :=
  bodyPost_ret (hr W hW) hd hQ
/-- What dec's Parse answers of bytes. -/
def PN (t : List Nat) : Int × Int × Int := parseL (t.map UInt8.ofNat)
set_option maxRecDepth 100000 in
set_option maxHeartbeats 4000000 in
theorem plain_any (t r : List Nat) (w : World) (hl : t.length ≤ 1000000000) (hm : MaxLen w) :
    Calls Tryz.prog 31 #[.string (strB t)] w (TokAns (plainL PN t r).1 (plainL PN t r).2.1 w) := by
  have hsz : (strB t).size = t.length := by
    show ((t.map UInt8.ofNat).toArray).size = _
    simp
  have hP := fun w hm => parse_any (strB t) w hm (by rw [hsz]; omega)
  rw [show (strB t).data.toList = t.map UInt8.ofNat from rfl] at hP
  have hPN : parseL (t.map UInt8.ofNat) = PN t := rfl
  rw [hPN] at hP
  have HP := Lib.hid hP
  have HM := Lib.hid (maxLen_below ((Below.refl w.heap.size w).alloc (Nat.le_refl _) (.cells #[.int .i64 0, .int .i64 0, .int .i64 0, .string ⟨#[]⟩] 27)) hm)
  unfold plainL
  obtain ⟨⟨M, S, E⟩, hE⟩ : ∃ z, PN t = z := ⟨_, rfl⟩
  rw [hE] at HP ⊢
  have HZ := Lib.hid hsz
  have H0 := Lib.hid ((Whole.made w 27 #[.int .i64 0, .int .i64 0, .int .i64 0, .string ⟨#[]⟩]))
  clear hP hPN hE hsz hm
  by_cases h0 : E = 0
  · subst h0
    rw [if_pos rfl]
    go_enter Tryz.func31, Tryz.ntmps31
    go_wp2_with fail
    refine (HP.out _ HM.out).mono ?_
    rintro e w1 ⟨rfl, hb⟩
    have rd := (H0.out.here hb).reads
    have ft := (H0.out.here hb).thawed
    have lR := (H0.out.here hb).lt
    have HW := Lib.hid (H0.out.here hb)
    have HB := Lib.hid (((Below.refl w.heap.size w).alloc (Nat.le_refl _) (.cells #[.int .i64 0, .int .i64 0, .int .i64 0, .string ⟨#[]⟩] 27)).trans (hb.mono (by simp)))
    clear hb
    go_wp2_with fail
    refine ret_tok (t := ⟨1, M, S, []⟩) (g := w.heap.size) ((tok_set HW.out).old _) (fun V hV => by have rv := hV.reads; simp [results, Tryz.results31, go_sem, rv, tokV, strB]) rfl ⟨rfl, ?_⟩
    (repeat (first | with_reducible refine Below.drew ?_ | with_reducible refine bdrewN ?_ _ | (with_reducible refine Below.setCell ?_ ?_ _; rotate_left; focus (first | exact Nat.le_refl _ | omega | (simp; omega) | (simp; done))) | (with_reducible refine Below.alloc ?_ ?_ _; rotate_left; focus (first | exact Nat.le_refl _ | omega | (simp; omega) | (simp; done))))); with_reducible exact HB.out
  rw [if_neg h0]
  have e0 : (E == 0) = false := by simpa using h0
  by_cases h4 : E = 4
  · subst h4
    rw [if_neg (show ¬ ((M, S, (4 : Int)) : Int × Int × Int).2.2 ≠ 4 from fun h => h rfl)]
    by_cases hl2 : 127 < t.length
    · rw [if_pos hl2]
      unfold errN
      simp only
      have d : decide ((127 : Int) < ((strB t).size : Int)) = true := decide_eq_true (by rw [HZ.out]; omega)
      have d2 : decide (127 < (strB t).size) = true := decide_eq_true (by rw [HZ.out]; omega)
      clear h0 e0
      go_enter Tryz.func31, Tryz.ntmps31
      go_wp2_with fail
      refine (HP.out _ HM.out).mono ?_
      rintro e w1 ⟨rfl, hb⟩
      have rd := (H0.out.here hb).reads
      have ft := (H0.out.here hb).thawed
      have lR := (H0.out.here hb).lt
      have HW := Lib.hid (H0.out.here hb)
      have HB := Lib.hid (((Below.refl w.heap.size w).alloc (Nat.le_refl _) (.cells #[.int .i64 0, .int .i64 0, .int .i64 0, .string ⟨#[]⟩] 27)).trans (hb.mono (by simp)))
      clear hb
      go_wp2_with fail
      refine ret_tok (t := noTok) (g := w.heap.size) ((tok_set HW.out).old _) (fun V hV => by have rv := hV.reads; simp [results, Tryz.results31, go_sem, rv, tokV, noTok, strB]) rfl ⟨rfl, ?_⟩
      (repeat (first | with_reducible refine Below.drew ?_ | with_reducible refine bdrewN ?_ _ | (with_reducible refine Below.setCell ?_ ?_ _; rotate_left; focus (first | exact Nat.le_refl _ | omega | (simp; omega) | (simp; done))) | (with_reducible refine Below.alloc ?_ ?_ _; rotate_left; focus (first | exact Nat.le_refl _ | omega | (simp; omega) | (simp; done))))); with_reducible exact HB.out
    · rw [if_neg hl2]
      have d : decide ((127 : Int) < ((strB t).size : Int)) = false := decide_eq_false (by rw [HZ.out]; omega)
      have d2 : decide (127 < (strB t).size) = false := decide_eq_false (by rw [HZ.out]; omega)
      clear h0 e0
      go_enter Tryz.func31, Tryz.ntmps31
      go_wp2_with fail
      refine (HP.out _ HM.out).mono ?_
      rintro e w1 ⟨rfl, hb⟩
      have rd := (H0.out.here hb).reads
      have ft := (H0.out.here hb).thawed
      have lR := (H0.out.here hb).lt
      have HW := Lib.hid (H0.out.here hb)
      have HB := Lib.hid (((Below.refl w.heap.size w).alloc (Nat.le_refl _) (.cells #[.int .i64 0, .int .i64 0, .int .i64 0, .string ⟨#[]⟩] 27)).trans (hb.mono (by simp)))
      clear hb
      go_wp2_with fail
      refine ret_tok (t := ⟨4, 0, 0, t⟩) (g := w.heap.size) ((tok_set HW.out).old _) (fun V hV => by have rv := hV.reads; simp [results, Tryz.results31, go_sem, rv, tokV, strB]) rfl ⟨rfl, ?_⟩
      (repeat (first | with_reducible refine Below.drew ?_ | with_reducible refine bdrewN ?_ _ | (with_reducible refine Below.setCell ?_ ?_ _; rotate_left; focus (first | exact Nat.le_refl _ | omega | (simp; omega) | (simp; done))) | (with_reducible refine Below.alloc ?_ ?_ _; rotate_left; focus (first | exact Nat.le_refl _ | omega | (simp; omega) | (simp; done))))); with_reducible exact HB.out
  · rw [if_pos h4]
    unfold errN
    simp only
    have e4 : (E == 4) = false := by simpa using h4
    have e5 : (E != 4) = true := by simpa using h4
    clear h0 h4
    go_enter Tryz.func31, Tryz.ntmps31
    go_wp2_with fail
    refine (HP.out _ HM.out).mono ?_
    rintro e w1 ⟨rfl, hb⟩
    have rd := (H0.out.here hb).reads
    have ft := (H0.out.here hb).thawed
    have lR := (H0.out.here hb).lt
    have HW := Lib.hid (H0.out.here hb)
    have HB := Lib.hid (((Below.refl w.heap.size w).alloc (Nat.le_refl _) (.cells #[.int .i64 0, .int .i64 0, .int .i64 0, .string ⟨#[]⟩] 27)).trans (hb.mono (by simp)))
    clear hb
    go_wp2_with fail
    refine ret_tok (t := noTok) (g := w.heap.size) ((tok_set HW.out).old _) (fun V hV => by have rv := hV.reads; simp [results, Tryz.results31, go_sem, rv, tokV, noTok, strB]) rfl ⟨rfl, ?_⟩
    (repeat (first | with_reducible refine Below.drew ?_ | with_reducible refine bdrewN ?_ _ | (with_reducible refine Below.setCell ?_ ?_ _; rotate_left; focus (first | exact Nat.le_refl _ | omega | (simp; omega) | (simp; done))) | (with_reducible refine Below.alloc ?_ ?_ _; rotate_left; focus (first | exact Nat.le_refl _ | omega | (simp; omega) | (simp; done))))); with_reducible exact HB.out
end Go.Proofs.YtdiaijdobglaaaaGreatDoor
