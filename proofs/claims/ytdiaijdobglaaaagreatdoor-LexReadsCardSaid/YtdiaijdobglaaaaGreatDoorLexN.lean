/- lex: Next. -/
import Derived.Test.YtdiaijdobglaaaaGreatDoorLexM
namespace Go.Proofs.YtdiaijdobglaaaaGreatDoor
open Go.RowKit

/-- What Next answers: the error, the token, the place behind. -/
def nextI (bs : List Nat) (at_ : Int) : Int × TokV × Int :=
  if at_ < 0 ∨ (bs.length : Int) < at_ then (1, noTok, 0)
  else if (nextL PN (bs.drop at_.toNat)).1 = 0 then (0, (nextL PN (bs.drop at_.toNat)).2.1, (bs.length : Int) - ((nextL PN (bs.drop at_.toNat)).2.2.length : Int))
  else ((nextL PN (bs.drop at_.toNat)).1, noTok, 0)
def NextSaid (x : Int × TokV × Int) (w : World) (e : Ending) (w' : World) : Prop := e = .returned (.tuple #[tokV x.2.1, .int .i64 x.2.2, .int .i64 x.1]) ∧ Below w.heap.size w w'
theorem ret_tok3 {fn : Func} {a : Act} {Q : Ending → World → Prop} {W : World} {g : Nat} {t : TokV} {x y : Value} (hW : Whole W g 27 #[.int .i64 t.kind, .int .i64 t.m, .int .i64 t.s, .string (strB t.text)])
    (hr : ∀ V : World, Whole V g 27 #[.int .i64 t.kind, .int .i64 t.m, .int .i64 t.s, .string (strB t.text)] → (results fn a.tmps).run Tryz.prog V = .ok (.tuple #[tokV t, x, y]) V) (hd : a.defers = []) (hQ : Q (.returned (.tuple #[tokV t, x, y])) W) : bodyPost Tryz.prog fn Q .ret a W :=
  bodyPost_ret (hr W hW) hd hQ
set_option maxRecDepth 100000 in
set_option maxHeartbeats 16000000 in
theorem Next_any (A : Option Addr) (n c : Nat) (bs : List Nat) (at_ : Int) (w : World) (h : Bytes w A n c bs) (hn : n ≤ 1000000000) (hm : MaxLen w) :
    Calls Tryz.prog 6 #[.slice A n c, .int .i64 at_] w (NextSaid (nextI bs at_) w) := by
  have hlen := h.len
  by_cases hbad : at_ < 0 ∨ (n : Int) < at_
  · have HE := Lib.hid (show nextI bs at_ = (1, noTok, 0) by unfold nextI; rw [if_pos (by rw [hlen]; exact hbad)])
    have hcap := h.cap
    have htop := h.top
    clear h hm hlen
    rcases hbad with hb | hb
    · have d1 : decide (at_ < 0) = true := decide_eq_true hb
      go_enter Tryz.func6, Tryz.ntmps6
      go_wp2_with fail
      refine bodyPost_ret (v := .tuple #[tokV noTok, .int .i64 0, .int .i64 1]) (by simp [results, Tryz.results6, go_sem, tokV, noTok]; rfl) rfl ?_
      rw [HE.out]
      refine ⟨rfl, ?_⟩
      (repeat (first | with_reducible exact Below.refl _ _ | with_reducible refine Below.drew ?_ | with_reducible refine bdrewN ?_ _ | (with_reducible refine Below.setCell ?_ ?_ _; rotate_left; focus (first | exact Nat.le_refl _ | omega | (simp; omega) | (simp; done))) | (with_reducible refine Below.alloc ?_ ?_ _; rotate_left; focus (first | exact Nat.le_refl _ | omega | (simp; omega) | (simp; done))) | (with_reducible refine Below.trans ?_ (Below.mono (by assumption) ?_); rotate_left; focus (first | exact Nat.le_refl _ | omega | (simp; omega) | (simp; done)))))
    · have d1 : decide (at_ < 0) = false := decide_eq_false (by omega)
      have d2 : decide (at_ > (n : Int)) = true := decide_eq_true (by omega)
      have d3 : decide ((n : Int) < at_) = true := decide_eq_true (by omega)
      go_enter Tryz.func6, Tryz.ntmps6
      go_wp2_with fail
      refine bodyPost_ret (v := .tuple #[tokV noTok, .int .i64 0, .int .i64 1]) (by simp [results, Tryz.results6, go_sem, tokV, noTok]; rfl) rfl ?_
      rw [HE.out]
      refine ⟨rfl, ?_⟩
      (repeat (first | with_reducible exact Below.refl _ _ | with_reducible refine Below.drew ?_ | with_reducible refine bdrewN ?_ _ | (with_reducible refine Below.setCell ?_ ?_ _; rotate_left; focus (first | exact Nat.le_refl _ | omega | (simp; omega) | (simp; done))) | (with_reducible refine Below.alloc ?_ ?_ _; rotate_left; focus (first | exact Nat.le_refl _ | omega | (simp; omega) | (simp; done))) | (with_reducible refine Below.trans ?_ (Below.mono (by assumption) ?_); rotate_left; focus (first | exact Nat.le_refl _ | omega | (simp; omega) | (simp; done)))))
  · obtain ⟨k, rfl⟩ : ∃ k : Nat, at_ = (k : Int) := ⟨at_.toNat, by omega⟩
    have hkn : k ≤ n := by omega
    have d1 : decide ((k : Int) < 0) = false := decide_eq_false (by omega)
    have d2 : decide ((k : Int) > (n : Int)) = false := decide_eq_false (by omega)
    have d3 : decide ((n : Int) < (k : Int)) = false := decide_eq_false (by omega)
    have d4 : decide (n < k) = false := decide_eq_false (by omega)
    have HE := Lib.hid (show nextI bs (k : Int) = if (nextL PN (bs.drop k)).1 = 0 then (0, (nextL PN (bs.drop k)).2.1, (n : Int) - ((nextL PN (bs.drop k)).2.2.length : Int)) else ((nextL PN (bs.drop k)).1, noTok, 0) by
      unfold nextI
      rw [if_neg (by rw [hlen]; exact hbad), hlen]
      rfl)
    have hbw := (((Below.refl w.heap.size w).alloc (Nat.le_refl _) (.cells #[.int .i64 0, .int .i64 0, .int .i64 0, .string ⟨#[]⟩] 27)).alloc (by simp) (.cells #[.slice A n c, .int .i64 (k : Int)] 38))
    have hR := Whole.made (w.alloc (.cells #[.int .i64 0, .int .i64 0, .int .i64 0, .string ⟨#[]⟩] 27)) 38 #[.slice A n c, .int .i64 (k : Int)]
    simp only [World.size_alloc] at hR
    have HRD := Lib.hid (show Rdr ((w.alloc (.cells #[.int .i64 0, .int .i64 0, .int .i64 0, .string ⟨#[]⟩] 27)).alloc (.cells #[.slice A n c, .int .i64 (k : Int)] 38)) (w.heap.size + 1) A n c bs k from ⟨hR, h.below hbw, fun hn B o e => by
      obtain ⟨B', o', e', hB, _⟩ := h.at_ hn
      rw [e] at e'
      injection e' with e'
      injection e' with e1 _
      omega, hkn, hn⟩)
    have HB := Lib.hid hbw
    have HM := Lib.hid (maxLen_below hbw hm)
    have HW := Lib.hid ((Whole.made w 27 #[.int .i64 0, .int .i64 0, .int .i64 0, .string ⟨#[]⟩]).old (.cells #[.slice A n c, .int .i64 (k : Int)] 38))
    have HLN := Lib.hid hlen
    clear h hm hlen hbad hbw hR
    go_enter Tryz.func6, Tryz.ntmps6
    go_wp2_with fail
    refine (next_any _ A n c bs k _ HRD.out HM.out).mono ?_
    rintro e w1 ⟨k2, ⟨rfl, hr, hf⟩, hrest⟩
    have HR1 := Lib.hid hr
    have HW1 := Lib.hid (HW.out.frame hf (by show ¬ w.heap.size = w.heap.size + 1; omega))
    have HB1 := Lib.hid (HB.out.trans (hf.below (B := w.heap.size) (by simp; omega) (fun j hj => by show ¬ j = w.heap.size + 1; omega)))
    have HRE := Lib.hid hrest
    have hk2 := hr.le
    clear hr hf hrest
    obtain ⟨⟨z1, ⟨kd, zm, zs, zt⟩, zr⟩, hz⟩ : ∃ z, nextL PN (bs.drop k) = z := ⟨_, rfl⟩
    rw [hz] at HRE HE ⊢
    clear hz
    simp only [tokV]
    have rd := HW1.out.reads
    have ft := HW1.out.thawed
    have lS := HW1.out.lt
    have lR := HR1.out.box.lt
    by_cases hz : z1 = 0
    · subst hz
      have HE2 := Lib.hid (show nextI bs (k : Int) = (0, ⟨kd, zm, zs, zt⟩, (n : Int) - (zr.length : Int)) from HE.out.trans (if_pos rfl))
      obtain ⟨hzr, hkk⟩ := HRE.out rfl
      have HL := Lib.hid (show (n : Int) - (zr.length : Int) = (k2 : Int) by
        have e1 : zr = bs.drop k2 := hzr
        rw [e1, List.length_drop, HLN.out]
        omega)
      obtain ⟨c0, c1, c2, -⟩ := HR1.out.cells
      clear hzr
      go_wp2_with fail
      go_region
      go_wp2_with fail
      refine ret_tok3 (t := ⟨kd, zm, zs, zt⟩) (x := .int .i64 (k2 : Int)) (y := .int .i64 0) (g := w.heap.size) (((tok_set HW1.out).old _).drawn1) (fun V hV => by have rv := hV.reads; simp [results, Tryz.results6, go_sem, rv, tokV]) rfl ?_
      rw [HE2.out]
      refine ⟨by simp only [HL.out], ?_⟩
      (repeat (first | with_reducible refine Below.drew ?_ | with_reducible refine bdrewN ?_ _ | (with_reducible refine Below.setCell ?_ ?_ _; rotate_left; focus (first | exact Nat.le_refl _ | omega | (simp; omega) | (simp; done))) | (with_reducible refine Below.alloc ?_ ?_ _; rotate_left; focus (first | exact Nat.le_refl _ | omega | (simp; omega) | (simp; done))))); with_reducible exact HB1.out
    · have z2 : (z1 == 0) = false := by simpa using hz
      have z3 : (z1 != 0) = true := by simpa using hz
      have HE2 := Lib.hid (show nextI bs (k : Int) = (z1, noTok, 0) from HE.out.trans (if_neg hz))
      clear hz
      go_wp2_with fail
      refine ret_tok3 (t := noTok) (x := .int .i64 0) (y := .int .i64 z1) (g := w.heap.size) ((tok_set HW1.out).old _) (fun V hV => by have rv := hV.reads; simp [results, Tryz.results6, go_sem, rv, tokV, noTok, strB]) rfl ?_
      rw [HE2.out]
      refine ⟨rfl, ?_⟩
      (repeat (first | with_reducible refine Below.drew ?_ | with_reducible refine bdrewN ?_ _ | (with_reducible refine Below.setCell ?_ ?_ _; rotate_left; focus (first | exact Nat.le_refl _ | omega | (simp; omega) | (simp; done))) | (with_reducible refine Below.alloc ?_ ?_ _; rotate_left; focus (first | exact Nat.le_refl _ | omega | (simp; omega) | (simp; done))))); with_reducible exact HB1.out
end Go.Proofs.YtdiaijdobglaaaaGreatDoor
