/- The law LexBack. -/
import Derived.Test.YtdiaijdobglaaaaDoorLexV
import Derived.Test.YtdiaijdobglaaaaDoorLexHu
namespace Go.Proofs.YtdiaijdobglaaaaDoor
open Go.RowKit

def catB (r1 r2 : ByteArray) : ByteArray := (((⟨#[32, 37, 120, 10]⟩ ++ r1) ++ ⟨#[10, 9, 37, 41, 13]⟩) ++ r2) ++ ⟨#[32]⟩
theorem cat_nats (r1 r2 : ByteArray) : natsOf (catB r1 r2) = backL (natsOf r1) (natsOf r2) := by
  unfold catB backL
  rw [nats_app, nats_app, nats_app, nats_app]
  rfl
theorem cat_size (r1 r2 : ByteArray) : (catB r1 r2).size = r1.size + r2.size + 10 := by
  rw [← nats_len, cat_nats, back_len, nats_len, nats_len]
theorem cat_size2 (r1 r2 : ByteArray) : (catB r1 r2).size = 4 + r1.size + 5 + r2.size + 1 := by rw [cat_size]; omega
theorem next_cat {bs : List Nat} {a e n : Int} {t : TokV} (h : nextI bs a = (e, t, n)) {v : Value} (hv : tokV t = v) (A : Option Addr) (k c : Nat) (w : World) (hb : Bytes w A k c bs) (hm : MaxLen w) (hs : k ≤ 1000000) :
    Calls Tryd.prog 8 #[.slice A k c, .int .i64 a] w fun e' w' => e' = .returned (.tuple #[v, .int .i64 n, .int .i64 e]) ∧ Below w.heap.size w w' := by
  subst hv
  have := Next_any A k c bs a w hb (by omega) hm
  rw [h] at this
  exact this
theorem print_cat {kd m s : Int} {x : ByteArray} {e : Int} {l : List Nat} (h : printI ⟨kd, m, s, natsOf x⟩ = (e, l)) {r : ByteArray} (hr : strB l = r) (w : World) (hE : Env w) :
    Calls Tryd.prog 6 #[.agg #[.int .i64 kd, .int .i64 m, .int .i64 s, .string x]] w fun e' w' => e' = .returned (.tuple #[.string r, .int .i64 e]) ∧ Below w.heap.size w w' := by
  subst hr
  have := Print_all kd m s x w hE
  rw [h] at this
  exact this
theorem tok_val (kd m s : Int) (x : ByteArray) : tokV ⟨kd, m, s, natsOf x⟩ = .agg #[.int .i64 kd, .int .i64 m, .int .i64 s, .string x] := by unfold tokV; rw [strB_nats]
/-- Two tokens in two blocks, side by side, and what the library's calls ask. -/
def Two (B : Nat) (c1 c2 : Array Value) (w0 w : World) : Prop := Whole w B 25 c1 ∧ Whole w (B + 1) 25 c2 ∧ Below w0.heap.size w0 w ∧ Env w
theorem Two.next {B : Nat} {c1 c2 : Array Value} {w0 w w' : World} (h : Two B c1 c2 w0 w) (hb : Below w.heap.size w w') : Two B c1 c2 w0 w' := ⟨h.1.here hb, h.2.1.here hb, h.2.2.1.trans (hb.mono h.2.2.1.size), h.2.2.2.below hb⟩
theorem Two.old {B : Nat} {c1 c2 : Array Value} {w0 w : World} (h : Two B c1 c2 w0 w) (o : Obj) : Two B c1 c2 w0 (w.alloc o) := h.next ((Below.refl _ _).alloc (Nat.le_refl _) o)
set_option maxRecDepth 100000 in
set_option maxHeartbeats 16000000 in
theorem back_long (kt mt st ku mu su : Int) (xt xu : ByteArray) (w : World) (h1 : xt.size + xu.size ≤ 9223372036854775807) (hl : 500 < xt.size + xu.size) :
    Calls Tryd.prog 3 #[.agg #[.int .i64 kt, .int .i64 mt, .int .i64 st, .string xt], .agg #[.int .i64 ku, .int .i64 mu, .int .i64 su, .string xu]] w (True_ w) := by
  have d1 : decide ((500 : Int) < (xt.size : Int) + (xu.size : Int)) = true := decide_eq_true (by omega)
  have e1 : IntKind.i64.wrap ((xt.size : Int) + (xu.size : Int)) = (xt.size : Int) + (xu.size : Int) := by rw [IntKind.wrap_i64]; omega
  go_enter Tryd.func3, Tryd.ntmps3
  go_wp2_with fail
  go_ret
  refine ⟨rfl, ?_⟩
  (repeat (first | with_reducible exact Below.refl _ _ | with_reducible refine Below.drew ?_ | with_reducible refine bdrewN ?_ _ | (with_reducible refine Below.setCell ?_ ?_ _; rotate_left; focus (first | exact Nat.le_refl _ | omega | (simp; omega) | (simp; done))) | (with_reducible refine Below.alloc ?_ ?_ _; rotate_left; focus (first | exact Nat.le_refl _ | omega | (simp; omega) | (simp; done))) | (with_reducible refine Below.trans ?_ (Below.mono (by assumption) ?_); rotate_left; focus (first | exact Nat.le_refl _ | omega | (simp; omega) | (simp; done)))))
set_option maxRecDepth 100000 in
set_option maxHeartbeats 16000000 in
theorem back_bad (kt mt st ku mu su : Int) (xt xu : ByteArray) (w : World) (Z : Int) (e1 : IntKind.i64.wrap ((xt.size : Int) + (xu.size : Int)) = Z) (d1 : decide ((500 : Int) < Z) = false) (E1 E2 : Int) (r1 r2 : ByteArray) (hE : Env w)
    (hp1 : ∀ w, Env w → Calls Tryd.prog 6 #[.agg #[.int .i64 kt, .int .i64 mt, .int .i64 st, .string xt]] w fun e' w' => e' = .returned (.tuple #[.string r1, .int .i64 E1]) ∧ Below w.heap.size w w')
    (hp2 : ∀ w, Env w → Calls Tryd.prog 6 #[.agg #[.int .i64 ku, .int .i64 mu, .int .i64 su, .string xu]] w fun e' w' => e' = .returned (.tuple #[.string r2, .int .i64 E2]) ∧ Below w.heap.size w w')
    (hbad : (E1 = 1 ∧ E2 = 1 ∧ r1 = ⟨#[]⟩ ∧ r2 = ⟨#[]⟩) ∨ (E1 = 0 ∧ E2 = 1 ∧ r2 = ⟨#[]⟩) ∨ (E1 = 1 ∧ E2 = 0 ∧ r1 = ⟨#[]⟩)) :
    Calls Tryd.prog 3 #[.agg #[.int .i64 kt, .int .i64 mt, .int .i64 st, .string xt], .agg #[.int .i64 ku, .int .i64 mu, .int .i64 su, .string xu]] w (True_ w) := by
  have HT := Lib.hid (show Two w.heap.size #[.int .i64 kt, .int .i64 mt, .int .i64 st, .string xt] #[.int .i64 ku, .int .i64 mu, .int .i64 su, .string xu] w ((w.alloc (.cells #[.int .i64 kt, .int .i64 mt, .int .i64 st, .string xt] 25)).alloc (.cells #[.int .i64 ku, .int .i64 mu, .int .i64 su, .string xu] 25)) from by
    have hb := ((Below.refl w.heap.size w).alloc (Nat.le_refl _) (.cells #[.int .i64 kt, .int .i64 mt, .int .i64 st, .string xt] 25)).alloc (by simp) (.cells #[.int .i64 ku, .int .i64 mu, .int .i64 su, .string xu] 25)
    have h2 := Whole.made (w.alloc (.cells #[.int .i64 kt, .int .i64 mt, .int .i64 st, .string xt] 25)) 25 #[.int .i64 ku, .int .i64 mu, .int .i64 su, .string xu]
    simp only [World.size_alloc] at h2
    exact ⟨(Whole.made w _ _).old _, h2, hb, hE.below hb⟩)
  have HP1 := Lib.hid hp1
  have HP2 := Lib.hid hp2
  clear hp1 hp2 hE
  rcases hbad with ⟨rfl, rfl, rfl, rfl⟩ | ⟨rfl, rfl, rfl⟩ | ⟨rfl, rfl, rfl⟩
  all_goals
    go_enter Tryd.func3, Tryd.ntmps3
    go_wp2_with fail
    refine (HP1.out _ HT.out.2.2.2).mono ?_
    rintro e w1 ⟨rfl, hb⟩
    have HT1 := Lib.hid (HT.out.next hb)
    have r2 := HT1.out.2.1.reads
    have l2 := HT1.out.2.1.lt
    clear hb
    go_wp2_with fail
    refine (HP2.out _ HT1.out.2.2.2).mono ?_
    rintro e w2 ⟨rfl, hb⟩
    have HT2 := Lib.hid (HT1.out.next hb)
    clear hb r2 l2
    go_wp2_with fail
    refine (awake_any _ HT2.out.2.2.2).mono ?_
    rintro e w3 ⟨rfl, hb⟩
    have HT3 := Lib.hid (HT2.out.next hb)
    clear hb
    go_wp2_with fail
    go_ret
    exact ⟨rfl, HT3.out.2.2.1⟩
end Go.Proofs.YtdiaijdobglaaaaDoor
