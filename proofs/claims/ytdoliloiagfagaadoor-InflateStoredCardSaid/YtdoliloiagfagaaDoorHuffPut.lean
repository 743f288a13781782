/- huff's Put. -/
import Derived.Test.YtdoliloiagfagaaDoorHuffTab
namespace Go.Proofs.YtdoliloiagfagaaDoor
open Go.RowKit

theorem tput_nil (V : Value) (hV : ∃ p, V = .pointer p) (s : Int) (w : World) :
    Calls Tryd.prog 51 #[.pointer none, V, .int .i64 s] w fun e w' => e = .returned (.int .i64 3) ∧ w' = w := by
  obtain ⟨p, rfl⟩ := hV
  go_enter Tryd.func51, Tryd.ntmps51
  go_wp2
  go_ret
  exact ⟨rfl, rfl⟩
theorem tput_nil2 (B : Nat) (s : Int) (w : World) :
    Calls Tryd.prog 51 #[.pointer (some ⟨B, 0, none⟩), .pointer none, .int .i64 s] w fun e w' => e = .returned (.int .i64 3) ∧ w' = w := by
  go_enter Tryd.func51, Tryd.ntmps51
  go_wp2
  go_ret
  exact ⟨rfl, rfl⟩
theorem wd_drew {w : World} {B base : Nat} {v : Value} {M T : Nat} (h : WD w B base v M T) : WD w.drew B base v M T := by
  obtain ⟨word, held, bs, hs, h1, h2, h3, h4⟩ := h
  exact ⟨word, held, bs, ⟨hs.whole.drawn1, hs.own, hs.byte, hs.low⟩, h1, h2, h3, h4⟩
theorem wrote_drew {w w' : World} {B base : Nat} {v : Value} {M T : Nat} (h : Wrote B base v M T w.drew w') : Wrote B base v M T w w' := by
  obtain ⟨v', h1, h2, h3⟩ := h
  exact ⟨v', h1, ⟨h2.os, h2.tape, h2.output, h2.size, h2.block⟩, h3⟩
set_option maxRecDepth 100000 in
set_option maxHeartbeats 4000000 in
theorem tput_out (B base G n BW : Nat) (cs : Array Value) (v : Value) (syms : List Nat) (ws : Array Value) (s : Int) (w : World) (h : TB w B base G cs v syms ws n) (hs : s < 0 ∨ (n : Int) ≤ s) :
    Calls Tryd.prog 51 #[.pointer (some ⟨B, 0, none⟩), .pointer (some ⟨BW, 0, none⟩), .int .i64 s] w fun e w' => e = .returned (.int .i64 8) ∧ w' = w := by
  obtain ⟨-, c17, -⟩ := h.cells
  have lB := h.whole.lt
  clear h
  by_cases h0 : s < 0
  · go_enter Tryd.func51, Tryd.ntmps51
    go_wp2
    go_ret
    exact ⟨rfl, rfl⟩
  · have h1 : (n : Int) ≤ s := by omega
    clear hs
    go_enter Tryd.func51, Tryd.ntmps51
    go_wp2
    go_ret
    exact ⟨rfl, rfl⟩
set_option maxRecDepth 100000 in
set_option maxHeartbeats 4000000 in
theorem tput_none (B base G n BW s : Nat) (cs : Array Value) (v : Value) (syms : List Nat) (ws : Array Value) (w : World) (h : TB w B base G cs v syms ws n) (hs : s < n) (hw : ws[s * 2 + 1]? = some (.int .i64 0)) :
    Calls Tryd.prog 51 #[.pointer (some ⟨B, 0, none⟩), .pointer (some ⟨BW, 0, none⟩), .int .i64 s] w fun e w' => e = .returned (.int .i64 8) ∧ w' = w := by
  obtain ⟨-, c17, -⟩ := h.cells
  have lB := h.whole.lt
  have lG := h.words.lt
  have g1 : w.cell? ⟨G, s * 2 + 1, none⟩ = some (.int .i64 0) := by rw [h.words.reads]; exact hw
  clear h hw
  go_enter Tryd.func51, Tryd.ntmps51
  go_wp2
  go_ret
  exact ⟨rfl, rfl⟩
set_option maxRecDepth 100000 in
set_option maxHeartbeats 4000000 in
theorem tput_some (B base G n BW bs M T s k x : Nat) (cs : Array Value) (v vw : Value) (syms : List Nat) (ws : Array Value) (w : World) (h : TB w B base G cs v syms ws n) (hs : s < n) (h0 : ws[s * 2]? = some (.int .i64 k)) (h1 : ws[s * 2 + 1]? = some (.int .i64 x))
    (hx0 : 0 < x) (hx : x ≤ 15) (hk : k < 2 ^ x) (hW : WD w BW bs vw M T) (hT : T ≤ 1000000000) :
    Calls Tryd.prog 51 #[.pointer (some ⟨B, 0, none⟩), .pointer (some ⟨BW, 0, none⟩), .int .i64 s] w (PutIs BW bs vw (M + 2 ^ T * k) (T + x) w) := by
  obtain ⟨-, c17, -⟩ := h.cells
  have lB := h.whole.lt
  have lG := h.words.lt
  have g0 : w.cell? ⟨G, s * 2, none⟩ = some (.int .i64 k) := by rw [h.words.reads]; exact h0
  have g1 : w.cell? ⟨G, s * 2 + 1, none⟩ = some (.int .i64 x) := by rw [h.words.reads]; exact h1
  have hp := put_any BW bs M T x k vw w.drew (wd_drew hW) (by omega) hk hT
  have HP := Lib.hid hp
  clear h h0 h1 hp hk hW
  have hxz : ((x : Int) == 0) = false := by simp; omega
  go_enter Tryd.func51, Tryd.ntmps51
  go_wp2_with fail
  go_still_tail 17, (by kernel_rfl)
  change wpList _ _ _ _ _ w.drew
  generalize hq : w.drew = wq at HP ⊢
  go_wp2_with fail
  refine HP.out.mono ?_
  rintro e w2 ⟨rfl, hw⟩
  subst hq
  have HR := Lib.hid (wrote_drew hw)
  clear hw
  go_wp2
  go_ret
  exact ⟨rfl, HR.out⟩
end Go.Proofs.YtdoliloiagfagaaDoor
