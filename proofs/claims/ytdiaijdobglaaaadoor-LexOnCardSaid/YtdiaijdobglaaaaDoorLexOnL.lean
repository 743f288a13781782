/- The law LexOn, whole. -/
import Derived.Test.YtdiaijdobglaaaaDoorLexZ
import Derived.Test.YtdiaijdobglaaaaDoorLexAb
namespace Go.Proofs.YtdiaijdobglaaaaDoor
open Go.RowKit

theorem on_any {w : World} (A : Option Addr) (n c : Nat) (bs : List Nat) (h : Bytes w A n c bs) (hA : A = none → c = 0) (at_ : Int) (A' : Option Addr) (m c' : Nat) (ms : List Nat) (h' : Bytes w A' m c' ms) (hA' : A' = none → c' = 0) (hE : Env w) :
    Calls Tryd.prog 4 #[.slice A n c, .int .i64 at_, .slice A' m c'] w (True_ w) := by
  by_cases hl : 500 < n ∨ 100 < m
  · exact on_long A n c at_ A' m c' w hl
  have hn : n ≤ 500 := by omega
  have hm : m ≤ 100 := by omega
  obtain ⟨⟨e, t, p⟩, hN⟩ : ∃ z, nextI bs at_ = z := ⟨_, rfl⟩
  by_cases he : e = 0
  · subst he
    obtain ⟨g1, g2, i, k, rfl, rfl, hik, hkn, himp⟩ := on_fact (ms := ms) hN h.byte
    rw [h.len] at hkn
    obtain ⟨kd, zm, zs, zt⟩ := t
    have hr : natsOf (strB zt) = zt := nats_str g2
    obtain ⟨⟨e2, t2, p2⟩, hN2⟩ : ∃ z, nextI (bs.take k ++ [32] ++ ms) (i : Int) = z := ⟨_, rfl⟩
    have hp : ∀ w, Env w → Calls Tryd.prog 6 #[.agg #[.int .i64 kd, .int .i64 zm, .int .i64 zs, .string (strB zt)]] w fun e' w' => e' = .returned (.tuple #[.string (strB (printT DN ⟨kd, zm, zs, zt⟩)), .int .i64 0]) ∧ Below w.heap.size w w' :=
      fun w hE => print_cat (by rw [hr]; exact print_yes g1) rfl w hE
    by_cases hk : kd = 0
    · exact on_end A n c bs hA i A' m c' ms hA' w hn hm h h' hE kd zm zs (strB zt) _ k hk (by rw [hr]; exact hN) hik hkn hp e2 p2 t2 hN2
    · obtain ⟨i1, i2⟩ := himp hk
      rw [hN2] at i2
      injection i2 with j1 j2
      injection j2 with j2 j3
      exact on_tok A n c bs hA i A' m c' ms hA' w hn hm h h' hE kd zm zs (strB zt) _ k hk (by rw [hr]; exact hN) hik hkn i1 hp e2 p2 t2 hN2 ⟨j1, by rw [hr]; exact j2, j3⟩
  · obtain ⟨rfl, rfl⟩ := next_err hN he
    exact on_err A n c bs at_ A' m c' w hn hm h hE e he hN
end Go.Proofs.YtdiaijdobglaaaaDoor
