/- The reference's reader: its Bits and Align. -/
import Derived.Test.YtpcofdhhnfichaaHBoolRow
namespace Go.Proofs.Ytpcofdhhnfichaa
open Go.RowKit

/-- The reference's reader in block X: n bits of the number N, of which p were read; the bits lie in block R. -/
structure XR (w : World) (X R N n p : Nat) (A : Option Addr) (c : Nat) : Prop where
  whole : Whole w X 42 #[.slice A n c, .int .i64 p]
  le : p ≤ n
  cap : n ≤ c
  top : c ≤ 9223372036854775807 ∧ n ≤ 1000000000
  row : (A = none ∧ n = 0 ∧ c = 0) ∨ (A = some ⟨R, 0, none⟩ ∧ ∃ cur, Whole w R 4 cur ∧ ∀ i, i < n → cur[i]? = some (.bool (N.testBit i)))
theorem XR.frame {w w' : World} {X R N n p c : Nat} {A : Option Addr} {S : Nat → Prop} (h : XR w X R N n p A c) (hf : Fr S w w') (hX : ¬ S X) (hR : ¬ S R) : XR w' X R N n p A c :=
  ⟨h.whole.frame hf hX, h.le, h.cap, h.top, by
    rcases h.row with h1 | ⟨e, cur, hw, hc⟩
    · exact .inl h1
    · exact .inr ⟨e, cur, hw.frame hf hR, hc⟩⟩
theorem XR.cells {w : World} {X R N n p c : Nat} {A : Option Addr} (h : XR w X R N n p A c) : w.cell? ⟨X, 0, none⟩ = some (.slice A n c) ∧ w.cell? ⟨X, 1, none⟩ = some (.int .i64 p) ∧ w.frozen? ⟨X, 1, none⟩ = false :=
  ⟨by rw [h.whole.reads 0]; rfl, by rw [h.whole.reads 1]; rfl, h.whole.thawed 1⟩
theorem XR.moved {w : World} {X R N n p c p' : Nat} {A : Option Addr} (h : XR w X R N n p A c) (hp : p' ≤ n) {x : Int} (hx : x = (p' : Int)) : XR (w.setCell ⟨X, 1, none⟩ (.int .i64 x)) X R N n p' A c := by
  subst hx
  have hw := h.whole.set 1 (.int .i64 (p' : Int))
  refine ⟨by simpa using hw, hp, h.cap, h.top, ?_⟩
  rcases h.row with h1 | ⟨e, cur, hw, hc⟩
  · exact .inl h1
  · exact .inr ⟨e, cur, hw.away (p := ⟨X, 1, none⟩) (hw.apart h.whole (by decide)) _, hc⟩
theorem XR.drewN {w : World} {X R N n p c : Nat} {A : Option Addr} (h : XR w X R N n p A c) (j : Nat) : XR (w.drewN j) X R N n p A c := h.frame (Fr.drewN (Fr.refl (fun _ => False) w) j) (fun h => h) (fun h => h)
/-- A part of the bits. -/
theorem XR.part {w : World} {X R N n p c : Nat} {A : Option Addr} (h : XR w X R N n p A c) (q k : Nat) (hk : q + k ≤ n) {A' : Option Addr} {c' : Nat} (hc' : k ≤ c' ∧ c' ≤ 9223372036854775807) (hA : 0 < k → A' = some ⟨R, q, none⟩) : Bls w A' k c' (N / 2 ^ q) :=
  ⟨hc'.1, hc'.2, fun h0 => by
    rcases h.row with ⟨_, h1, _⟩ | ⟨e, cur, hw, hc⟩
    · omega
    · refine ⟨R, q, hA h0, hw.lt, fun i hi => ?_⟩
      rw [hw.reads, hc (q + i) (by omega), Nat.testBit_div_two_pow, Nat.add_comm]⟩
/-- What the reference's Bits answers. -/
def XTook (X R N n p c k : Nat) (A : Option Addr) (w : World) (v : Value) (e : Ending) (w' : World) : Prop := e = .returned v ∧ XR w' X R N n (p + k) A c ∧ Fr (fun j => j = X) w w'
set_option maxRecDepth 100000 in
set_option maxHeartbeats 4000000 in
theorem xbits_any (X R N n p c k : Nat) (A : Option Addr) (w : World) (h : XR w X R N n p A c) (hk : k ≤ 24) (hL : p + k ≤ n) :
    Calls Try.prog 35 #[.pointer (some ⟨X, 0, none⟩), .int .i64 k] w (XTook X R N n p c k A w (.tuple #[.int .i64 (N / 2 ^ p % 2 ^ k : Nat), .int .i64 0])) := by
  have H := Lib.hid h
  obtain ⟨c0, c1, f1⟩ := h.cells
  have htop := h.top
  have hcap := h.cap
  have d1 : decide ((n : Int) - p < k) = false := by rw [decide_eq_false_iff_not]; omega
  rcases h.row with ⟨rfl, rfl, rfl⟩ | ⟨rfl, -⟩
  · obtain rfl : p = 0 := by omega
    obtain rfl : k = 0 := by omega
    clear h
    go_enter Try.func35, Try.ntmps35
    go_wp2_with fail
    go_quiet (fail)
    go_wp2_with fail
    have HW := Lib.hid ((H.out.drewN nq).moved (p' := 0) (by omega) (x := 0) rfl)
    obtain ⟨d0, d1, -⟩ := HW.out.cells
    have HF := Lib.hid (Fr.setB (Fr.drewN (Fr.refl (fun j => j = X) w) nq) 1 (.int .i64 0))
    generalize (w.drewN nq).setCell ⟨X, 1, none⟩ (.int .i64 0) = W2 at *
    go_quiet ((go_at_call 40; exact Calls.quiet_of_same (number_any none 0 0 (N / 2 ^ 0) _ ⟨by omega, by omega, fun h => absurd h (by omega)⟩ (by omega))))
    go_wp2
    go_ret2
    refine ⟨by simp, HW.out.drewN _, HF.out.drewN _⟩
  · by_cases hcp : c = p
    · obtain rfl : k = 0 := by omega
      clear h
      go_enter Try.func35, Try.ntmps35
      go_wp2_with fail
      go_quiet (fail)
      go_wp2_with fail
      have HW := Lib.hid ((H.out.drewN nq).moved (p' := p + 0) (by omega) (x := (p : Int)) (by omega))
      obtain ⟨d0, d1, -⟩ := HW.out.cells
      have HF := Lib.hid (Fr.setB (Fr.drewN (Fr.refl (fun j => j = X) w) nq) 1 (.int .i64 (p : Int)))
      generalize (w.drewN nq).setCell ⟨X, 1, none⟩ (.int .i64 (p : Int)) = W2 at *
      have b0 : (0 : Int) ≤ (p : Int) := by omega
      have b2 : (p : Int) ≤ (c : Int) := by omega
      have hw1 : IntKind.i64.wrap (p : Int) = p := IntWalk.i64_in _ (by omega)
      go_quiet ((go_at_call 40; exact Calls.quiet_of_same (number_any _ 0 _ (N / 2 ^ p) _ ⟨by omega, by omega, fun h => absurd h (by omega)⟩ (by omega))))
      go_wp2
      go_ret2
      refine ⟨by simp, HW.out.drewN _, HF.out.drewN _⟩
    · clear h
      go_enter Try.func35, Try.ntmps35
      go_wp2_with fail
      go_quiet (fail)
      go_wp2_with fail
      have HW := Lib.hid ((H.out.drewN nq).moved (p' := p + k) (by omega) (x := (p : Int) + k) (by omega))
      obtain ⟨d0, d1, -⟩ := HW.out.cells
      have HF := Lib.hid (Fr.setB (Fr.drewN (Fr.refl (fun j => j = X) w) nq) 1 (.int .i64 ((p : Int) + k)))
      generalize (w.drewN nq).setCell ⟨X, 1, none⟩ (.int .i64 ((p : Int) + k)) = W2 at *
      have b0 : (0 : Int) ≤ (p : Int) := by omega
      have b1 : (p : Int) ≤ (p : Int) + k := by omega
      have b2 : (p : Int) + k ≤ (c : Int) := by omega
      have b3 : (0 : Int) ≤ (p : Int) + k := by omega
      have hw1 : IntKind.i64.wrap (p : Int) = p := IntWalk.i64_in _ (by omega)
      have tn : ((p : Int) + k).toNat = p + k := by omega
      go_quiet ((go_at_call 40; exact Calls.quiet_of_same (number_any _ k _ (N / 2 ^ p) _ ((HW.out.drewN _).part p k hL ⟨by omega, by omega⟩ (fun _ => rfl)) (by omega))))
      go_wp2
      go_ret2
      refine ⟨rfl, HW.out.drewN _, HF.out.drewN _⟩
end Go.Proofs.Ytpcofdhhnfichaa
