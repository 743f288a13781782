/- lex: the reader of one token: its state; more, take, skip. -/
import Derived.Test.YtdiaijdobglaaaaGreatDoorLexA
import Derived.Test.YtdiaijdobglaaaaGreatDoorLexOnM
import Derived.Test.YtdiaijdobglaaaaGreatDoorByteStr
import Derived.Deep.QuietTactic
import Derived.BigQuiet
import Derived.LoopTactic
import Derived.Deep.LoopGhost
import Derived.BigRegion
import Derived.RegionTactic
import Derived.OwnWalk
import Derived.Maps.AppendAt
namespace Go.Proofs.YtdiaijdobglaaaaGreatDoor
open Go.RowKit

theorem quiet_same {P : Program} {f : FuncId} {args : Array Value} {w : World} {n : Nat} {v : Value} (h : Calls P f args (w.drewN n) fun e w' => e = .returned v ∧ w.drewN n = w') : Calls P f args (w.drewN n) fun e w'' => e = .returned v ∧ ∃ m, w'' = w.drewN m :=
  Calls.quiet_of_same (h.mono fun _ _ ⟨a, b⟩ => ⟨a, b.symm⟩)
theorem Bytes.moved {w w' : World} {A : Option Addr} {n c : Nat} {bs : List Nat} (h : Bytes w A n c bs) (hs : w.heap.size ≤ w'.heap.size) (hc : 0 < n → ∀ R o, A = some ⟨R, o, none⟩ → w'.heap[R]? = w.heap[R]?) : Bytes w' A n c bs :=
  ⟨h.len, h.cap, h.top, h.byte, fun hn => by
    obtain ⟨R, o, e, hR, hb⟩ := h.at_ hn
    refine ⟨R, o, e, Nat.lt_of_lt_of_le hR hs, fun i b hi => ?_⟩
    have := hb i b hi
    unfold World.cell? at this ⊢
    rw [show w'.heap[(⟨R, o + i, none⟩ : Addr).block]? = w.heap[(⟨R, o + i, none⟩ : Addr).block]? from hc hn R o e]
    exact this⟩
/-- A reader in block R, at place k of its bytes. -/
structure Rdr (w : World) (R : Nat) (A : Option Addr) (n c : Nat) (bs : List Nat) (k : Nat) : Prop where
  box : Whole w R 38 #[.slice A n c, .int .i64 (k : Int)]
  bytes : Bytes w A n c bs
  away : 0 < n → ∀ B o, A = some ⟨B, o, none⟩ → B ≠ R
  le : k ≤ n
  small : n ≤ 1000000000
section
variable {w w' : World} {R : Nat} {A : Option Addr} {n c : Nat} {bs : List Nat} {k : Nat}
theorem Rdr.len (h : Rdr w R A n c bs k) : bs.length = n := h.bytes.len
theorem Rdr.drewN (h : Rdr w R A n c bs k) (j : Nat) : Rdr (w.drewN j) R A n c bs k := ⟨h.box, h.bytes.moved (Nat.le_refl _) (fun _ _ _ _ => rfl), h.away, h.le, h.small⟩
theorem Rdr.here (h : Rdr w R A n c bs k) (hb : Below w.heap.size w w') : Rdr w' R A n c bs k := ⟨h.box.here hb, h.bytes.below hb, h.away, h.le, h.small⟩
theorem Rdr.set (h : Rdr w R A n c bs k) {k' : Nat} (hk : k' ≤ n) {x : Int} (hx : x = (k' : Int)) : Rdr (w.setCell ⟨R, 1, none⟩ (.int .i64 x)) R A n c bs k' := by
  subst hx
  refine ⟨?_, h.bytes.moved (by simp) (fun hn B o e => Below.heap_setCell w ⟨R, 1, none⟩ _ B (h.away hn B o e)), h.away, hk, h.small⟩
  have := h.box.set 1 (.int .i64 (k' : Int))
  simpa using this
theorem Rdr.cells (h : Rdr w R A n c bs k) : w.cell? ⟨R, 0, none⟩ = some (.slice A n c) ∧ w.cell? ⟨R, 1, none⟩ = some (.int .i64 (k : Int)) ∧ w.frozen? ⟨R, 1, none⟩ = false ∧ R < w.heap.size := ⟨by rw [h.box.reads]; rfl, by rw [h.box.reads]; rfl, h.box.thawed 1, h.box.lt⟩
/-- The byte at the place. -/
theorem Rdr.at_ (h : Rdr w R A n c bs k) (hk : k < n) : ∃ B o x : Nat, A = some ⟨B, o, none⟩ ∧ B ≠ R ∧ B < w.heap.size ∧ w.cell? ⟨B, o + k, none⟩ = some (.int .u8 (x : Int)) ∧ bs[k]? = some x ∧ x < 256 := by
  obtain ⟨B, o, e, hB, hc⟩ := h.bytes.at_ (by omega)
  have hkl : k < bs.length := by rw [h.len]; exact hk
  have hx : bs[k]? = some bs[k] := List.getElem?_eq_getElem hkl
  exact ⟨B, o, bs[k], e, h.away (by omega) B o e, hB, hc k _ hx, hx, h.bytes.byte _ (List.mem_of_getElem? hx)⟩
end
/-- Of the blocks that were there none has turned but R. -/
abbrev FrR (R : Nat) (w w' : World) : Prop := Fr (fun j => j = R) w w'
theorem more_any (R : Nat) (A : Option Addr) (n c : Nat) (bs : List Nat) (k : Nat) (w : World) (h : Rdr w R A n c bs k) :
    Calls Tryz.prog 29 #[.pointer (some ⟨R, 0, none⟩)] w fun e w' => e = .returned (.bool (decide (k < n))) ∧ ∃ j, w' = w.drewN j := by
  obtain ⟨c0, c1, c2, hR⟩ := h.cells
  have hcap := h.bytes.cap
  have htop := h.bytes.top
  have H := Lib.hid h
  clear h
  by_cases hk : k < n
  · have d1 : decide ((k : Int) < (n : Int)) = true := decide_eq_true (by omega)
    have HK := Lib.hid (show decide (k < n) = true from decide_eq_true hk)
    rw [HK.out]
    go_enter Tryz.func29, Tryz.ntmps29
    go_wp2_with fail
    go_quiet (fail)
    go_wp2_with fail
    go_ret
    exact ⟨rfl, _, rfl⟩
  · have d1 : decide ((k : Int) < (n : Int)) = false := decide_eq_false (by omega)
    have HK := Lib.hid (show decide (k < n) = false from decide_eq_false hk)
    rw [HK.out]
    go_enter Tryz.func29, Tryz.ntmps29
    go_wp2_with fail
    go_quiet (fail)
    go_wp2_with fail
    go_ret
    exact ⟨rfl, _, rfl⟩
/-- What take answers. -/
def Moved (R : Nat) (A : Option Addr) (n c : Nat) (bs : List Nat) (k : Nat) (v : Value) (w : World) (e : Ending) (w' : World) : Prop := e = .returned v ∧ Rdr w' R A n c bs k ∧ FrR R w w'
theorem take_any (R : Nat) (A : Option Addr) (n c : Nat) (bs : List Nat) (k x : Nat) (w : World) (h : Rdr w R A n c bs k) (hx : bs[k]? = some x) :
    Calls Tryz.prog 33 #[.pointer (some ⟨R, 0, none⟩)] w (Moved R A n c bs (k + 1) (.int .u8 (x : Int)) w) := by
  have hk : k < n := by have := (List.getElem?_eq_some_iff.1 hx).1; rw [h.len] at this; exact this
  obtain ⟨c0, c1, c2, hR⟩ := h.cells
  obtain ⟨B, o, y, rfl, hBR, hB, hc, hy, hy2⟩ := h.at_ hk
  obtain rfl : x = y := by rw [hx] at hy; injection hy
  have hcap := h.bytes.cap
  have htop := h.bytes.top
  have hsm := h.small
  have H := Lib.hid h
  have i0 : (0 : Int) ≤ (k : Int) := by omega
  have i1 : (k : Int) < (n : Int) := by omega
  clear h hx hy
  go_enter Tryz.func33, Tryz.ntmps33
  go_wp2_with fail
  go_quiet (fail)
  go_wp2_with fail
  go_ret
  exact ⟨rfl, (H.out.drewN _).set (by omega) (by omega), ((Fr.refl _ w).drewN _).setB 1 _⟩
end Go.Proofs.YtdiaijdobglaaaaGreatDoor
