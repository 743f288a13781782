/- zlib: the sum of a text. -/
import Derived.Test.YtnjdnldoopgcpaaZlM
import Derived.Test.YtnjdnldoopgcpaaDefD
import Derived.StillTailTactics
namespace Go.Proofs.Ytnjdnldoopgcpaa
open Go.RowKit

def blB (s : ByteArray) : List Nat := s.data.toList.map UInt8.toNat
theorem blB_size (s : ByteArray) : (blB s).length = s.size := by unfold blB; simp
theorem blB_at {s : ByteArray} {i : Nat} (h : i < s.size) : (blB s)[i]? = some (s[i].toNat) := by
  unfold blB
  rw [List.getElem?_map]
  have : s.data.toList[i]? = some s[i] := by
    rw [Array.getElem?_toList, Array.getElem?_eq_getElem (by simpa using h)]
    rfl
  rw [this]
  rfl
theorem adl_take {l : List Nat} {i x : Nat} (a b : Nat) (h : l[i]? = some x) : adl (l.take (i + 1)) a b = (((adl (l.take i) a b).1 + x) % 65521, ((adl (l.take i) a b).2 + ((adl (l.take i) a b).1 + x) % 65521) % 65521) := by
  rw [List.take_add_one, h, adl_app]
  rfl
theorem results_ad (tmps : Array Value) (w : World) (g : Nat) (a b : Value) (hp : tmps.getD 4 undef = .pointer (some ⟨g, 0, none⟩)) (h0 : w.cell? ⟨g, 0, none⟩ = some a) (h1 : w.cell? ⟨g, 1, none⟩ = some b) :
    (results Try.f33 tmps).run Try.prog w = .ok (.agg #[a, b]) w := by
  have hp' : tmps[4]?.getD undef = .pointer (some ⟨g, 0, none⟩) := by simpa using hp
  simp [results, Try.results33, hp', asAddr, go_sem, h0, h1]
/-- What add answers. -/
def AdIs (l : List Nat) (a b : Nat) (w : World) (e : Ending) (w' : World) : Prop := e = .returned (.agg #[.int .i64 ((adl l a b).1 : Int), .int .i64 ((adl l a b).2 : Int)]) ∧ Below w.heap.size w w'
set_option maxRecDepth 100000 in
set_option maxHeartbeats 4000000 in
theorem sadd_any (s : ByteArray) (a b : Nat) (w : World) (ha : a < 65521) (hb : b < 65521) (hs : s.size ≤ 1000000000) :
    Calls Try.prog 33 #[.agg #[.int .i64 (a : Int), .int .i64 (b : Int)], .string s] w (AdIs (blB s) a b w) := by
  go_enter Try.func33, Try.ntmps33
  go_wp2_with fail
  go_loopw [8] (fun s8 wr => ∃ i : Nat, s8 = .int .i64 (i : Int) ∧ i ≤ s.size ∧ Hid (Whole wr w.heap.size 57 #[.int .i64 ((adl ((blB s).take i) a b).1 : Int), .int .i64 ((adl ((blB s).take i) a b).2 : Int)] ∧ Whole wr (w.heap.size + 1) 57 #[.int .i64 0, .int .i64 0] ∧ Below w.heap.size w wr)) (fun s8 _ => s.size - (intOf s8).toNat)
  case atStart =>
    refine ⟨0, rfl, by omega, Lib.hid ⟨(Whole.made _ _ _).old _, made_at (by simp), ((Below.refl _ _).alloc (Nat.le_refl _) _).alloc (by simp) _⟩⟩
  case round =>
    obtain ⟨i, rfl, hi, HR⟩ := hrel
    by_cases hlt : i < s.size
    · have d1 : decide ((i : Int) < (s.size : Int)) = true := decide_eq_true (by omega)
      obtain ⟨x, hx⟩ : ∃ x, s[i].toNat = x := ⟨_, rfl⟩
      have hx8 : x < 256 := by rw [← hx]; exact s[i].toNat_lt
      have hat := blB_at hlt
      rw [hx] at hat
      have hstep := adl_take a b hat
      obtain ⟨hA, hB⟩ := adl_lt ((blB s).take i) a b ha hb
      obtain ⟨h1, h2, h3⟩ := HR.out
      obtain ⟨p, hp⟩ : ∃ p, (adl ((blB s).take i) a b).1 = p := ⟨_, rfl⟩
      obtain ⟨q, hq⟩ : ∃ q, (adl ((blB s).take i) a b).2 = q := ⟨_, rfl⟩
      rw [hp, hq] at h1 hstep
      rw [hp] at hA
      rw [hq] at hB
      have k0 : wr.cell? ⟨w.heap.size, 0, none⟩ = some (.int .i64 (p : Int)) := h1.reads 0
      have k1 : wr.cell? ⟨w.heap.size, 1, none⟩ = some (.int .i64 (q : Int)) := h1.reads 1
      have lk := h1.lt
      have b1 : (0 : Int) ≤ (i : Int) := by omega
      have b2 : (i : Int) < (s.size : Int) := by omega
      obtain ⟨y, hy⟩ : ∃ y, p + x = y := ⟨_, rfl⟩
      obtain ⟨z, hz⟩ : ∃ z, y % 65521 = z := ⟨_, rfl⟩
      obtain ⟨u, hu⟩ : ∃ u, q + z = u := ⟨_, rfl⟩
      obtain ⟨v, hv⟩ : ∃ v, u % 65521 = v := ⟨_, rfl⟩
      rw [hy, hz, hu, hv] at hstep
      have HE := Lib.hid (show ((p : Int) + (x : Int)) % 65521 = (z : Int) ∧ ((q : Int) + ((p : Int) + (x : Int))) % 65521 = (v : Int) by omega)
      have HH := Lib.hid (And.intro h1.drawn1 (And.intro h2.drawn1 (And.intro h3.drew hstep)))
      clear hat hp hq hstep h1 h2 h3 hy hz hu hv
      go_wp2_with fail
      go_still_tail 9, (by kernel_rfl)
      change wpList _ _ _ _ _ wr.drew
      have q0 : wr.drew.cell? ⟨w.heap.size, 0, none⟩ = some (.int .i64 (p : Int)) := HH.out.1.reads 0
      have q1 : wr.drew.cell? ⟨w.heap.size, 1, none⟩ = some (.int .i64 (q : Int)) := HH.out.1.reads 1
      have t0 := HH.out.1.thawed 0
      have t1 := HH.out.1.thawed 1
      have lk2 := HH.out.1.lt
      clear k0 k1 lk
      generalize wr.drew = w4 at *
      go_wp2_with fail
      go_roundw
      case rel =>
        refine ⟨i + 1, by go_num, by omega, Lib.hid ⟨?_, ?_, ?_⟩⟩
        · rw [HH.out.2.2.2]
          have := (HH.out.1.set 0 (.int .i64 (z : Int))).set 1 (.int .i64 (v : Int))
          rw [HE.out.1, HE.out.2]
          show Whole _ _ _ #[.int .i64 (z : Int), .int .i64 (v : Int)]
          simpa using this
        · exact (HH.out.2.1.away (p := ⟨w.heap.size, 0, none⟩) (by show w.heap.size + 1 ≠ w.heap.size; omega) _).away (p := ⟨w.heap.size, 1, none⟩) (by show w.heap.size + 1 ≠ w.heap.size; omega) _
        · exact (HH.out.2.2.1.setCell (p := ⟨w.heap.size, 0, none⟩) (Nat.le_refl _) _).setCell (p := ⟨w.heap.size, 1, none⟩) (Nat.le_refl _) _
      case measure => simp [intOf]; omega
    · obtain rfl : i = s.size := by omega
      have d1 : decide ((s.size : Int) < (s.size : Int)) = false := by simp
      obtain ⟨h1, h2, h3⟩ := HR.out
      have hfull : (blB s).take s.size = blB s := by rw [← blB_size]; exact List.take_length
      rw [hfull] at h1
      obtain ⟨p, hp⟩ : ∃ p, (adl (blB s) a b).1 = p := ⟨_, rfl⟩
      obtain ⟨q, hq⟩ : ∃ q, (adl (blB s) a b).2 = q := ⟨_, rfl⟩
      rw [hp, hq] at h1
      have HPQ := Lib.hid (And.intro hp hq)
      have k0 : wr.cell? ⟨w.heap.size, 0, none⟩ = some (.int .i64 (p : Int)) := h1.reads 0
      have k1 : wr.cell? ⟨w.heap.size, 1, none⟩ = some (.int .i64 (q : Int)) := h1.reads 1
      have lk := h1.lt
      have q0 : wr.cell? ⟨w.heap.size + 1, 0, none⟩ = some (.int .i64 0) := h2.reads 0
      have q1 : wr.cell? ⟨w.heap.size + 1, 1, none⟩ = some (.int .i64 0) := h2.reads 1
      have t0 := h2.thawed 0
      have t1 := h2.thawed 1
      have lk2 := h2.lt
      have HH := Lib.hid (And.intro h2 h3)
      clear h1 h2 h3 hp hq hfull
      go_wp2_with fail
      have hW := (HH.out.1.set 0 (.int .i64 (p : Int))).set 1 (.int .i64 (q : Int))
      refine bodyPost_ret (v := .agg #[.int .i64 (p : Int), .int .i64 (q : Int)]) (results_ad _ _ (w.heap.size + 1) (.int .i64 (p : Int)) (.int .i64 (q : Int)) rfl (by rw [hW.reads 0]; rfl) (by rw [hW.reads 1]; rfl)) rfl ⟨by rw [HPQ.out.1, HPQ.out.2], ?_⟩
      exact (HH.out.2.setCell (p := ⟨w.heap.size + 1, 0, none⟩) (by show w.heap.size ≤ w.heap.size + 1; omega) _).setCell (p := ⟨w.heap.size + 1, 1, none⟩) (by show w.heap.size ≤ w.heap.size + 1; omega) _
set_option maxRecDepth 100000 in
set_option maxHeartbeats 4000000 in
theorem snum_any (a b : Nat) (w : World) (ha : a < 65521) (hb : b < 65521) :
    Calls Try.prog 34 #[.agg #[.int .i64 (a : Int), .int .i64 (b : Int)]] w fun e w' => e = .returned (.int .i64 ((65536 * b + a : Nat) : Int)) ∧ Below w.heap.size w w' := by
  obtain ⟨y, hy⟩ : ∃ y, 65536 * b = y := ⟨_, rfl⟩
  obtain ⟨z, hz⟩ : ∃ z, y + a = z := ⟨_, rfl⟩
  rw [hy, hz]
  have ew1 : IntKind.i64.wrap (65536 * (b : Int)) = (y : Int) := by rw [IntKind.wrap_i64]; omega
  have ew2 : IntKind.i64.wrap ((y : Int) + (a : Int)) = (z : Int) := by rw [IntKind.wrap_i64]; omega
  clear hy hz
  go_enter Try.func34, Try.ntmps34
  go_wp2_with fail
  go_ret
  exact ⟨rfl, (Below.refl _ _).alloc (Nat.le_refl _) _⟩
end Go.Proofs.Ytnjdnldoopgcpaa
