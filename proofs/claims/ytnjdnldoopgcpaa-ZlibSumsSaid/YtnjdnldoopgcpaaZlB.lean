/- zlib: Sum. -/
import Derived.Test.YtnjdnldoopgcpaaZlA
import Derived.Laws.RangeString
import Derived.Laws.RangeAny
import Derived.RangeFuncRecord
import Derived.StillTailTactics
import Derived.Deep.RegionWith
namespace Go.Proofs.Ytnjdnldoopgcpaa
open Go.RowKit

theorem run_next_at {W : World} {B : Nat} {s : ByteArray} {pos : Nat} (ty : TypeId) (hB : W.heap[B]? = some (.stringIter s pos)) (h : pos < s.size) :
    (Instr.next (.pointer (some ⟨B, 0, none⟩)) true ty).run Try.prog W = .ok (.tuple #[.bool true, .int .i64 pos, .int .i32 (Utf8.decode s pos).1]) (W.putObj B (.stringIter s (pos + (Utf8.decode s pos).2))) := by
  have hB' : W.heap[B]? = some (.stringIter s pos) := hB
  simp only [Instr.next, getObj, setObj, Sem.run_bind, Sem.run, hB', Result.andThen, h, if_true, World.putObj]
  simp [goInt]
theorem run_next_stop {W : World} {B : Nat} {s : ByteArray} {pos : Nat} (ty : TypeId) (hB : W.heap[B]? = some (.stringIter s pos)) (h : ¬ pos < s.size) :
    (Instr.next (.pointer (some ⟨B, 0, none⟩)) true ty).run Try.prog W = .ok (.tuple #[.bool false]) W := by
  simp [Instr.next, getObj, Sem.run, hB, h]
theorem below_putObj {w W : World} {B N : Nat} {o : Obj} (h : Below N w W) (hB : N ≤ B) : Below N w (W.putObj B o) :=
  ⟨h.os, h.tape, h.output, by simpa using h.size, fun i hi => (World.putObj_heap_other (by omega)).trans (h.block i hi)⟩
theorem whole_putObj {W : World} {B g : Nat} {T : TypeId} {cs : Array Value} {o : Obj} (h : Whole W g T cs) (hB : g ≠ B) : Whole (W.putObj B o) g T cs := (World.putObj_heap_other hB).trans h
theorem heap_two {w : World} {g j : Nat} {o : Obj} (h : w.heap[j]? = some o) (ne : j ≠ g) (a b : Value) : ((w.setCell ⟨g, 0, none⟩ a).setCell ⟨g, 1, none⟩ b).heap[j]? = some o :=
  (Fr.block (S := fun k => k = g) (((Fr.refl _ w).setB _ _).setB _ _) j (Array.getElem?_eq_some_iff.1 h).1 ne).trans h
theorem wide_pos (s : ByteArray) (pos : Nat) (h : pos < s.size) : 1 ≤ (Utf8.decode s pos).2 := by
  by_cases ha : (s[pos]'h).toNat < 128
  · rw [decode_ascii s pos h ha]; exact Nat.le_refl _
  · exact (decode_high s pos h (by omega)).2
theorem strB_size (l : List Nat) : (strB l).size = l.length := by
  show (strB l).data.size = _
  simp [strB]
theorem strB_part (l : List Nat) (i j : Nat) : (strB l).extract i j = strB ((l.take j).drop i) := by
  unfold strB
  apply ByteArray.ext
  simp only [ByteArray.data_extract, List.extract_toArray, List.extract_eq_take_drop, List.map_drop, List.map_take, List.drop_take]
theorem blB_strB {l : List Nat} (hb : ∀ x ∈ l, x < 256) : blB (strB l) = l := by
  unfold blB strB
  simp only [List.map_map]
  refine (List.map_congr_left (g := id) (fun x hx => ?_)).trans (List.map_id l)
  have := hb x hx
  show (UInt8.ofNat x).toNat = x
  simp
  omega
theorem slice_lh (l : List Nat) (i j : Nat) (h1 : i ≤ j) (h2 : j ≤ l.length) (W : World) : (Instr.sliceAt 9 (.string (strB l)) (some (.int .i64 (i : Int))) (some (.int .i64 (j : Int))) none).run Try.prog W = .ok (.string (strB ((l.take j).drop i))) W := by
  have h3 : (j : Int) ≤ (strB l).size := by rw [strB_size]; omega
  have h4 : (i : Int) ≤ (j : Int) := by omega
  rw [run_sliceAt_string (h := Try.underlying9), ← strB_part]
  simp [Instr.slice, run_underlying Try.underlying9, Instr.sliceBounds, run_sliceBound, h3, h4]
theorem slice_l (l : List Nat) (i : Nat) (h : i ≤ l.length) (W : World) : (Instr.sliceAt 9 (.string (strB l)) (some (.int .i64 (i : Int))) none none).run Try.prog W = .ok (.string (strB (l.drop i))) W := by
  rw [run_sliceAt_string (h := Try.underlying9), run_slice_string_l (ht := Try.underlying9) (h0 := by omega) (h1 := by rw [strB_size]; omega), Int.toNat_natCast, strB_part, strB_size, List.take_length]
theorem adl_cut (l : List Nat) {d p : Nat} (h : d ≤ p) (a b : Nat) : adl (l.take p) a b = adl ((l.take p).drop d) (adl (l.take d) a b).1 (adl (l.take d) a b).2 := by
  rw [← adl_app]
  congr 1
  have := List.take_append_drop d (l.take p)
  rw [List.take_take, Nat.min_eq_left h] at this
  exact this.symm
theorem adl_rest (l : List Nat) (d : Nat) (a b : Nat) : adl l a b = adl (l.drop d) (adl (l.take d) a b).1 (adl (l.take d) a b).2 := by
  rw [← adl_app, List.take_append_drop]
set_option maxRecDepth 100000 in
set_option maxHeartbeats 4000000 in
theorem sum_any (A : Option Addr) (n c : Nat) (bs : List Nat) (w : World) (h : Bytes w A n c bs) (hn : n ≤ 100000000) :
    Calls Try.prog 16 #[.slice A n c] w fun e w' => e = .returned (.int .i64 (sumZ bs : Int)) ∧ Below w.heap.size w w' := by
  have hl := h.len
  have hstr := h.str
  have HB := Lib.hid h.byte
  have hsz := strB_size bs
  clear h
  go_enter Try.func16, Try.ntmps16
  go_wp2_with fail
  go_loopg [5] n (fun g s5 wr => ∃ (d p : Nat), s5 = .int .i64 (d : Int) ∧ d ≤ p ∧ d ≤ n ∧ g = n - p ∧ Hid (wr.heap[w.heap.size + 1]? = some (.stringIter (strB bs) p) ∧ Whole wr w.heap.size 57 #[.int .i64 ((adl (bs.take d) 1 0).1 : Int), .int .i64 ((adl (bs.take d) 1 0).2 : Int)] ∧ Below w.heap.size w wr))
  case atStart =>
    refine ⟨0, 0, rfl, Nat.le_refl _, Nat.zero_le _, rfl, Lib.hid ⟨?_, ?_, ?_⟩⟩
    · have := World.iter_heap (w.alloc (.cells #[.int .i64 1, .int .i64 0] 57)) (strB bs) 0
      rwa [World.size_alloc] at this
    · exact (Whole.made _ _ _).old _
    · exact ((Below.refl _ _).alloc (Nat.le_refl _) _).alloc (by simp) _
  case round =>
    obtain ⟨d, p, rfl, hdp, hdn, rfl, HK⟩ := hrel
    obtain ⟨hA, hB⟩ := adl_lt (bs.take d) 1 0 (by decide) (by decide)
    obtain ⟨hit, hsm, hbl⟩ := HK.out
    obtain ⟨a, ha⟩ : ∃ a, (adl (bs.take d) 1 0).1 = a := ⟨_, rfl⟩
    obtain ⟨b, hb⟩ : ∃ b, (adl (bs.take d) 1 0).2 = b := ⟨_, rfl⟩
    rw [ha] at hA hsm
    rw [hb] at hB hsm
    by_cases hlt : p < n
    · obtain ⟨w2, hw2⟩ : ∃ w2, wr.putObj (w.heap.size + 1) (.stringIter (strB bs) (p + (Utf8.decode (strB bs) p).2)) = w2 := ⟨_, rfl⟩
      have hnx := fun ty => run_next_at (W := wr) ty hit (by rw [strB_size]; omega)
      rw [hw2] at hnx
      have hwd := wide_pos (strB bs) p (by rw [strB_size]; omega)
      obtain ⟨wd, hwd2⟩ : ∃ x, (Utf8.decode (strB bs) p).2 = x := ⟨_, rfl⟩
      have hi2 : w2.heap[w.heap.size + 1]? = some (.stringIter (strB bs) (p + wd)) := by
        rw [← hw2, ← hwd2]
        exact World.putObj_heap_same (Array.getElem?_eq_some_iff.1 hit).1
      have hs2 : Whole w2 w.heap.size 57 #[.int .i64 (a : Int), .int .i64 (b : Int)] := by rw [← hw2]; exact whole_putObj hsm (by omega)
      have hb2 : Below w.heap.size w w2 := by rw [← hw2]; exact below_putObj hbl (by omega)
      have hsl := fun W => slice_lh bs d p hdp (by omega) W
      have k0 : w2.cell? ⟨w.heap.size, 0, none⟩ = some (.int .i64 (a : Int)) := hs2.reads 0
      have k1 : w2.cell? ⟨w.heap.size, 1, none⟩ = some (.int .i64 (b : Int)) := hs2.reads 1
      have lk := hs2.lt
      rw [hwd2] at hwd
      have HPB := Lib.hid (show ∀ x ∈ (bs.take p).drop d, x < 256 from fun x hx => HB.out x (List.mem_of_mem_take (List.mem_of_mem_drop hx)))
      have hps : (strB ((bs.take p).drop d)).size ≤ 1000000000 := by rw [strB_size, List.length_drop, List.length_take]; omega
      have HAD := Lib.hid (sadd_any (strB ((bs.take p).drop d)) a b w2.drew hA hB hps)
      rw [blB_strB HPB.out] at HAD
      have HST := Lib.hid (show adl ((bs.take p).drop d) a b = adl (bs.take p) 1 0 by rw [adl_cut bs hdp, ha, hb])
      unfold AdIs at HAD
      rw [HST.out] at HAD
      obtain ⟨a2, ha2⟩ : ∃ a, (adl (bs.take p) 1 0).1 = a := ⟨_, rfl⟩
      obtain ⟨b2, hb3⟩ : ∃ b, (adl (bs.take p) 1 0).2 = b := ⟨_, rfl⟩
      rw [ha2, hb3] at HAD
      have H2 := Lib.hid (And.intro hi2 (And.intro hs2.drawn1 (And.intro hb2.drew (And.intro ha2 hb3))))
      clear hit hsm hbl ha hb hi2 hs2 hb2 ha2 hb3 hwd2 hps HPB
      generalize (bs.take p).drop d = part at *
      go_wp2_with fail
      go_still_tail 5, (by kernel_rfl)
      change wpList _ _ _ _ _ w2.drew
      have hi3 : w2.drew.heap[w.heap.size + 1]? = some (.stringIter (strB bs) (p + wd)) := H2.out.1
      have H3 := Lib.hid hi3
      clear k0 k1 lk hi3
      generalize hw3 : w2.drew = w3 at *
      go_wp2_with fail
      refine HAD.out.mono ?_
      rintro e w4 ⟨rfl, hb⟩
      have hs4 := H2.out.2.1.here hb
      have t0 := hs4.thawed 0
      have t1 := hs4.thawed 1
      have q0 : w4.cell? ⟨w.heap.size, 0, none⟩ = some (.int .i64 (a : Int)) := hs4.reads 0
      have q1 : w4.cell? ⟨w.heap.size, 1, none⟩ = some (.int .i64 (b : Int)) := hs4.reads 1
      have lk := hs4.lt
      have hi4 : w4.heap[w.heap.size + 1]? = some (.stringIter (strB bs) (p + wd)) := (hb.block (w.heap.size + 1) (Array.getElem?_eq_some_iff.1 H3.out).1).trans H3.out
      have H4 := Lib.hid (And.intro hi4 (And.intro hs4 (H2.out.2.2.1.trans (hb.mono H2.out.2.2.1.size))))
      clear hb hs4 hi4 hw3
      go_wp2_with fail
      go_roundg (n - (p + wd))
      case rel =>
        refine ⟨p, p + wd, rfl, by omega, by omega, rfl, Lib.hid ⟨?_, ?_, ?_⟩⟩
        · exact heap_two H4.out.1 (by omega) _ _
        · rw [H2.out.2.2.2.1, H2.out.2.2.2.2]
          have := (H4.out.2.1.set 0 (.int .i64 (a2 : Int))).set 1 (.int .i64 (b2 : Int))
          simpa using this
        · exact (H4.out.2.2.setCell (p := ⟨w.heap.size, 0, none⟩) (Nat.le_refl _) _).setCell (p := ⟨w.heap.size, 1, none⟩) (Nat.le_refl _) _
      case measure => omega
    · have hnx := fun ty => run_next_stop (W := wr) ty hit (by rw [strB_size]; omega)
      have hsl := fun W => slice_l bs d (by omega) W
      have k0 : wr.cell? ⟨w.heap.size, 0, none⟩ = some (.int .i64 (a : Int)) := hsm.reads 0
      have k1 : wr.cell? ⟨w.heap.size, 1, none⟩ = some (.int .i64 (b : Int)) := hsm.reads 1
      have lk := hsm.lt
      have HPB := Lib.hid (show ∀ x ∈ bs.drop d, x < 256 from fun x hx => HB.out x (List.mem_of_mem_drop hx))
      have hps : (strB (bs.drop d)).size ≤ 1000000000 := by rw [strB_size, List.length_drop]; omega
      have HAD := Lib.hid (sadd_any (strB (bs.drop d)) a b wr.drew hA hB hps)
      rw [blB_strB HPB.out] at HAD
      have HST := Lib.hid (show adl (bs.drop d) a b = adl bs 1 0 by rw [adl_rest bs d 1 0, ha, hb])
      unfold AdIs at HAD
      rw [HST.out] at HAD
      obtain ⟨hA2, hB2⟩ := adl_lt bs 1 0 (by decide) (by decide)
      obtain ⟨a2, ha2⟩ : ∃ a, (adl bs 1 0).1 = a := ⟨_, rfl⟩
      obtain ⟨b2, hb3⟩ : ∃ b, (adl bs 1 0).2 = b := ⟨_, rfl⟩
      rw [ha2, hb3] at HAD
      rw [ha2] at hA2
      rw [hb3] at hB2
      have H2 := Lib.hid (And.intro hbl.drew (show sumZ bs = 65536 * b2 + a2 by unfold sumZ; rw [ha2, hb3]))
      clear hit hsm hbl ha hb ha2 hb3 hps HPB
      generalize bs.drop d = part at *
      go_wp2_with fail
      go_still_tail 4, (by kernel_rfl)
      change wpList _ _ _ _ _ wr.drew
      clear k0 k1 lk
      generalize wr.drew = w3 at *
      go_wp2_with fail
      refine HAD.out.mono ?_
      rintro e w4 ⟨rfl, hb⟩
      have H4 := Lib.hid (H2.out.1.trans (hb.mono H2.out.1.size))
      clear hb
      go_wp2_with fail
      refine (snum_any a2 b2 w4 hA2 hB2).mono ?_
      rintro e w5 ⟨rfl, hb⟩
      have H5 := Lib.hid (H4.out.trans (hb.mono H4.out.size))
      clear hb
      go_wp2_with fail
      go_ret
      exact ⟨by rw [H2.out.2, Int.natCast_add, Int.natCast_mul]; rfl, H5.out⟩
end Go.Proofs.Ytnjdnldoopgcpaa
