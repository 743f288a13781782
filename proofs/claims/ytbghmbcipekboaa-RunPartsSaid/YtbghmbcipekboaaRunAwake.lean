/- The documents' examples of run: the law's awake answers true. -/
import Derived.Test.YtbghmbcipekboaaRunPut
import Derived.Test.YtbghmbcipekboaaByteStr
import Derived.Test.YtbghmbcipekboaaLaidGen
import Derived.Lib.SlBytesConst
namespace Go.Proofs.Ytbghmbcipekboaa
open Go.RowKit

theorem ex_put : putM [97, 97, 97, 98] ++ [128] = [254, 97, 0, 98, 128] := by decide
theorem ex_get : getM 9 [254, 97, 0, 98, 128] [] = .ok [97, 97, 97, 98] := by rfl
theorem ex_str1 : strB [254, 97, 0, 98, 128] = ⟨#[254, 97, 0, 98, 128]⟩ := by decide
theorem ex_str2 : strB [97, 97, 97, 98] = ⟨#[97, 97, 97, 98]⟩ := by decide
theorem put_ex (A : Option Addr) (c : Nat) (w : World) (h : Bytes w A 4 c [97, 97, 97, 98]) : Calls Try.prog 8 #[.slice A 4 c] w fun e w' => ∃ A' c', e = .returned (.tuple #[.slice A' 5 c', .int .i64 0]) ∧ Bytes w' A' 5 c' [254, 97, 0, 98, 128] ∧ Below w.heap.size w w' := by
  refine (put_ok A 4 c _ w h (by omega)).mono ?_
  rintro e w' ⟨A', c', rfl, h1, h2⟩
  have e1 : (putM [97, 97, 97, 98]).length + 1 = 5 := by decide
  rw [ex_put, e1] at h1
  exact ⟨A', c', by rw [e1], h1, h2⟩
theorem get_ex (A : Option Addr) (c : Nat) (w : World) (h : Bytes w A 5 c [254, 97, 0, 98, 128]) : Calls Try.prog 10 #[.slice A 5 c, .int .i64 9] w fun e w' => ∃ A' c', e = .returned (.tuple #[.slice A' 4 c', .int .i64 0]) ∧ Bytes w' A' 4 c' [97, 97, 97, 98] ∧ Below w.heap.size w w' := by
  refine (get_ok A 5 c 9 _ w h (by omega)).mono ?_
  rintro e w' ⟨hb, h1⟩
  rw [ex_get] at h1
  obtain ⟨A', c', rfl, h2⟩ := h1
  exact ⟨A', c', rfl, h2, hb⟩
theorem lit4 (w : World) : Bytes (w.alloc (.cells #[.int .u8 97, .int .u8 97, .int .u8 97, .int .u8 98] 5 (4, 5))) (some ⟨w.heap.size, 0, none⟩) 4 4 [97, 97, 97, 98] := bytes_marked w [97, 97, 97, 98] (4, 5) (by decide) (by decide)
theorem lit5 (w : World) : Bytes (w.alloc (.cells #[.int .u8 254, .int .u8 97, .int .u8 0, .int .u8 98, .int .u8 128] 5 (5, 6))) (some ⟨w.heap.size, 0, none⟩) 5 5 [254, 97, 0, 98, 128] := bytes_marked w [254, 97, 0, 98, 128] (5, 6) (by decide) (by decide)
set_option maxRecDepth 100000 in
set_option maxHeartbeats 2000000 in
theorem awake_any (w : World) : Calls Try.prog 12 #[] w (True_ w) := by
  have kc := fun (w : World) (C : Array Value) (n c : Nat) => Lib.run_convert_bytes_const (P := Try.prog) w 22 5 C n c Try.underlying22 Try.underlying5
  go_enter Try.func12, Try.ntmps12
  go_wp2_with fail
  refine (put_ex _ _ _ (lit4 w)).mono ?_
  rintro e w1 ⟨A1, c1, rfl, hy1, hb1⟩
  have hb1' : Below w.heap.size w w1 := ((Below.refl _ _).alloc (Nat.le_refl _) _).trans (hb1.mono (by simp))
  have H1 := Lib.hid (And.intro hy1 hb1')
  clear hy1 hb1 hb1'
  go_wp2_with fail
  refine (get_ex _ _ _ (lit5 w1)).mono ?_
  rintro e w2 ⟨A2, c2, rfl, hy2, hb2⟩
  have hb2' : Below w1.heap.size w1 w2 := ((Below.refl _ _).alloc (Nat.le_refl _) _).trans (hb2.mono (by simp))
  have hs1 := (H1.out.1.below hb2').str
  have hs2 := hy2.str
  rw [ex_str1] at hs1
  rw [ex_str2] at hs2
  have H2 := Lib.hid (H1.out.2.trans (hb2'.mono H1.out.2.size))
  clear hy2 hb2 hb2'
  go_wp2
  go_ret
  exact ⟨rfl, H2.out⟩
end Go.Proofs.Ytbghmbcipekboaa
