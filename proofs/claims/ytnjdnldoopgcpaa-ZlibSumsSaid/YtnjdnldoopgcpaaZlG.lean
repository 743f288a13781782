/- zlib: what is packed, unpacked: pure; the document's examples, walked. -/
import Derived.Test.YtnjdnldoopgcpaaZlF
import Derived.Test.YtnjdnldoopgcpaaInfR
import Derived.Test.YtnjdnldoopgcpaaLaidGen
import Derived.Lib.SlBytesConst
namespace Go.Proofs.Ytnjdnldoopgcpaa
open Go.RowKit

theorem str_same (s : ByteArray) : (s.toList == s.toList) = true := by simp
theorem bytes_marked (w : World) (bs : List Nat) (fr : Nat × Nat) (hb : ∀ b ∈ bs, b < 256) (hl : bs.length ≤ 100000000) : Bytes (w.alloc (.cells (bvs bs).toArray 5 fr)) (some ⟨w.heap.size, 0, none⟩) bs.length bs.length bs :=
  ⟨rfl, Nat.le_refl _, by omega, hb, fun _ => ⟨w.heap.size, 0, rfl, by simp, fun i b hi => by
    rw [cell_of_row _ w.heap.size (0 + i) (bvs bs).toArray 5 fr (heap_alloc_new w _), Nat.zero_add, List.getElem?_toArray]
    simp [bvs, hi]⟩⟩
theorem lit3 (w : World) : Bytes (w.alloc (.cells #[.int .u8 97, .int .u8 98, .int .u8 99] 5 (3, 4))) (some ⟨w.heap.size, 0, none⟩) 3 3 [97, 98, 99] := bytes_marked w [97, 98, 99] (3, 4) (by decide) (by decide)
theorem infl_pack {bs ds : List Nat} (t : List Nat) {most : Int} (hb : ∀ x ∈ bs, x < 256) (hm : (bs.length : Int) ≤ most) (hc : most ≤ 1000000) (hh : HoldT (tokD bs) ds) : inflP (ds ++ t) most = .ok (bs, ds.length) := by
  have hok := tokD_ok hb
  have hx := tokD_exp hb hm (by omega)
  have hl := tokD_len bs
  have := hh.len
  obtain ⟨h1, -⟩ := (tokens_put (most := most) ⟨by omega, by omega⟩ hok (by omega) hh.num (by omega) (by omega)).1 bs hx
  exact inflP_more t hh.byte (inflP_ok h1 hx)
theorem unz_pack {bs ds : List Nat} (t : List Nat) {most : Int} (hb : ∀ x ∈ bs, x < 256) (hm : (bs.length : Int) ≤ most) (hc : most ≤ 1000000) (hh : HoldT (tokD bs) ds) :
    unzP (ds ++ t) most = if t.length < 4 then ([], 6) else if t.take 4 = bigE (sumZ bs) then (bs, 0) else ([], 7) := by
  rw [unzP_ok (infl_pack t hb hm hc hh), List.drop_left]
theorem unz_used {bs ds t x : List Nat} {u : Nat} {most : Int} (hb : ∀ x ∈ bs, x < 256) (hm : (bs.length : Int) ≤ most) (hc : most ≤ 1000000) (hh : HoldT (tokD bs) ds) (ht : t ≠ []) (h : inflP (ds ++ t) most = .ok (x, u)) : u < (ds ++ t).length := by
  rw [infl_pack t hb hm hc hh] at h
  injection h with h
  injection h with _ h
  have : 0 < t.length := List.length_pos_iff.2 ht
  rw [List.length_append]
  omega
theorem bigE_back {n : Nat} (h : n < 4294967296) : 16777216 * (n / 16777216 % 256) + 65536 * (n / 65536 % 256) + 256 * (n / 256 % 256) + n % 256 = n := by omega
set_option maxRecDepth 100000 in
theorem ex_packed : packB [97, 98, 99] [75, 76, 74, 6, 0] = [120, 1, 75, 76, 74, 6, 0, 2, 77, 1, 39] := by kernel_rfl
theorem ex_sum : sumZ [97, 98, 99] = 38600999 := by kernel_rfl
set_option maxRecDepth 100000 in
set_option maxHeartbeats 2000000 in
theorem awake08 (w : World) : Calls Try.prog 17 #[] w (True_ w) := by
  have kc := fun (w : World) (C : Array Value) (n c : Nat) => Lib.run_convert_bytes_const (P := Try.prog) w 22 5 C n c Try.underlying22 Try.underlying5
  go_enter Try.func17, Try.ntmps17
  go_wp2_with fail
  refine (zpack_any _ 3 3 [97, 98, 99] _ (lit3 w) (by decide)).mono ?_
  rintro e w1 ⟨v, ds, hho, rfl, hown, hb⟩
  obtain rfl := hho.eq ex_hold
  rw [ex_packed] at hown
  have hb1 : Below w.heap.size w w1 := ((Below.refl w.heap.size w).alloc (Nat.le_refl _) _).trans (hb.mono (by simp))
  obtain ⟨A1, c1, rfl, hby⟩ := own_bytes hown (by decide)
  have H1 := Lib.hid (And.intro hby hb1)
  clear hho hown hb hb1 hby
  have HS0 := Lib.hid (sum_any none 0 0 [] w1 (Bytes.nil w1) (by decide))
  go_wp2_with fail
  refine HS0.out.mono ?_
  rintro e w2 ⟨rfl, hb⟩
  have H2 := Lib.hid (And.intro (H1.out.1.below hb) (H1.out.2.trans (hb.mono H1.out.2.size)))
  clear hb HS0
  rw [show (sumZ [] : Int) = 1 from rfl]
  go_wp2_with fail
  refine (sum_any _ 3 3 [97, 98, 99] _ (lit3 w2) (by decide)).mono ?_
  rintro e w3 ⟨rfl, hb⟩
  have hb3 : Below w2.heap.size w2 w3 := ((Below.refl w2.heap.size w2).alloc (Nat.le_refl _) _).trans (hb.mono (by simp))
  have H3 := Lib.hid (And.intro (H2.out.1.below hb3) (H2.out.2.trans (hb3.mono H2.out.2.size)))
  have hs1 : (convert 22 9 (.slice A1 11 c1)).run Try.prog w3 = .ok (.string (strB [120, 1, 75, 76, 74, 6, 0, 2, 77, 1, 39])) w3 := H3.out.1.str
  have e1 : ((strB [120, 1, 75, 76, 74, 6, 0, 2, 77, 1, 39]).toList == ([120, 1, 75, 76, 74, 6, 0, 2, 77, 1, 39] : List UInt8)) = true := by rw [show strB [120, 1, 75, 76, 74, 6, 0, 2, 77, 1, 39] = ⟨#[120, 1, 75, 76, 74, 6, 0, 2, 77, 1, 39]⟩ from rfl]; simp [Lib.toList_data]
  clear hb hb3
  rw [ex_sum]
  go_wp2_with fail
  go_ret
  exact ⟨rfl, H3.out.2⟩
end Go.Proofs.Ytnjdnldoopgcpaa
