/- deflate: the document's examples, walked. -/
import Derived.Test.YtnjdnldoopgcpaaDefK
import Derived.Test.YtnjdnldoopgcpaaLaidGen
import Derived.Lib.SlBytesConst
import Derived.Test.YtnjdnldoopgcpaaInfX
namespace Go.Proofs.Ytnjdnldoopgcpaa
open Go.RowKit

theorem Bytes.whole {w : World} {R n : Nat} {bs : List Nat} (h : Whole w R 5 (bvs bs).toArray) (hl : bs.length = n) (hn : n ≤ 9223372036854775807) (hb : ∀ x ∈ bs, x < 256) : Bytes w (some ⟨R, 0, none⟩) n n bs :=
  ⟨hl, Nat.le_refl _, hn, hb, fun _ => ⟨R, 0, rfl, h.lt, fun i b hb => by
    rw [Nat.zero_add, h.reads i]
    unfold bvs
    simp [hb]⟩⟩
theorem str_same (s : ByteArray) : (s.toList == s.toList) = true := by simp
/-- A literal row of tokens. -/
theorem tks_whole {w : World} {R : Nat} {l : List Tk} (h : Whole w R 35 (rowTk l).toArray) (hn : l.length ≤ 1000) : TksAt w (some ⟨R, 0, none⟩) l.length l.length l := by
  refine ⟨by simp, Nat.le_refl _, by omega, fun _ => ⟨R, 0, rfl, h.lt, fun i cs hi j u hu => ?_⟩⟩
  rw [Nat.zero_add, h.reads]
  have := flat_at (l.map tkV) i cs j u (tkV_all l) hi hu
  simpa [rowTk] using this
theorem bytes_marked (w : World) (bs : List Nat) (fr : Nat × Nat) (hb : ∀ b ∈ bs, b < 256) (hl : bs.length ≤ 100000000) : Bytes (w.alloc (.cells (bvs bs).toArray 5 fr)) (some ⟨w.heap.size, 0, none⟩) bs.length bs.length bs :=
  ⟨rfl, Nat.le_refl _, by omega, hb, fun _ => ⟨w.heap.size, 0, rfl, by simp, fun i b hi => by
    rw [cell_of_row _ w.heap.size (0 + i) (bvs bs).toArray 5 fr (heap_alloc_new w _), Nat.zero_add, List.getElem?_toArray]
    simp [bvs, hi]⟩⟩
theorem lit6 (w : World) : Bytes (w.alloc (.cells #[.int .u8 97, .int .u8 98, .int .u8 97, .int .u8 98, .int .u8 97, .int .u8 98] 5 (6, 7))) (some ⟨w.heap.size, 0, none⟩) 6 6 [97, 98, 97, 98, 97, 98] := bytes_marked w [97, 98, 97, 98, 97, 98] (6, 7) (by decide) (by decide)
theorem lit3 (w : World) : Bytes (w.alloc (.cells #[.int .u8 97, .int .u8 98, .int .u8 99] 5 (3, 4))) (some ⟨w.heap.size, 0, none⟩) 3 3 [97, 98, 99] := bytes_marked w [97, 98, 99] (3, 4) (by decide) (by decide)
set_option maxRecDepth 100000 in
set_option maxHeartbeats 2000000 in
theorem awake07 (w : World) : Calls Try.prog 14 #[] w (True_ w) := by
  have kc := fun (w : World) (C : Array Value) (n c : Nat) => Lib.run_convert_bytes_const (P := Try.prog) w 22 5 C n c Try.underlying22 Try.underlying5
  go_enter Try.func14, Try.ntmps14
  go_wp2_with fail
  refine (dtokens_any _ 6 6 [97, 98, 97, 98, 97, 98] _ (lit6 w)).mono ?_
  rintro e w1 (⟨-, A1, c1, rfl, htk, -, hb⟩ | ⟨h, -, -⟩)
  rotate_left
  · exact absurd h (by decide)
  rw [ex_tok] at htk ⊢
  have H1 := Lib.hid (And.intro htk (((Below.refl w.heap.size w).alloc (Nat.le_refl _) _).trans (hb.mono (by simp))))
  clear htk hb
  go_wp2_with fail
  refine (ddeflate_any _ 3 3 [97, 98, 99] _ (lit3 w1)).mono ?_
  rintro e w2 (⟨-, A2, c2, ds, rfl, hby, hho, hb⟩ | ⟨h, -, -⟩)
  rotate_left
  · exact absurd h (by decide)
  obtain rfl := hho.eq ex_hold
  have hb2 : Below w1.heap.size w1 w2 := ((Below.refl _ _).alloc (Nat.le_refl _) _).trans (hb.mono (by simp))
  have H3 := Lib.hid (And.intro (H1.out.1.later hb2) (And.intro hby (H1.out.2.trans (hb2.mono H1.out.2.size))))
  clear hby hb hb2 hho
  obtain ⟨wC, hwC⟩ : ∃ wC, w2.alloc (.cells #[.int .i64 97, .int .i64 0, .int .i64 0, .int .i64 98, .int .i64 0, .int .i64 0, .int .i64 0, .int .i64 4, .int .i64 2] 35) = wC := ⟨_, rfl⟩
  have hbC : Below w2.heap.size w2 wC := by rw [← hwC]; exact (Below.refl _ _).alloc (Nat.le_refl _) _
  have hwk : Whole wC w2.heap.size 35 (rowTk [⟨97, 0, 0⟩, ⟨98, 0, 0⟩, ⟨0, 4, 2⟩]).toArray := by rw [← hwC]; exact Whole.made _ _ _
  have HSM := Lib.hid (same_tk A1 (some ⟨w2.heap.size, 0, none⟩) 3 c1 3 [⟨97, 0, 0⟩, ⟨98, 0, 0⟩, ⟨0, 4, 2⟩] wC (H3.out.1.later hbC) (tks_whole hwk (by decide)) (by decide))
  have H4 := Lib.hid (And.intro (H3.out.2.1.below hbC) (H3.out.2.2.trans (hbC.mono H3.out.2.2.size)))
  clear hbC hwk
  go_wp2_with fail
  refine HSM.out.mono ?_
  rintro e w3 ⟨rfl, hb⟩
  have HZ := Lib.hid (H4.out.2.trans (hb.mono H4.out.2.size))
  have hs1 : (convert 22 9 (.slice A2 5 c2)).run Try.prog w3 = .ok (.string (strB [75, 76, 74, 6, 0])) w3 := (H4.out.1.below hb).str
  have e1 : ((strB [75, 76, 74, 6, 0]).toList == ([75, 76, 74, 6, 0] : List UInt8)) = true := by rw [show strB [75, 76, 74, 6, 0] = ⟨#[75, 76, 74, 6, 0]⟩ from rfl]; simp [Lib.toList_data]
  clear hb
  go_wp2_with fail
  go_ret
  exact ⟨rfl, HZ.out⟩
end Go.Proofs.Ytnjdnldoopgcpaa
/- DeflateBack, walked. -/
namespace Go.Proofs.Ytnjdnldoopgcpaa
open Go.RowKit

/-- Bytes made short are as they were. -/
theorem infl_defl {bs ds : List Nat} {most : Int} (hb : ∀ x ∈ bs, x < 256) (hm : (bs.length : Int) ≤ most) (hc : most ≤ 1000000) (hh : HoldT (tokD bs) ds) : inflP ds most = .ok (bs, ds.length) := by
  have hok := tokD_ok hb
  have hx := tokD_exp hb hm (by omega)
  have hl := tokD_len bs
  have := hh.len
  obtain ⟨h1, -⟩ := (tokens_put (most := most) ⟨by omega, by omega⟩ hok (by omega) hh.num (by omega) (by omega)).1 bs hx
  exact inflP_ok h1 hx
end Go.Proofs.Ytnjdnldoopgcpaa

