/- The document's examples for huff: awake answers true. -/
import Derived.Test.YtpcofdhhnfichaaHuffMakeB
import Derived.Test.YtpcofdhhnfichaaHuffRefM
import Derived.Test.YtpcofdhhnfichaaBitsWords
namespace Go.Proofs.Ytpcofdhhnfichaa
open Go.RowKit

theorem lit_ints (w : World) (l : List Int) (cs : Array Value) (n : Nat) (hc : (iiv l).toArray = cs := by rfl) (hn : l.length = n := by rfl) (h : n ≤ 9223372036854775807 := by decide) : IntsAt (w.alloc (.cells cs 3)) (some ⟨w.heap.size, 0, none⟩) n n l := by
  subst hc
  subst hn
  exact IntsAt.of_whole (Whole.made w 3 (iiv l).toArray) h
theorem lit_below (w w1 : World) (o : Obj) (h : Below (w.alloc o).heap.size (w.alloc o) w1) : Below w.heap.size w w1 := ((Below.refl w.heap.size w).alloc (Nat.le_refl _) o).trans (h.mono (by simp))
theorem ex_ok : lensOk [3, 3, 3, 3, 3, 2, 4, 4] := by unfold lensOk; decide
theorem ex_share : share (natsOf [3, 3, 3, 3, 3, 2, 4, 4]) 8 = 32768 := by decide +kernel
theorem ex_codes : codesArr [3, 3, 3, 3, 3, 2, 4, 4] 15 0 = (iiv [2, 3, 4, 5, 6, 0, 14, 15]).toArray := by kernel_rfl
theorem ex111 : lensOk [1, 1, 1] ∧ ¬ sumOk [1, 1, 1] := by unfold lensOk sumOk; decide +kernel
theorem ex1 : lensOk [1] ∧ sumOk [1] := by unfold lensOk sumOk; decide +kernel
theorem ex2 : lensOk [2] ∧ ¬ sumOk [2] := by unfold lensOk sumOk; decide +kernel
theorem ex11 : lensOk [1, 1] ∧ sumOk [1, 1] := by unfold lensOk sumOk; decide +kernel
set_option maxRecDepth 100000 in
set_option maxHeartbeats 4000000 in
theorem awake_any (w : World) : Calls Try.prog 12 #[] w (True_ w) := by
  go_enter Try.func12, Try.ntmps12
  go_wp2_with fail
  refine (codes_any _ 8 8 [3, 3, 3, 3, 3, 2, 4, 4] _ (lit_ints w _ _ _)).mono ?_
  rintro e w1 ⟨hb, h⟩
  have HB1 := Lib.hid (lit_below _ _ _ hb)
  rcases h with ⟨h, -⟩ | ⟨-, h, -⟩ | ⟨-, -, g, hg, hw, rfl⟩
  · exact absurd ex_ok h
  · exact absurd h (by have := ex_share; show ¬ 32768 < share (natsOf [3, 3, 3, 3, 3, 2, 4, 4]) 8; omega)
  rw [ex_codes] at hw
  have HW := Lib.hid hw
  clear hb hw hg
  go_wp2_with fail
  refine (make_bad _ 3 3 [1, 1, 1] _ (lit_ints w1 _ _ _) (fun h => ex111.2 h.2)).mono ?_
  rintro e w2 ⟨⟨h, -⟩ | ⟨-, rfl⟩, hb⟩
  · exact absurd ex111.1 h
  have HB2 := Lib.hid (lit_below _ _ _ hb)
  clear hb
  go_wp2_with fail
  refine (make_ok _ 1 1 [1] _ (lit_ints w2 _ _ _) ex1.1 ex1.2).mono ?_
  rintro e w3 ⟨hb, B, G, v, rfl, hB, hG, hT⟩
  have HB3 := Lib.hid (lit_below _ _ _ hb)
  clear hb hT hB hG
  go_wp2_with fail
  refine (make_bad _ 1 1 [2] _ (lit_ints w3 _ _ _) (fun h => ex2.2 h.2)).mono ?_
  rintro e w4 ⟨⟨h, -⟩ | ⟨-, rfl⟩, hb⟩
  · exact absurd ex2.1 h
  have hb4 := lit_below _ _ _ hb
  have hb14 : Below w1.heap.size w1 w4 := HB2.out.trans ((HB3.out.trans (hb4.mono HB3.out.size)).mono HB2.out.size)
  have hw4 : Whole w4 g 3 (iiv [2, 3, 4, 5, 6, 0, 14, 15]).toArray := HW.out.here hb14
  have HB4 := Lib.hid (And.intro (HB1.out.trans (hb14.mono HB1.out.size)) hw4)
  clear hb hb4 hb14 hw4
  go_wp2_with fail
  refine (ints_same _ 8 8 _ 8 8 [2, 3, 4, 5, 6, 0, 14, 15] _ (IntsAt.of_whole (HB4.out.2.old _) (by decide)) (lit_ints w4 _ _ _)).mono ?_
  rintro e w5 ⟨rfl, j, rfl⟩
  go_wp2_with fail
  refine (fixed_any _).mono ?_
  rintro e w6 ⟨v6, rfl, hown, hb⟩
  obtain ⟨a6, c6, rfl⟩ := own_slice hown
  have hlen := fixedL_len
  rw [hlen]
  have HB6 := Lib.hid hb
  clear hb hown
  go_wp2_with fail
  go_ret
  have hs4 := HB4.out.1.size
  exact ⟨rfl, (below_drewN (HB4.out.1.alloc hs4 _) j).trans (HB6.out.mono (by simp; omega))⟩
end Go.Proofs.Ytpcofdhhnfichaa
