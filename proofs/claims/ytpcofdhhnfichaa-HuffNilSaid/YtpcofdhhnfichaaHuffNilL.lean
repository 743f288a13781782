/- The walk of the law HuffNil. -/
import Derived.Test.YtpcofdhhnfichaaHuffAwake
import Derived.Test.YtpcofdhhnfichaaHuffRead
import Derived.Test.YtpcofdhhnfichaaHuffPut
import Derived.Test.YtpcofdhhnfichaaBitsNew
import Derived.Test.YtpcofdhhnfichaaLaidGen
namespace Go.Proofs.Ytpcofdhhnfichaa
open Go.RowKit

theorem bytes_1 (w : World) : Bytes (w.alloc (.cells #[.int .u8 1] 5)) (some ⟨w.heap.size, 0, none⟩) 1 1 [1] :=
  ⟨rfl, by omega, by omega, by decide, fun _ => ⟨w.heap.size, 0, rfl, by simp, fun i b hb => by
    rw [World.cell?_alloc_new]
    match i, hb with
    | 0, hb => simp at hb; subst hb; rfl
    | i + 1, hb => simp at hb⟩⟩
set_option maxRecDepth 100000 in
set_option maxHeartbeats 4000000 in
theorem nil_law (s : Int) (w : World) : Calls Try.prog 7 #[.int .i64 s] w (True_ w) := by
  go_enter Try.func7, Try.ntmps7
  go_wp2_with fail
  refine (make_ok _ 2 2 [1, 1] _ (lit_ints w _ _ _) ex11.1 ex11.2).mono ?_
  rintro e w1 ⟨hb, B, G, v, rfl, hB, hG, hT⟩
  have HB1 := Lib.hid (lit_below _ _ _ hb)
  clear hb hT hB hG
  go_wp2_with fail
  refine (newReader_any [1] 1 1 _ _ (bytes_1 w1) (by omega)).mono ?_
  rintro e w2 ⟨B2, R2, rfl, h2a, h2b, h2c, h2d, h2e⟩
  have HB2 := Lib.hid (lit_below _ _ _ h2e)
  clear h2a h2b h2c h2d h2e
  go_wp2_with fail
  refine (tread_nil _ _).mono ?_
  rintro e w3 ⟨rfl, rfl⟩
  go_wp2_with fail
  refine (tread_nil2 _ _).mono ?_
  rintro e w4 ⟨rfl, rfl⟩
  go_wp2_with fail
  refine (awake_any _).mono ?_
  rintro e w5 ⟨rfl, hb5⟩
  have HB5 := Lib.hid hb5
  clear hb5
  go_wp2_with fail
  refine (newWriter_any _).mono ?_
  rintro e w6 ⟨rfl, -, hb6⟩
  have HB6 := Lib.hid hb6
  clear hb6
  go_wp2_with fail
  refine (tput_nil _ ⟨_, rfl⟩ _ _).mono ?_
  rintro e w7 ⟨rfl, rfl⟩
  go_wp2_with fail
  refine (tput_nil2 _ _ _).mono ?_
  rintro e w8 ⟨rfl, rfl⟩
  go_wp2_with fail
  go_ret
  have h1 := HB1.out
  have h2 := HB2.out
  have h5 := HB5.out
  have h6 := HB6.out
  have e1 := h1.size
  have e2 := h2.size
  have e5 := h5.size
  exact ⟨rfl, h1.trans ((h2.trans ((h5.trans (h6.mono e5)).mono e2)).mono e1)⟩
end Go.Proofs.Ytpcofdhhnfichaa
