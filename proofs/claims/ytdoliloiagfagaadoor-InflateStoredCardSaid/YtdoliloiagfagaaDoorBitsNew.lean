/- The walk of NewReader. -/
import Derived.Test.YtdoliloiagfagaaDoorBitsTake
import Derived.Test.YtdoliloiagfagaaDoorByteRow
namespace Go.Proofs.YtdoliloiagfagaaDoor
open Go.RowKit

theorem num_lt (bs : List Nat) (h : ∀ b ∈ bs, b < 256) : num bs < 256 ^ bs.length := by
  induction bs with
  | nil => simp [num]
  | cons b l ih =>
    have h1 := h b (by simp)
    have h2 := ih (fun x hx => h x (by simp [hx]))
    simp only [num, List.length_cons, Nat.pow_succ]
    omega
/-- What NewReader answers: a reader of these bytes. -/
def NewRd (bs : List Nat) (w : World) (e : Ending) (w' : World) : Prop :=
  ∃ B R, e = .returned (.pointer (some ⟨B, 0, none⟩)) ∧ w.heap.size ≤ B ∧ R < w'.heap.size ∧ w.heap.size ≤ R ∧ RD w' B R (num bs) (8 * bs.length) ∧ Below w.heap.size w w'
set_option maxHeartbeats 1000000 in
theorem newReader_any (bs : List Nat) (n c : Nat) (A : Option Addr) (w : World) (h : Bytes w A n c bs) (hn : n ≤ 1000000000000) :
    Calls Tryd.prog 34 #[.slice A n c] w (NewRd bs w) := by
  have H := Lib.hid h
  clear h
  go_enter Tryd.func34, Tryd.ntmps34
  go_wp2_with fail
  refine (clone_any bs n c A _ H.out (by omega)).mono ?_
  rintro e w1 ⟨A', c', R, rfl, h1, h2, hrow, hb⟩
  have HR := Lib.hid (And.intro h1 (And.intro h2 (And.intro hrow hb)))
  clear h1 h2 hrow hb
  go_wp2
  go_ret
  obtain ⟨-, h2, hrow, hb⟩ := HR.out
  have hs := hb.size
  have hl := hrow.len
  have hg : w1.grownBy (w1.alloc (.cells #[.slice A' n c', .int .u32 0, .int .i64 0] 80)) none := World.grownBy_alloc _ _ _
  by_cases hn0 : n = 0
  · subst hn0
    refine ⟨w1.heap.size, w1.heap.size, rfl, hs, by simp, hs, ⟨A', 0, c', 0, 0, bs, ⟨Whole.made _ _ _, hl, hrow.cap, ⟨by omega, hrow.top⟩, hrow.byte, by simp, fun hn => absurd hn (by omega)⟩, by omega, by simp, by omega⟩, hb.alloc hs _⟩
  · have h3 := h2 (by omega)
    refine ⟨w1.heap.size, R, rfl, hs, by simp; omega, h3.1, ⟨A', n, c', 0, 0, bs, ⟨Whole.made _ _ _, hl, hrow.cap, ⟨by omega, hrow.top⟩, hrow.byte, by simp, fun hn => (hrow.kept hg (by simp)).rest hn⟩, by omega, by simp, by omega⟩, hb.alloc hs _⟩
end Go.Proofs.YtdoliloiagfagaaDoor
