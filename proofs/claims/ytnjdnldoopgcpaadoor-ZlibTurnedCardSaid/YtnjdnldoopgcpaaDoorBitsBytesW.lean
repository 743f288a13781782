/- The walks of a reader's takeBytes and Bytes. -/
import Derived.Test.YtnjdnldoopgcpaaDoorBitsAlign
import Derived.Deep.OwnRows
namespace Go.Proofs.YtnjdnldoopgcpaaDoor
open Go.RowKit

/-- Byte i of a number, the first one lowest. -/
def digit (N i : Nat) : Nat := N / 256 ^ i % 256
theorem digit_lt (N i : Nat) : digit N i < 256 := Nat.mod_lt _ (by decide)
/-- A row of n cells of which the first i hold the number's bytes, the others 0. -/
def rowB (N n i : Nat) : Array Value := ((List.range n).map fun j => Value.int .u8 (if j < i then (digit N j : Int) else 0)).toArray
theorem rowB_size (N n i : Nat) : (rowB N n i).size = n := by simp [rowB]
theorem rowB_at (N n i j : Nat) (h : j < n) : (rowB N n i)[j]? = some (.int .u8 (if j < i then (digit N j : Int) else 0)) := by simp [rowB, h]
theorem rowB_zero (N n : Nat) : madeCells #[.int .u8 0] n = rowB N n 0 := by
  apply Array.toList_inj.1
  rw [toList_madeCells_one]
  apply List.ext_getElem
  · simp [rowB]
  · intro i h1 h2
    simp [rowB]
theorem rowB_set (N n i : Nat) : (rowB N n i).setIfInBounds i (.int .u8 (digit N i)) = rowB N n (i + 1) := by
  apply Array.toList_inj.1
  apply List.ext_getElem
  · simp [rowB]
  · intro j h1 h2
    simp [rowB] at h1 h2 ⊢
    rw [List.getElem_set]
    by_cases e : i = j
    · subst e; simp
    · rw [if_neg e]
      simp
      by_cases e1 : j < i
      · rw [if_pos e1, if_pos (by omega)]
      · rw [if_neg e1, if_neg (by omega)]
theorem RS.away {w : World} {B R : Nat} {A : Option Addr} {n c word held : Nat} {bs : List Nat} (h : RS w B R A n c word held bs) {w' : World} {row : Option Nat} (hg : w.grownBy w' row) (hB : some B ≠ row) (hR : some R ≠ row) : RS w' B R A n c word held bs :=
  ⟨h.whole.kept hg hB, h.len, h.cap, h.top, h.byte, h.low, fun hn => by
    obtain ⟨o, cur, e, hw, hc⟩ := h.rest hn
    exact ⟨o, cur, e, hw.kept hg hR, hc⟩⟩
theorem RD.away {w : World} {B R N L : Nat} (h : RD w B R N L) {w' : World} {row : Option Nat} (hg : w.grownBy w' row) (hB : some B ≠ row) (hR : some R ≠ row) : RD w' B R N L := by
  obtain ⟨A, n, c, word, held, bs, h, r⟩ := h
  exact ⟨A, n, c, word, held, bs, h.away hg hB hR, r⟩
theorem RD.lt {w : World} {B R N L : Nat} (h : RD w B R N L) : B < w.heap.size := by
  obtain ⟨A, n, c, word, held, bs, h, r⟩ := h
  exact h.whole.lt
theorem pull8 (N i : Nat) : N / 2 ^ (8 * i) % 2 ^ 8 = digit N i := by
  unfold digit
  rw [Nat.pow_mul]
theorem pull8_on (N i : Nat) : N / 2 ^ (8 * i) / 2 ^ 8 = N / 2 ^ (8 * (i + 1)) := by
  rw [Nat.div_div_eq_div_mul, ← Nat.pow_add]; rfl
/-- What a call answers that takes n bytes. -/
def TookB (B R N L n : Nat) (w : World) (e : Ending) (w' : World) : Prop :=
  ∃ g, e = .returned (.tuple #[.slice (some ⟨g, 0, none⟩) n n, .int .i64 0]) ∧ w.heap.size ≤ g ∧ Whole w' g 5 (rowB N n n) ∧ RD w' B R (N / 2 ^ (8 * n)) (L - 8 * n) ∧ w.grownBy w' (some B)
set_option maxRecDepth 100000 in
set_option maxHeartbeats 1000000 in
theorem takeBytes_any (B R N L n : Nat) (w : World) (h : RD w B R N L) (hR : R < w.heap.size) (hL : 8 * n ≤ L) (hL2 : L ≤ 1000000000) :
    Calls Tryd.prog 82 #[srcV B, .int .i64 n] w (TookB B R N L n w) := by
  have H := Lib.hid h
  have HR := Lib.hid hR
  have hm := meth_left ⟨B, 0, none⟩
  have hp := meth_pull ⟨B, 0, none⟩
  have hmk := fun W => run_make_row' (P := Tryd.prog) 22 5 (.int .u8 0) 1 Tryd.underlying22 (by kernel_rfl) rfl .i64 .i64 n (by omega) (by omega) W
  have hlt := h.lt
  have HT : Hid (w.heap.size < w.heap.size + 1) := Nat.lt_succ_self _
  clear h hR
  go_enter Tryd.func82, Tryd.ntmps82
  go_wp2_with fail
  refine (RD.left H.out).mono ?_
  rintro e w1 ⟨rfl, j, rfl⟩
  go_wp2_with fail
  have h0 : RD ((w.drewN j).alloc (.cells (madeCells #[.int .u8 0] n) 5)) B R (N / 2 ^ (8 * 0)) (L - 8 * 0) := by
    have : RD (w.drewN j) B R (N / 2 ^ (8 * 0)) (L - 8 * 0) := by simpa using RS.drewN' H.out j
    exact this.away (World.grownBy_alloc _ _ none) (by simp) (by simp)
  have hw0 : Whole ((w.drewN j).alloc (.cells (madeCells #[.int .u8 0] n) 5)) w.heap.size 5 (rowB N n 0) := by
    have := Whole.made (w.drewN j) 5 (madeCells #[.int .u8 0] n)
    rw [rowB_zero] at this ⊢
    exact this
  have hg0 : w.grownBy ((w.drewN j).alloc (.cells (madeCells #[.int .u8 0] n) 5)) (some B) := only_alloc (only_drewN (World.grownBy.refl _ _) _) _
  have H0 := Lib.hid (And.intro h0 (And.intro hw0 hg0))
  clear h0 hw0 hg0
  go_loopw [17] (fun x wr => ∃ i : Nat, i ≤ n ∧ x = .int .i64 i ∧ RD wr B R (N / 2 ^ (8 * i)) (L - 8 * i) ∧ Whole wr w.heap.size 5 (rowB N n i) ∧ w.grownBy wr (some B)) (fun x _ => n - (intOf x).toNat)
  case atStart => exact ⟨0, Nat.zero_le _, rfl, H0.out⟩
  case round =>
    obtain ⟨i, hi, rfl, hr, hw, hg⟩ := hrel
    have H1 := Lib.hid hr
    have H2 := Lib.hid hw
    have H3 := Lib.hid hg
    clear hr hw hg
    by_cases hlt : i < n
    · go_wp2_with fail
      refine (pull_any B R (N / 2 ^ (8 * i)) (L - 8 * i) 8 _ H1.out (by omega) (by omega)).mono ?_
      rintro e w1 ⟨rfl, hr1, hg1⟩
      rw [pull8_on] at hr1
      rw [pull8]
      have hw1 := H2.out.kept hg1 (fun e => by injection e; omega)
      have cg : w1.cell? ⟨w.heap.size, i, none⟩ = some (.int .u8 0) := by
        rw [hw1.reads, rowB_at N n i i hlt, if_neg (by omega)]
      have fg := hw1.thawed i
      have d0 : 0 ≤ (digit N i : Int) := by omega
      have d1 : (digit N i : Int) < 256 := by have := digit_lt N i; omega
      have H4 := Lib.hid (And.intro hr1 (And.intro hw1 hg1))
      clear hr1 hw1 hg1
      go_wp2
      have hs : w1.grownBy (w1.setCell ⟨w.heap.size, i, none⟩ (.int .u8 (digit N i))) (some w.heap.size) := only_set (World.grownBy.refl _ _) (.inl rfl) _
      go_roundw
      case rel => exact ⟨i + 1, by omega, by go_num, by rw [show L - 8 * (i + 1) = L - 8 * i - 8 by omega]; exact H4.out.1.away hs (fun e => by injection e; omega) (fun e => by injection e with e; exact absurd HR.out (by omega)), by have := H4.out.2.1.set i (.int .u8 (digit N i)); rwa [rowB_set] at this, only_join (H3.out.trans H4.out.2.2) hs (fun j e => by injection e; omega)⟩
      case measure => simp [intOf]; omega
    · obtain rfl : i = n := by omega
      go_wp2
      go_ret2
      exact ⟨_, rfl, Nat.le_refl _, H2.out, H1.out, H3.out⟩
set_option maxRecDepth 100000 in
theorem takeBytes_more (B R N L n : Nat) (w : World) (h : RD w B R N L) (hL : L / 8 < n) (hL2 : L ≤ 1000000000) :
    Calls Tryd.prog 82 #[srcV B, .int .i64 n] w fun e w' => e = .returned (.tuple #[.slice none 0 0, .int .i64 6]) ∧ ∃ j, w' = w.drewN j := by
  have H := Lib.hid h
  have hm := meth_left ⟨B, 0, none⟩
  clear h
  go_enter Tryd.func82, Tryd.ntmps82
  go_wp2_with fail
  refine (RD.left H.out).mono ?_
  rintro e w1 ⟨rfl, j, rfl⟩
  go_wp2
  go_ret2
  exact ⟨rfl, j, rfl⟩
theorem rbytes_any (B R N L n : Nat) (w : World) (h : RD w B R N L) (hR : R < w.heap.size) (hL : 8 * n ≤ L) (hL2 : L ≤ 1000000000) :
    Calls Tryd.prog 71 #[.pointer (some ⟨B, 0, none⟩), .int .i64 n] w (TookB B R (N / 2 ^ (L % 8)) (L - L % 8) n w) := by
  have H := Lib.hid h
  clear h
  go_enter Tryd.func71, Tryd.ntmps71
  go_wp2_with fail
  refine (align_any B R N L _ H.out (by omega)).mono ?_
  rintro e w1 ⟨rfl, hr, hg⟩
  have hs := hg.size
  have HR := Lib.hid (And.intro hr hg)
  clear hr hg
  go_wp2_with fail
  refine (takeBytes_any B R _ _ n _ HR.out.1 (by omega) (by omega) (by omega)).mono ?_
  rintro e w2 ⟨g, rfl, hgs, hw, hr, hg⟩
  have H2 := Lib.hid (And.intro hw (And.intro hr hg))
  clear hw hr hg
  go_wp2
  go_ret2
  exact ⟨g, rfl, by omega, H2.out.1, H2.out.2.1, HR.out.2.trans H2.out.2.2⟩
end Go.Proofs.YtnjdnldoopgcpaaDoor
