/- The reference's Word: a sign's bits. -/
import Derived.Test.YtpcofdhhnfichaaHBitsTwo
import Derived.Test.YtpcofdhhnfichaaHuffRefM
import Derived.Test.YtpcofdhhnfichaaHuffRev
namespace Go.Proofs.Ytpcofdhhnfichaa
open Go.RowKit

theorem tb_eq (V i : Nat) : V.testBit i = (V / 2 ^ i % 2 == 1) := by
  rw [Nat.testBit_eq_decide_div_mod_eq]
  by_cases h : V / 2 ^ i % 2 = 1 <;> simp [h]
theorem revB_bit (c x j : Nat) (h : j < x) : (revB c x).testBit j = c.testBit (x - 1 - j) := by
  induction x generalizing j with
  | zero => omega
  | succ i ih =>
    unfold revB
    cases j with
    | zero =>
      rw [tb_eq, tb_eq]
      simp only [Nat.pow_zero, Nat.div_one, Nat.add_sub_cancel, Nat.sub_zero]
      congr 1
      omega
    | succ j =>
      have : (2 * revB c i + c / 2 ^ i % 2).testBit (j + 1) = (revB c i).testBit j := by
        rw [Nat.testBit_succ]
        congr 1
        omega
      rw [this, ih j (by omega)]
      congr 1
      omega
/-- The bits of a word that have been written, from the last one on. -/
def outL (c x i : Nat) : List Value := (List.range x).map fun j => .bool (decide (i ≤ j) && c.testBit (x - 1 - j))
theorem outL_full (c x : Nat) : (outL c x 0) = bitsV (revB c x) x := by
  unfold outL bitsV
  apply List.map_congr_left
  intro j hj
  rw [revB_bit c x j (List.mem_range.1 hj)]
  simp
theorem outL_none (c x : Nat) : madeCells #[.bool false] x = (outL c x x).toArray := by
  apply Array.toList_inj.1
  rw [toList_madeCells_one]
  apply List.ext_getElem
  · simp [outL]
  · intro i h1 h2
    simp [outL] at h1 h2 ⊢
    intro h
    omega
theorem outL_set (c x i : Nat) : (outL c x (i + 1)).toArray.setIfInBounds i (.bool (c.testBit (x - 1 - i))) = (outL c x i).toArray := by
  apply Array.toList_inj.1
  apply List.ext_getElem
  · simp [outL]
  · intro j h1 h2
    simp [outL] at h1 h2 ⊢
    rw [List.getElem_set]
    by_cases e : i = j
    · subst e; simp
    · rw [if_neg e]
      simp
      by_cases e1 : i + 1 ≤ j
      · have : i ≤ j := by omega
        simp [e1, this]
      · have : ¬ i ≤ j := by omega
        simp [e1, this]
theorem outL_at (c x i j : Nat) (h : j < x) : ∃ b, (outL c x i).toArray[j]? = some (.bool b) := by
  exact ⟨decide (i ≤ j) && c.testBit (x - 1 - j), by simp [outL, h]⟩
theorem word_none (A : Option Addr) (n c : Nat) (l : List Int) (s : Int) (w : World) (h : IntsAt w A n c l) (hs : s < 0 ∨ (l.length : Int) ≤ s ∨ l[s.toNat]? = some 0) :
    Calls Try.prog 23 #[.slice A n c, .int .i64 s] w fun e w' => e = .returned (.slice none 0 0) ∧ w' = w := by
  have hl := h.len
  subst hl
  have hcap := h.cap
  have htop := h.top
  by_cases h0 : s < 0
  · clear h hs
    go_enter Try.func23, Try.ntmps23
    go_wp2
    go_ret
    exact ⟨rfl, rfl⟩
  by_cases h1 : (l.length : Int) ≤ s
  · clear h hs
    go_enter Try.func23, Try.ntmps23
    go_wp2
    go_ret
    exact ⟨rfl, rfl⟩
  obtain ⟨k, rfl⟩ : ∃ k : Nat, s = k := ⟨s.toNat, by omega⟩
  have hk : k < l.length := by omega
  have hx : l[k]? = some 0 := by
    rcases hs with e | e | e
    · omega
    · omega
    · simpa using e
  obtain ⟨R, o, rfl, hR, hcell⟩ := h.at_ (by omega)
  have g0 := hcell k 0 hx
  clear h hs hcell hx
  go_enter Try.func23, Try.ntmps23
  go_wp2
  go_ret
  exact ⟨rfl, rfl⟩
/-- What Word answers of a sign that has a word. -/
def WordIs (k x : Nat) (w : World) (e : Ending) (w' : World) : Prop :=
  ∃ g, e = .returned (.slice (some ⟨g, 0, none⟩) x x) ∧ w.heap.size ≤ g ∧ Whole w' g 4 (bitsV k x).toArray ∧ Below w.heap.size w w'
theorem codeIn_has (l : List Int) (s x : Nat) (h : l[s]? = some (x : Int)) (h0 : 0 < x) (hx : x ≤ 15) : codeIn l 15 0 s = codeOf (natsOf l) s x := by
  have hg := natsOf_getD h
  unfold codeIn
  simp only [hg]
  rw [if_pos (by omega)]
  simp
set_option maxRecDepth 100000 in
set_option maxHeartbeats 4000000 in
theorem word_some (A : Option Addr) (n c : Nat) (l : List Int) (s x : Nat) (w : World) (h : IntsAt w A n c l) (hok : lensOk l) (hsum : share (natsOf l) l.length ≤ 32768) (hx : l[s]? = some (x : Int)) (h0 : 0 < x) :
    Calls Try.prog 23 #[.slice A n c, .int .i64 s] w (WordIs (revB (codeOf (natsOf l) s x) x) x w) := by
  have hl := h.len
  subst hl
  have hcap := h.cap
  have htop := h.top
  have hs : s < l.length := (List.getElem?_eq_some_iff.1 hx).1
  have hn := hok.1
  have hx15 : x ≤ 15 := by have := (hok.2 x (List.mem_of_getElem? hx)).2; omega
  have hci := codeIn_has l s x hx h0 hx15
  have hcl : codeOf (natsOf l) s x ≤ 20972160 := by
    have := codeAt_le l hn (x - 1) s (by omega) (Nat.le_of_lt hs)
    unfold codeAt at this
    unfold codeOf
    rwa [show x - 1 + 1 = x from by omega] at this
  have hcod := refCodes_any A l.length c l w h
  obtain ⟨R, o, rfl, hR, hcell⟩ := h.at_ (by omega)
  have g0 := hcell s x hx
  have HC := Lib.hid hcod
  have HO := Lib.hid (And.intro hok hsum)
  have HI := Lib.hid hci
  generalize codeOf (natsOf l) s x = cd at *
  have hx0 : ((x : Int) == 0) = false := by simp; omega
  clear h hcell hcod hok hsum hx hci
  go_enter Try.func23, Try.ntmps23
  go_wp2_with fail
  refine HC.out.mono ?_
  rintro e w1 ⟨hb, ⟨hno, -⟩ | ⟨-, hov, -⟩ | ⟨-, -, g, hg, hw, rfl⟩⟩
  · exact absurd HO.out.1 hno
  · have := HO.out.2; omega
  have g1 : w1.cell? ⟨g, s, none⟩ = some (.int .i64 (cd : Int)) := by rw [hw.reads, codesArr_at l 15 0 s hs, HI.out]
  have g0' : w1.cell? ⟨R, o + s, none⟩ = some (.int .i64 x) := (hb.cell (p := ⟨R, o + s, none⟩) hR).trans g0
  have lg := hw.lt
  have hs1 := hb.size
  have hR1 : R < w1.heap.size := by omega
  have HB := Lib.hid hb
  clear hb hw g0
  have hmk := fun W => run_make_row' (P := Try.prog) 39 4 (.bool false) 1 Try.underlying39 (by kernel_rfl) rfl .i64 .i64 x (by omega) (by omega) W
  go_wp2_with fail
  go_loopw [8, 9] (fun y k wr => ∃ i : Nat, i ≤ x ∧ k = .int .i64 ((i : Int) - 1) ∧ y = .int .i64 (cd / 2 ^ (x - i) : Nat) ∧ Whole wr w1.heap.size 4 (outL cd x i).toArray ∧ Below w.heap.size w wr) (fun _ k _ => (intOf k + 1).toNat)
  case atStart =>
    refine ⟨x, Nat.le_refl _, rfl, by rw [Nat.sub_self, Nat.pow_zero, Nat.div_one], ?_, HB.out.alloc hs1 _⟩
    rw [← outL_none]
    exact Whole.made _ _ _
  case round =>
    obtain ⟨i, hi, rfl, rfl, hw, hb⟩ := hrel
    by_cases hlt : 0 < i
    · obtain ⟨i, rfl⟩ : ∃ k, i = k + 1 := ⟨i - 1, by omega⟩
      have hd : cd / 2 ^ (x - (i + 1)) ≤ cd := Nat.div_le_self _ _
      have hd2 : cd / 2 ^ (x - (i + 1)) / 2 = cd / 2 ^ (x - i) := by
        rw [Nat.div_div_eq_div_mul, ← Nat.pow_succ]
        congr 2
        omega
      have ht : cd.testBit (x - 1 - i) = (cd / 2 ^ (x - (i + 1)) % 2 == 1) := by
        rw [tb_eq]
        congr 4
        omega
      obtain ⟨b0, hb0⟩ := outL_at cd x (i + 1) i (by omega)
      have cg : wr.cell? ⟨w1.heap.size, i, none⟩ = some (.bool b0) := by rw [hw.reads]; exact hb0
      have fg := hw.thawed i
      have lg := hw.lt
      have hset := hw.set i (.bool (cd.testBit (x - 1 - i)))
      rw [outL_set cd x i, ht] at hset
      have hbs := hb.setCell (p := ⟨w1.heap.size, i, none⟩) hs1 (.bool (cd / 2 ^ (x - (i + 1)) % 2 == 1))
      have HQ := Lib.hid (And.intro hset (And.intro hbs hd2))
      clear hset hbs hd2 ht hw hb hb0
      rw [show ((i + 1 : Nat) : Int) - 1 = i by omega]
      generalize cd / 2 ^ (x - (i + 1)) = y at *
      have hcast : ((y : Int) % 2 == 1) = (y % 2 == 1) := by
        rw [Bool.eq_iff_iff, beq_iff_eq, beq_iff_eq]; omega
      rw [← hcast] at HQ
      clear hcast
      go_wp2_with fail
      go_roundw
      case rel => exact ⟨i, by omega, rfl, by rw [← HQ.out.2.2]; rfl, HQ.out.1, HQ.out.2.1⟩
      case measure => simp [intOf]
    · obtain rfl : i = 0 := by omega
      rw [outL_full] at hw
      have HQ := Lib.hid (And.intro hw hb)
      clear hw hb
      go_wp2
      go_ret
      exact ⟨_, rfl, hs1, HQ.out.1, HQ.out.2⟩
end Go.Proofs.Ytpcofdhhnfichaa
