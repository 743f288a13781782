/- huff's Make: the table. -/
import Derived.Test.YtnjdnldoopgcpaaHuffMake
import Derived.Test.YtnjdnldoopgcpaaHuffFind
import Derived.Test.YtnjdnldoopgcpaaRegionI
namespace Go.Proofs.Ytnjdnldoopgcpaa
open Go.RowKit

theorem word_info : (Try.prog.info? 106).map (fun i => (i.zero, i.size, i.bytes)) = some (some (.agg #[.int .i64 0, .int .i64 0]), 2, 16) := by kernel_rfl
theorem wordsAt_zero (l : List Int) : madeCells #[.int .i64 0, .int .i64 0] (l.length * 2) = wordsAt l 0 0 := by
  apply Array.ext_getElem?
  intro j
  by_cases h : j < 2 * l.length
  · rw [wordsAt_at l 0 0 j h]
    have e : wordIn l 0 0 j = 0 := by
      unfold wordIn
      simp only []
      rw [if_neg (by omega)]
    rw [e]
    have hj : j < l.length * 2 := by omega
    rcases Nat.mod_two_eq_zero_or_one j with h2 | h2 <;> simp [madeCells, hj, h2]
  · rw [Array.getElem?_eq_none (by simp [madeCells]; omega), Array.getElem?_eq_none (by rw [wordsAt_size]; omega)]
theorem make_words (l : List Int) (hn : l.length ≤ 320) (w : World) :
    (Instr.makeSlice 100 (.int .i64 (l.length : Int)) (.int .i64 (l.length : Int))).run Try.prog w = .ok (.slice (some ⟨w.heap.size, 0, none⟩) l.length l.length) (w.alloc (.cells (wordsAt l 0 0) 106)) := by
  obtain ⟨i, hi, hz, hs, hy⟩ := info_parts word_info
  have := run_make (P := Try.prog) w 100 106 i _ Try.underlying100 hi hz .i64 .i64 l.length l.length (by omega) (by omega) (by rw [hy]; omega) (by omega)
  simp only [Int.toNat_natCast, hs] at this
  rw [show (Value.agg #[.int .i64 0, .int .i64 0]).cells = #[.int .i64 0, .int .i64 0] from by rfl, wordsAt_zero] at this
  exact this
/-- What holds within the region that makes the table: the words' row, the table and the variable for it are made in an order that is not known. -/
def Inv7 (W0 : World) (A : Option Addr) (n c : Nat) (cs ws : Array Value) (F : Value → Value → Value → Value → Value → Value → Value → Act) (l : Array Bool) (act : Act) (v : World) : Prop :=
  ∃ t8 t35 t36 t37 t38 t39 t40, act = F t8 t35 t36 t37 t38 t39 t40 ∧ Below W0.heap.size W0 v ∧
    (On l 0 → t35 = .agg cs) ∧ (On l 1 → t36 = .slice A n c) ∧ (On l 2 → t37 = .int .i64 n) ∧
    (On l 3 → ∃ G, t38 = .slice (some ⟨G, 0, none⟩) n n ∧ W0.heap.size ≤ G ∧ Whole v G 106 ws) ∧
    (On l 4 → On l 3 ∧ t39 = .agg (cs ++ #[.slice none 0 0, t38])) ∧
    (On l 5 → On l 4 ∧ ∃ B, t40 = .pointer (some ⟨B, 0, none⟩) ∧ W0.heap.size ≤ B ∧ Whole v B 102 (cs ++ #[.slice none 0 0, t38])) ∧
    (On l 6 → ∃ V, t8 = .pointer (some ⟨V, 0, none⟩) ∧ W0.heap.size ≤ V ∧ ((On l 7 ∧ Whole v V 71 #[t40]) ∨ (¬ On l 7 ∧ Whole v V 71 #[.pointer none]))) ∧
    (On l 7 → On l 5 ∧ On l 6)
/-- What Make answers where it makes a table. -/
def MakeAns (l : List Int) (w : World) (e : Ending) (w' : World) : Prop :=
  Below w.heap.size w w' ∧ ∃ B G v, e = .returned (.tuple #[.pointer (some ⟨B, 0, none⟩), .int .i64 0]) ∧ w.heap.size ≤ B ∧ w.heap.size ≤ G ∧
    TB w' B w.heap.size G (cntArr (natsOf l) l.length) v (symsAt l 15 0) (wordsAt l 15 0) l.length
theorem closure1_enters (args : Array Value) (w : World) : (callFunc 62 args).run Try.prog w = .ok (.enter 62 args) w := rfl
theorem on_keep {l : Array Bool} {i k : Nat} (h : On l k) (hk : k ≠ i) : On (l.setIfInBounds i true) k := by
  unfold On at h ⊢; rw [getD_set_ne false (Ne.symm hk)]; exact h
theorem wp_build3 {P : Program} {o : Oper} {a : Act} {w : World} {K : Act → World → Prop} {Q : Exit → Act → World → Prop} (t : TypeId) (parts : Array (Nat × Operand)) (vals : Array (Nat × Value)) (cells : Array Value) (ho : o.op = .build t parts)
    (hv : (parts.map fun (i, x) => (i, a.eval x)) = vals) (hc : P.built t vals.toList = some cells) (h : K (a.put o.dst (.agg cells)) w) : o.wp P a w K Q := by
  refine wp_build t parts ho ?_ ?_
  · rw [hv, hc]; rfl
  · rw [hv, hc]; exact h
theorem built_table (cs : List Nat) (s G n : Nat) : Try.prog.built 102 [(0, .agg (cntArr cs s)), (2, .slice (some ⟨G, 0, none⟩) n n)] = some (cntArr cs s ++ #[.slice none 0 0, .slice (some ⟨G, 0, none⟩) n n]) := by kernel_rfl
set_option maxRecDepth 100000 in
set_option maxHeartbeats 4000000 in
theorem make_ok (A : Option Addr) (n c : Nat) (l : List Int) (w : World) (h : IntsAt w A n c l) (hok : lensOk l) (hsum : sumOk l) :
    Calls Try.prog 43 #[.slice A n c] w (MakeAns l w) := by
  have hmf : ∀ (fn : Fn) (first cap : Array Value) (w : World), (Instr.makeFunc fn first cap).run Try.prog w = .ok (.func fn first cap) w := fun _ _ _ _ => rfl
  have hl := h.len
  subst hl
  have hcap := h.cap
  have htop := h.top
  have hm := measure_any A l.length c l (w.alloc (.cells #[.slice A l.length c] 50)) (h.below ((Below.refl _ _).alloc (Nat.le_refl _) _))
  have hn := hok.1
  have HO := Lib.hid hok
  have HM := Lib.hid hm
  have HS := Lib.hid hsum
  have HI := Lib.hid h
  clear h hm hok hsum
  go_enter Try.func43, Try.ntmps43
  go_wp2_with fail
  refine HM.out.mono ?_
  rintro e w1 ⟨hb, h⟩
  have wb : Whole w1 w.heap.size 50 #[.slice A l.length c] := (Whole.made w 50 #[.slice A l.length c]).later hb (by simp)
  have cb : w1.cell? ⟨w.heap.size, 0, none⟩ = some (.slice A l.length c) := wb.reads 0
  have lb : w.heap.size < w1.heap.size := by have := hb.size; simp at this; omega
  have HL := Lib.hid (((Below.refl w.heap.size w).alloc (Nat.le_refl _) (.cells #[.slice A l.length c] 50)).trans (hb.mono (by simp)))
  have WB := Lib.hid wb
  clear hb wb
  rcases h with ⟨hno, -⟩ | ⟨-, hov, -⟩ | ⟨-, hle, rfl⟩
  · exact absurd HO.out hno
  · rcases HS.out with h | h | ⟨-, h⟩ <;> omega
  · have hall : (cntArr (natsOf l) l.length).all (·.oneCell') = true := by
      rw [Array.all_eq_true_iff_forall_mem]
      intro x hx
      simp [cntArr] at hx
      obtain ⟨k, -, rfl⟩ := hx
      rfl
    have HA := Lib.hid hall
    clear hall
    have hw := Whole.made w1 97 #[.int .i64 0, .int .i64 0, .int .i64 0, .int .i64 0, .int .i64 0, .int .i64 0, .int .i64 0, .int .i64 0, .int .i64 0, .int .i64 0, .int .i64 0, .int .i64 0, .int .i64 0, .int .i64 0, .int .i64 0, .int .i64 0]
    have HW := Lib.hid hw
    clear hw
    go_upto_region 4 with (refine wpList_store_row rfl _ _ _ rfl w1.heap.size (cntArr (natsOf l) l.length) rfl rfl 97 #[.int .i64 0, .int .i64 0, .int .i64 0, .int .i64 0, .int .i64 0, .int .i64 0, .int .i64 0, .int .i64 0, .int .i64 0, .int .i64 0, .int .i64 0, .int .i64 0, .int .i64 0, .int .i64 0, .int .i64 0, .int .i64 0] HW.out (by rw [cntArr_size]; exact sizeC) (by rw [cntArr_size]; rfl) HA.out ?_)
    generalize hWd : (w1.alloc (.cells #[.int .i64 0, .int .i64 0, .int .i64 0, .int .i64 0, .int .i64 0, .int .i64 0, .int .i64 0, .int .i64 0, .int .i64 0, .int .i64 0, .int .i64 0, .int .i64 0, .int .i64 0, .int .i64 0, .int .i64 0, .int .i64 0] 97)).setRow w1.heap.size (cntArr (natsOf l) l.length) = W at *
    have hwc : Whole W w1.heap.size 97 (cntArr (natsOf l) l.length) := by rw [← hWd]; exact setRow_whole _ HW.out
    have hbb : Below w1.heap.size w1 W := by rw [← hWd]; exact ((Below.refl _ _).alloc (Nat.le_refl _) _).trans (setRow_below _ _ (Nat.le_refl _))
    have hbl : Whole W w.heap.size 50 #[.slice A l.length c] := WB.out.later hbb lb
    have cb2 : W.cell? ⟨w.heap.size, 0, none⟩ = some (.slice A l.length c) := hbl.reads 0
    have cc : W.cell? ⟨w1.heap.size, 1, none⟩ = some (.int .i64 (cnt (natsOf l) 1 l.length : Int)) := by rw [hwc.reads]; exact cntArr_at _ _ _ (by omega)
    have hbW : Below w.heap.size w W := HL.out.trans (hbb.mono (Nat.le_of_lt lb))
    have lC := hwc.lt
    have HW2 := Lib.hid (And.intro hwc (And.intro hbl hbW))
    clear hwc hbb hbl hbW hWd cb HL WB HW HA
    have lbw := lb
    generalize w1.heap.size = C0 at *
    go_cut [7] from 18 to 24 (fun b wx => wx = W ∧ b = .bool (decide (cnt (natsOf l) 1 l.length = 1 ∧ share (natsOf l) l.length = 16384)))
    case first =>
      by_cases hc : cnt (natsOf l) 1 l.length = 1
      · by_cases h4 : share (natsOf l) l.length = 16384
        · have b3 : ((cnt (natsOf l) 1 l.length : Int) == 1) = true := by simp; omega
          have b4 : ((share (natsOf l) l.length : Int) == 16384) = true := by simp; omega
          have b5 : decide (cnt (natsOf l) 1 l.length = 1 ∧ share (natsOf l) l.length = 16384) = true := by simp [hc, h4]
          go_wp2_with fail
          go_meet
          exact ⟨rfl, by rw [b5]⟩
        · have b3 : ((cnt (natsOf l) 1 l.length : Int) == 1) = true := by simp; omega
          have b4 : ((share (natsOf l) l.length : Int) == 16384) = false := by simp; omega
          have b5 : decide (cnt (natsOf l) 1 l.length = 1 ∧ share (natsOf l) l.length = 16384) = false := by simp [hc, h4]
          go_wp2_with fail
          go_meet
          exact ⟨rfl, by rw [b5]⟩
      · have b3 : ((cnt (natsOf l) 1 l.length : Int) == 1) = false := by simp; omega
        have b5 : decide (cnt (natsOf l) 1 l.length = 1 ∧ share (natsOf l) l.length = 16384) = false := by simp [hc]
        go_wp2_with fail
        go_meet
        exact ⟨rfl, by rw [b5]⟩
    case rest =>
      obtain ⟨rfl, rfl⟩ := hcut
      have H3 := HS.out
      generalize hsg : decide (cnt (natsOf l) 1 l.length = 1 ∧ share (natsOf l) l.length = 16384) = sg at *
      go_upto_region 5 with fail
      go_cut [34] from 25 to 34 (fun b wx => wx = wc ∧ b = .bool false)
      case first =>
        rcases H3 with h | h | ⟨h, h'⟩
        · have b1 : ((share (natsOf l) l.length : Int) != 32768) = false := by simp; omega
          go_wp2_with fail
          go_meet
          exact ⟨rfl, rfl⟩
        · have b1 : ((share (natsOf l) l.length : Int) != 32768) = true := by simp; omega
          have b2 : ((share (natsOf l) l.length : Int) != 0) = false := by simp; omega
          go_wp2_with fail
          go_meet
          exact ⟨rfl, rfl⟩
        · have b1 : ((share (natsOf l) l.length : Int) != 32768) = true := by simp; omega
          have b2 : ((share (natsOf l) l.length : Int) != 0) = true := by simp; omega
          obtain rfl : sg = true := by rw [← hsg]; simp [h, h']
          clear hsg
          go_wp2_with fail
          go_meet
          exact ⟨rfl, rfl⟩
      case rest =>
        obtain ⟨rfl, rfl⟩ := hcut
        go_upto_region 7 with fail
        clear H3 cc lbw hcap htop
        have hb0 := HW2.out
        obtain ⟨hwc, hbl, hbW⟩ := hb0
        have HWC := Lib.hid hwc
        have HBL := Lib.hid hbl
        clear hwc hbl
        refine wp_region_inv2 (Inv7 wc A l.length c (cntArr (natsOf l) l.length) (wordsAt l 0 0) (fun t8 t35 t36 t37 t38 t39 t40 => { tmps := #[.slice A l.length c, .pointer (some ⟨w.heap.size, 0, none⟩), .pointer none, .int .i64 0, .pointer (some ⟨C0, 0, none⟩), .int .i64 (share (natsOf l) l.length), .int .i64 0, .bool sg, t8, .tuple #[.agg (cntArr (natsOf l) l.length), .int .i64 (share (natsOf l) l.length), .int .i64 0], .slice A l.length c, .tuple #[.agg (cntArr (natsOf l) l.length), .int .i64 (share (natsOf l) l.length), .int .i64 0], .agg (cntArr (natsOf l) l.length), .int .i64 (share (natsOf l) l.length), .int .i64 0, .int .i64 0, .bool false, undef, u18, u19, u20, u21, u22, u23, u24, u25, u26, u27, u28, u29, u30, u31, u32, u33, .bool false, t35, t36, t37, t38, t39, t40, undef, undef, undef, undef], defers := [] })) (by kernel_rfl) (by kernel_rfl) ?start ?step ?fin
        case start =>
          exact ⟨undef, undef, undef, undef, undef, undef, undef, rfl, (Below.refl _ _).drew, fun h => absurd h on_none, fun h => absurd h on_none, fun h => absurd h on_none, fun h => absurd h on_none, fun h => absurd h on_none, fun h => absurd h on_none, fun h => absurd h on_none, fun h => absurd h on_none⟩
        case step =>
          intro i o r lt act v ho hi hun hall hI K hK
          obtain ⟨t8, t35, t36, t37, t38, t39, t40, rfl, hb, e35, e36, e37, e38, e39, e40, e8, e7⟩ := hI
          have E35 := Lib.hid e35
          have E36 := Lib.hid e36
          have E37 := Lib.hid e37
          have E38 := Lib.hid e38
          have E39 := Lib.hid e39
          have E40 := Lib.hid e40
          have E8 := Lib.hid e8
          have E7 := Lib.hid e7
          have HALL := Lib.hid hall
          have HB := Lib.hid hb
          have cbv : v.cell? ⟨w.heap.size, 0, none⟩ = some (.slice A l.length c) := (HBL.out.later hb HBL.out.lt).reads 0
          have hcv := HWC.out.later hb HWC.out.lt
          have lv := hb.size
          have lCv : C0 < v.heap.size := by omega
          have lwv : w.heap.size < v.heap.size := by omega
          have hmk := make_words l hn
          clear e35 e36 e37 e38 e39 e40 e8 e7 hall hb cb2
          rcases (by have : i < 8 := hi; omega : i = 0 ∨ i = 1 ∨ i = 2 ∨ i = 3 ∨ i = 4 ∨ i = 5 ∨ i = 6 ∨ i = 7) with rfl | rfl | rfl | rfl | rfl | rfl | rfl | rfl
          · cases ho
            rw [if_pos (by rfl)]
            refine wp_load_row 97 _ rfl C0 rfl 97 (cntArr (natsOf l) l.length) (0, 0) _ hcv rfl rfl (by rw [cntArr_size]; exact sizeC) ?_
            exact hK.out _ _ ⟨t8, _, t36, t37, t38, t39, t40, rfl, HB.out, fun _ => rfl, fun h => E36.out (on_old (by decide) h), fun h => E37.out (on_old (by decide) h), fun h => (by obtain ⟨G, e, hG, hW⟩ := E38.out (on_old (by decide) h); exact ⟨G, e, hG, hW⟩), fun h => (by obtain ⟨h3, e⟩ := E39.out (on_old (by decide) h); exact ⟨on_keep h3 (by decide), e⟩), fun h => (by obtain ⟨h4, B, e, hB, hW⟩ := E40.out (on_old (by decide) h); exact ⟨on_keep h4 (by decide), B, e, hB, hW⟩), fun h => (by obtain ⟨V, e, hV, h2⟩ := E8.out (on_old (by decide) h); refine ⟨V, e, hV, ?_⟩; rcases h2 with ⟨h2, h3⟩ | ⟨h2, h3⟩; exact .inl ⟨on_keep h2 (by decide), h3⟩; exact .inr ⟨fun h4 => h2 (on_old (by decide) h4), h3⟩), fun h => (by obtain ⟨h5, h6⟩ := E7.out (on_old (by decide) h); exact ⟨on_keep h5 (by decide), on_keep h6 (by decide)⟩)⟩
          · cases ho
            clear hcv
            go_simp
            exact hK.out _ _ ⟨t8, t35, _, t37, t38, t39, t40, rfl, HB.out, fun h => E35.out (on_old (by decide) h), fun _ => rfl, fun h => E37.out (on_old (by decide) h), fun h => (by obtain ⟨G, e, hG, hW⟩ := E38.out (on_old (by decide) h); exact ⟨G, e, hG, hW⟩), fun h => (by obtain ⟨h3, e⟩ := E39.out (on_old (by decide) h); exact ⟨on_keep h3 (by decide), e⟩), fun h => (by obtain ⟨h4, B, e, hB, hW⟩ := E40.out (on_old (by decide) h); exact ⟨on_keep h4 (by decide), B, e, hB, hW⟩), fun h => (by obtain ⟨V, e, hV, h2⟩ := E8.out (on_old (by decide) h); refine ⟨V, e, hV, ?_⟩; rcases h2 with ⟨h2, h3⟩ | ⟨h2, h3⟩; exact .inl ⟨on_keep h2 (by decide), h3⟩; exact .inr ⟨fun h4 => h2 (on_old (by decide) h4), h3⟩), fun h => (by obtain ⟨h5, h6⟩ := E7.out (on_old (by decide) h); exact ⟨on_keep h5 (by decide), on_keep h6 (by decide)⟩)⟩
          · cases ho
            clear hcv
            obtain rfl := E36.out (HALL.out ⟨1, .data⟩ (by simp) rfl)
            go_simp
            exact hK.out _ _ ⟨t8, t35, _, _, t38, t39, t40, rfl, HB.out, fun h => E35.out (on_old (by decide) h), fun _ => rfl, fun _ => rfl, fun h => (by obtain ⟨G, e, hG, hW⟩ := E38.out (on_old (by decide) h); exact ⟨G, e, hG, hW⟩), fun h => (by obtain ⟨h3, e⟩ := E39.out (on_old (by decide) h); exact ⟨on_keep h3 (by decide), e⟩), fun h => (by obtain ⟨h4, B, e, hB, hW⟩ := E40.out (on_old (by decide) h); exact ⟨on_keep h4 (by decide), B, e, hB, hW⟩), fun h => (by obtain ⟨V, e, hV, h2⟩ := E8.out (on_old (by decide) h); refine ⟨V, e, hV, ?_⟩; rcases h2 with ⟨h2, h3⟩ | ⟨h2, h3⟩; exact .inl ⟨on_keep h2 (by decide), h3⟩; exact .inr ⟨fun h4 => h2 (on_old (by decide) h4), h3⟩), fun h => (by obtain ⟨h5, h6⟩ := E7.out (on_old (by decide) h); exact ⟨on_keep h5 (by decide), on_keep h6 (by decide)⟩)⟩
          · cases ho
            clear hcv
            obtain rfl := E37.out (HALL.out ⟨2, .data⟩ (by simp) rfl)
            have no4 : ∀ k, (On (lt.setIfInBounds 3 true) k → On lt k) → On (lt.setIfInBounds 3 true) k → On lt k := fun k h => h
            have n4 : ¬ On lt 4 := fun h => off_of hun (E39.out h).1
            have n5 : ¬ On lt 5 := fun h => n4 (E40.out h).1
            have n7 : ¬ On lt 7 := fun h => n5 (E7.out h).1
            go_simp
            exact hK.out _ _ ⟨t8, t35, t36, _, _, t39, t40, rfl, HB.out.alloc HB.out.size _, fun h => E35.out (on_old (by decide) h), fun h => E36.out (on_old (by decide) h), fun _ => rfl, fun _ => ⟨v.heap.size, rfl, lv, Whole.made _ _ _⟩, fun h => absurd (on_old (by decide) h) n4, fun h => absurd (on_old (by decide) h) n5, fun h => (by obtain ⟨V, e, hV, h2⟩ := E8.out (on_old (by decide) h); refine ⟨V, e, hV, ?_⟩; rcases h2 with ⟨h2, h3⟩ | ⟨h2, h3⟩; exact .inl ⟨on_keep h2 (by decide), h3.old _⟩; exact .inr ⟨fun h4 => h2 (on_old (by decide) h4), h3.old _⟩), fun h => (by obtain ⟨h5, h6⟩ := E7.out (on_old (by decide) h); exact ⟨on_keep h5 (by decide), on_keep h6 (by decide)⟩)⟩
          · cases ho
            clear hcv
            obtain rfl := E35.out (HALL.out ⟨0, .data⟩ (by simp) rfl)
            have on3 := HALL.out ⟨3, .data⟩ (by simp) rfl
            obtain ⟨G, rfl, hG, hWG⟩ := E38.out on3
            rw [if_pos (by rfl)]
            have n5 : ¬ On lt 5 := fun h => off_of hun (E40.out h).1
            have hbt := built_table (natsOf l) l.length G l.length
            refine wp_build3 102 _ #[(0, .agg (cntArr (natsOf l) l.length)), (2, .slice (some ⟨G, 0, none⟩) l.length l.length)] _ rfl (by simp [go_sem]) hbt ?_
            refine hK.out _ _ ⟨t8, .agg (cntArr (natsOf l) l.length), t36, t37, .slice (some ⟨G, 0, none⟩) l.length l.length, .agg (cntArr (natsOf l) l.length ++ #[.slice none 0 0, .slice (some ⟨G, 0, none⟩) l.length l.length]), t40, rfl, HB.out, fun _ => rfl, fun h => E36.out (on_old (by decide) h), fun h => E37.out (on_old (by decide) h), fun h => (by obtain ⟨G, e, hG, hW⟩ := E38.out (on_old (by decide) h); exact ⟨G, e, hG, hW⟩), fun _ => ⟨on_keep on3 (by decide), rfl⟩, fun h => absurd (on_old (by decide) h) n5, fun h => (by obtain ⟨V, e, hV, h2⟩ := E8.out (on_old (by decide) h); refine ⟨V, e, hV, ?_⟩; rcases h2 with ⟨h2, h3⟩ | ⟨h2, h3⟩; exact .inl ⟨on_keep h2 (by decide), h3⟩; exact .inr ⟨fun h4 => h2 (on_old (by decide) h4), h3⟩), fun h => (by obtain ⟨h5, h6⟩ := E7.out (on_old (by decide) h); exact ⟨on_keep h5 (by decide), on_keep h6 (by decide)⟩)⟩
          · cases ho
            clear hcv
            have on4 := HALL.out ⟨4, .data⟩ (by simp) rfl
            obtain ⟨on3, rfl⟩ := E39.out on4
            have n7 : ¬ On lt 7 := fun h => off_of hun (E7.out h).1
            go_simp
            exact hK.out _ _ ⟨t8, t35, t36, t37, t38, _, _, rfl, HB.out.alloc HB.out.size _, fun h => E35.out (on_old (by decide) h), fun h => E36.out (on_old (by decide) h), fun h => E37.out (on_old (by decide) h), fun h => (by obtain ⟨G, e, hG, hW⟩ := E38.out (on_old (by decide) h); exact ⟨G, e, hG, hW.old _⟩), fun _ => ⟨on_keep on3 (by decide), rfl⟩, fun _ => ⟨on_keep on4 (by decide), v.heap.size, rfl, lv, Whole.made _ _ _⟩, fun h => (by obtain ⟨V, e, hV, h2⟩ := E8.out (on_old (by decide) h); refine ⟨V, e, hV, ?_⟩; rcases h2 with ⟨h2, h3⟩ | ⟨h2, h3⟩; exact absurd h2 n7; exact .inr ⟨fun h4 => h2 (on_old (by decide) h4), h3.old _⟩), fun h => absurd (on_old (by decide) h) n7⟩
          · cases ho
            clear hcv
            have n7 : ¬ On lt 7 := fun h => off_of hun (E7.out h).2
            go_simp
            exact hK.out _ _ ⟨_, t35, t36, t37, t38, t39, t40, rfl, HB.out.alloc HB.out.size _, fun h => E35.out (on_old (by decide) h), fun h => E36.out (on_old (by decide) h), fun h => E37.out (on_old (by decide) h), fun h => (by obtain ⟨G, e, hG, hW⟩ := E38.out (on_old (by decide) h); exact ⟨G, e, hG, hW.old _⟩), fun h => (by obtain ⟨h3, e⟩ := E39.out (on_old (by decide) h); exact ⟨on_keep h3 (by decide), e⟩), fun h => (by obtain ⟨h4, B, e, hB, hW⟩ := E40.out (on_old (by decide) h); exact ⟨on_keep h4 (by decide), B, e, hB, hW.old _⟩), fun _ => ⟨v.heap.size, rfl, lv, .inr ⟨fun h4 => n7 (on_old (by decide) h4), Whole.made _ _ _⟩⟩, fun h => absurd (on_old (by decide) h) n7⟩
          · cases ho
            clear hcv
            have on6 := HALL.out ⟨6, .data⟩ (by simp) rfl
            have on5 := HALL.out ⟨5, .data⟩ (by simp) rfl
            obtain ⟨V, rfl, gV, ⟨h1, -⟩ | ⟨-, hV⟩⟩ := E8.out on6
            · exact absurd h1 (off_of hun)
            obtain ⟨on4, B, rfl, gB, hWB⟩ := E40.out on5
            obtain ⟨G, rfl, gG, hWG⟩ := E38.out (E39.out on4).1
            have hVB : B ≠ V := hWB.apart hV (by decide)
            have hVG : G ≠ V := hWG.apart hV (by decide)
            have rd := hV.reads
            have ft := hV.thawed
            have lV := hV.lt
            have W8 := Lib.hid (hV.set 0 (.pointer (some ⟨B, 0, none⟩)))
            have WB8 := Lib.hid (hWB.away (p := ⟨V, 0, none⟩) hVB (.pointer (some ⟨B, 0, none⟩)))
            have WG8 := Lib.hid (hWG.away (p := ⟨V, 0, none⟩) hVG (.pointer (some ⟨B, 0, none⟩)))
            clear hV hWB hWG
            go_simp
            exact hK.out _ _ ⟨_, t35, t36, t37, _, t39, _, rfl, HB.out.setCell (p := ⟨V, 0, none⟩) gV _, fun h => E35.out (on_old (by decide) h), fun h => E36.out (on_old (by decide) h), fun h => E37.out (on_old (by decide) h), fun _ => ⟨G, rfl, gG, WG8.out⟩, fun h => (by obtain ⟨h3, e⟩ := E39.out (on_old (by decide) h); exact ⟨on_keep h3 (by decide), e⟩), fun _ => ⟨on_keep on4 (by decide), B, rfl, gB, WB8.out⟩, fun _ => ⟨V, rfl, gV, .inl ⟨on_new hun, W8.out⟩⟩, fun _ => ⟨on_keep on5 (by decide), on_keep on6 (by decide)⟩⟩
        case fin =>
          intro lt act v hon hI
          obtain ⟨t8, t35, t36, t37, t38, t39, t40, rfl, hb, e35, e36, e37, e38, e39, e40, e8, e7⟩ := hI
          obtain rfl := e35 (hon 0 (by decide))
          obtain rfl := e36 (hon 1 (by decide))
          obtain rfl := e37 (hon 2 (by decide))
          obtain ⟨G, rfl, gG, hG⟩ := e38 (hon 3 (by decide))
          obtain ⟨-, rfl⟩ := e39 (hon 4 (by decide))
          obtain ⟨-, B, rfl, gB, hT⟩ := e40 (hon 5 (by decide))
          obtain ⟨V, rfl, gV, hx⟩ := e8 (hon 6 (by decide))
          have hV := (hx.resolve_right (fun h => h.1 (hon 7 (by decide)))).2
          clear hx e35 e36 e37 e38 e39 e40 e8 e7 hon cb2
          have hL := HBL.out.later hb HBL.out.lt
          have cL := hL.reads 0
          have lL := hL.lt
          have lV := hV.lt
          dsimp only
          have hb2 := hbW.trans (hb.mono (Nat.le_trans (Nat.le_of_lt lb) (Nat.le_of_lt lC)))
          have wle : w.heap.size ≤ wc.heap.size := hbW.size
          have h0 : ∃ v', TMid w v B w.heap.size G l.length V w.heap.size A c (cntArr (natsOf l) l.length) v' (symsAt l 0 0) (wordsAt l 0 0) :=
            ⟨_, ⟨⟨cntArr_size _ _, hT, ⟨rfl, .inl ⟨rfl, rfl⟩⟩, hG⟩, hV, hL, hb2, Nat.le_refl _, by omega, by omega⟩⟩
          have gB' : w.heap.size ≤ B := by omega
          have gG' : w.heap.size ≤ G := by omega
          have H0 := Lib.hid h0
          clear hT hG hV hL hb hbW hb2 h0
          go_wp2_with fail
          refine (assign_any 62 #[.pointer (some ⟨V, 0, none⟩), .pointer (some ⟨w.heap.size, 0, none⟩)] (fun L s w' => ∃ v', TMid w w' B w.heap.size G l.length V w.heap.size A c (cntArr (natsOf l) l.length) v' (symsAt l L s) (wordsAt l L s)) A l.length c l w _ closure1_enters HI.out HO.out (fun _ _ _ h => h.elim fun _ h => h.below) (fun L s w' hL hs hx h => ?step1) (fun L s w' x hL hx hne h => ?skip1) (fun L w' hL h => ?next1) H0.out).mono ?_
          case step1 =>
            obtain ⟨v', h⟩ := h
            obtain ⟨R, o, rfl, hR, hcell⟩ := HI.out.at_ (by omega)
            refine (make1_any B w.heap.size G l.length V w.heap.size R o c _ v' _ _ s (codeAt l L s) (L + 1) w w' h hs (symsAt_le l hn L s hL (Nat.le_of_lt hs)) (by have := codeAt_le l hn L s hL (Nat.le_of_lt hs); omega) (by omega) (wordsAt_size _ _ _) hR (hcell s _ hx)).mono ?_
            rintro e w'' ⟨rfl, v2, h2⟩
            rw [wordsAt_hit hx, ← symsAt_hit hx] at h2
            exact ⟨rfl, v2, h2⟩
          case skip1 =>
            obtain ⟨v', h⟩ := h
            rw [symsAt_miss hx hne, ← wordsAt_miss hx hne]
            exact ⟨v', h⟩
          case next1 =>
            obtain ⟨v', h⟩ := h
            rw [← symsAt_next, ← wordsAt_next]
            exact ⟨v', h⟩
          rintro e w2 ⟨rfl, v2, hm⟩
          have ct := hm.ht.reads 0
          have lt := hm.ht.lt
          have HM2 := Lib.hid hm
          clear hm
          go_wp2
          go_ret2
          exact ⟨HM2.out.below, B, G, v2, rfl, gB', gG', HM2.out.tab⟩
end Go.Proofs.Ytnjdnldoopgcpaa
