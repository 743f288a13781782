/- bytes.Repeat of one byte; the part at the beginning of some bytes: walks. -/
import Derived.Test.YtbghmbcipekboaaRunA
import Derived.Test.YtbghmbcipekboaaShelf
import Derived.Laws.CopyOwn
import Derived.Lib.MakeNoZero
import Derived.Laws.Externs
import Derived.StillTailTactics
namespace Go.Proofs.Ytbghmbcipekboaa
open Go.RowKit

/-- A new row of k cells that all hold the byte x. -/
def Reps (B k x : Nat) (w : World) (e : Ending) (w' : World) : Prop :=
  ∃ g, e = .returned (.slice (some ⟨g, 0, none⟩) k k) ∧ B ≤ g ∧ Bytes w' (some ⟨g, 0, none⟩) k k (List.replicate k x) ∧ Below B w w'
theorem splice_head {cur : List Value} {v : Value} {bp m : Nat} (h : cur.take bp = List.replicate bp v) (hb : bp ≤ cur.length) (_ : bp + m ≤ cur.length) :
    (splice cur bp (List.replicate m v)).take (bp + m) = List.replicate (bp + m) v := by
  have e1 : (cur.take bp).length = bp := by rw [List.length_take]; omega
  unfold splice
  rw [h, ← List.append_assoc, List.replicate_append_replicate, List.take_left' (by simp)]
theorem size8 : (Try.prog.info? 5).map (·.size) = some 1 := by kernel_rfl
theorem mul_one (k : Nat) (w : World) (hk : k ≤ 8000) : Calls Try.prog 22 #[.int .u64 1, .int .u64 k] w fun e w' => e = .returned (.tuple #[.int .u64 0, .int .u64 k]) ∧ w = w' := by
  have m1 : ((1 * k / 18446744073709551616 : Nat) : Int) = 0 := by omega
  have m2 : ((1 * k % 18446744073709551616 : Nat) : Int) = (k : Int) := by omega
  have h := Try.bits_Mul 1 k (by omega) (by omega) w
  rw [m1, m2] at h
  exact h.mono fun e w' h => ⟨h.1, h.2.symm⟩
/-- How far the row is filled. -/
structure Filled (w wr : World) (k x bp : Nat) (cur : List Value) : Prop where
  row : Whole wr w.heap.size 5 cur.toArray
  size : k ≤ cur.length
  head : cur.take bp = List.replicate bp (.int .u8 x)
  below : Below w.heap.size w wr
theorem Filled.at_ {w wr : World} {k x bp : Nat} {cur : List Value} (h : Filled w wr k x bp cur) (j : Nat) (hj : j < bp) : cur[j]? = some (.int .u8 x) := by
  have e : (cur.take bp)[j]? = some (.int .u8 x) := by rw [h.head, List.getElem?_replicate, if_pos hj]
  rwa [List.getElem?_take, if_pos hj] at e
theorem Filled.step {w wr w' : World} {k x bp m : Nat} {cur : List Value} (h : Filled w wr k x bp cur) (hm : bp + m ≤ k) (hr : Whole w' w.heap.size 5 (splice cur bp (List.replicate m (.int .u8 (x : Int)))).toArray) (hb : Below w.heap.size w w') :
    Filled w w' k x (bp + m) (splice cur bp (List.replicate m (.int .u8 (x : Int)))) := by
  have hs := h.size
  refine ⟨hr, ?_, splice_head h.head (by omega) (by omega), hb⟩
  rw [length_splice _ _ _ (by rw [List.length_replicate]; omega)]
  exact hs
theorem Filled.src {w wr : World} {k x bp m : Nat} {cur : List Value} (h : Filled w wr k x bp cur) (hm : m ≤ bp) (j : Nat) (v : Value) (hv : (List.replicate m (Value.int .u8 (x : Int)))[j]? = some v) :
    wr.drew.cell? ((⟨w.heap.size, 0, none⟩ : Addr).add j) = some v := by
  have hj := (List.getElem?_eq_some_iff.1 hv).1
  rw [List.length_replicate] at hj
  rw [List.getElem?_replicate, if_pos hj] at hv
  injection hv with hv
  subst hv
  have e2 : (⟨w.heap.size, 0, none⟩ : Addr).add j = ⟨w.heap.size, j, none⟩ := by
    unfold Addr.add; by_cases h0 : j = 0 <;> simp [h0]
  rw [e2, h.row.drawn1.reads, List.getElem?_toArray]
  exact h.at_ j (by omega)
theorem Filled.done {w wr : World} {k x : Nat} {cur : List Value} (h : Filled w wr k x k cur) (hx : x < 256) (hk : k ≤ 8000) : Bytes wr (some ⟨w.heap.size, 0, none⟩) k k (List.replicate k x) :=
  ⟨by simp, Nat.le_refl _, by omega, fun b hb => by rw [List.eq_of_mem_replicate hb]; exact hx, fun _ => ⟨_, 0, rfl, h.row.lt, fun i b hb => by
    have hi := (List.getElem?_eq_some_iff.1 hb).1
    rw [List.length_replicate] at hi
    rw [List.getElem?_replicate, if_pos hi] at hb
    injection hb with hb
    subst hb
    rw [h.row.reads, Nat.zero_add, List.getElem?_toArray]
    exact h.at_ i hi⟩⟩
set_option maxRecDepth 100000 in
set_option maxHeartbeats 4000000 in
theorem repeat_one (R o c x k : Nat) (w : World) (hR : R < w.heap.size) (hx : x < 256) (hc : w.cell? ⟨R, o, none⟩ = some (.int .u8 x)) (hk : 1 ≤ k) (hk2 : k ≤ 8000) :
    Calls Try.prog 21 #[.slice (some ⟨R, o, none⟩) 1 c, .int .i64 k] w (Reps w.heap.size k x w) := by
  obtain ⟨cs, hrunM, hle, -⟩ := Lib.run_makeNoZero (P := Try.prog) w #[3] 22 5 Try.underlying22 k (by omega)
  have hcall : (callFunc 23 #[.int .i64 (k : Int)]).run Try.prog w = .ok (.value (.slice (some ⟨w.heap.size, 0, none⟩) k cs.size)) ((w.alloc (.cells cs 5)).drewN 2) := by
    rw [run_callFunc_extern Try.func23 (by kernel_rfl) (by kernel_rfl) (by kernel_rfl) (e := Extern.BytealgMakeNoZero.makeNoZero #[3] #[22]) (by kernel_rfl), hrunM]
    rfl
  clear hrunM
  have hz : ((k : Int) == 0) = false := by simp; omega
  have hn : ¬ ((k : Int) < 0) := by omega
  have hbig : ¬ ((9223372036854775807 : Int) < (k : Int)) := by omega
  have hbig2 : ¬ ((8192 : Int) < (k : Int)) := by omega
  have hF0 : Filled w ((w.alloc (.cells cs 5)).drewN 2) k x 0 cs.toList :=
    ⟨by rw [Array.toArray_toList]; exact (Whole.made _ _ _).drawn 2, by simpa using hle, rfl, below_drewN ((Below.refl w.heap.size w).alloc (Nat.le_refl _) (.cells cs 5)) 2⟩
  have hc1 : ((w.alloc (.cells cs 5)).drewN 2).cell? ⟨R, o, none⟩ = some (.int .u8 x) := by rw [World.cell?_drewN, World.cell?_alloc_lt _ _ _ hR]; exact hc
  have hsrc : ∀ (j : Nat) (v : Value), [Value.int .u8 (x : Int)][j]? = some v → ((w.alloc (.cells cs 5)).drewN 2).cell? ((⟨R, o, none⟩ : Addr).add j) = some v := fun j v h => by
    match j, h with
    | 0, h => simp at h; subst h; exact hc1
    | j + 1, h => simp at h
  have n1 : [Value.int .u8 (x : Int)].length = Nat.min 1 k := by show 1 = min 1 k; omega
  have HF := Lib.hid hF0
  have HS := Lib.hid hsrc
  have HN := Lib.hid n1
  clear hF0 hc1 hsrc n1 hc
  have i1 : (k : Int) ≤ (cs.size : Int) := by omega
  go_enter Try.func21, Try.ntmps21
  go_wp2_with (first
    | (go_at_call 22; refine (mul_one k _ hk2).mono ?_; rintro e w1 ⟨rfl, rfl⟩)
    | (refine wpList_copy_splice (o := ⟨some 60, _, _, _, _, _⟩) rfl (.tmp 58) (.tmp 59) 22 22 rfl 5 Try.underlying22 size8 _ _ _ _ _ _ rfl rfl w.heap.size 0 cs.toList 5 HF.out.row [.int .u8 (x : Int)] HN.out (fun _ => ⟨rfl, _, rfl, HS.out⟩) (by have := HF.out.size; simp at this ⊢; omega) (by simp [Value.oneCell']) w.heap.size w HF.out.below (Nat.le_refl _) ?_; intro w2 HG2 hB2))
  have H2 : Filled w w2 k x (0 + 1) (splice cs.toList 0 (List.replicate 1 (.int .u8 (x : Int)))) := HF.out.step (by omega) HG2.out hB2
  have HF2 := Lib.hid H2
  clear H2 HG2 hB2
  go_loopg [10] (k - 1) (fun g b wr => ∃ (bp : Nat) (cur : List Value), 1 ≤ bp ∧ g + bp = k ∧ b = .int .i64 bp ∧ Filled w wr k x bp cur)
  case atStart => exact ⟨1, _, by omega, by omega, rfl, HF2.out⟩
  case round =>
    obtain ⟨bp, cur, h1, hgk, rfl, hr⟩ := hrel
    have h2 : bp ≤ k := by omega
    have HGK := Lib.hid hgk
    clear hgk
    have HR := Lib.hid hr
    have hsz := hr.size
    clear hr
    by_cases hlt : bp < k
    · have hif : (if (k : Int) < (bp : Int) then (k : Int) else (bp : Int)) = (bp : Int) := by rw [if_neg (by omega)]
      have hkb : ¬ (k = bp) := by omega
      obtain ⟨m, hm, hm1, hm2⟩ : ∃ m, m = min bp (k - bp) ∧ m ≤ bp ∧ 1 ≤ m := ⟨_, rfl, by omega, by omega⟩
      have HM := Lib.hid (show (List.replicate m (Value.int .u8 (x : Int))).length = Nat.min bp (k - bp) by rw [List.length_replicate]; exact hm)
      have HE := Lib.hid hm
      have hwr : IntKind.i64.wrap ((bp : Int) + (m : Int)) = ((bp + m : Nat) : Int) := by rw [IntWalk.i64_in _ (by omega)]; omega
      clear hm
      go_wp2
      go_region_law ((refine step_copy_splice (o := ⟨some 74, _, _, _, _, _⟩) rfl (.tmp 70) (.tmp 73) 22 22 rfl 5 Try.underlying22 size8 (some ⟨w.heap.size, bp, none⟩) (some ⟨w.heap.size, 0, none⟩) (k - bp) (k - bp) bp k (by go_simp) (by go_simp) w.heap.size bp cur 5 HR.out.row.drawn1 (List.replicate m (.int .u8 (x : Int))) HM.out (fun _ => ⟨rfl, _, rfl, HR.out.src hm1⟩) (by rw [List.length_replicate]; have := HE.out; omega) (by intro v hv; rw [List.eq_of_mem_replicate hv]; rfl) w.heap.size w HR.out.below.drew (Nat.le_refl _) ?_; intro w3 HG3 hB3))
      have H3 := HR.out.step (m := m) (by have := HE.out; omega) HG3.out hB3
      have HF3 := Lib.hid H3
      clear H3 HG3 hB3
      go_wp2
      have hm3 := HE.out
      have hgk := HGK.out
      go_roundg (gk - m)
      case measure => omega
      case rel => exact ⟨bp + m, _, by omega, by omega, rfl, HF3.out⟩
    · obtain rfl : bp = k := by omega
      go_wp2
      go_ret
      exact ⟨_, rfl, Nat.le_refl _, HR.out.done hx hk2, HR.out.below⟩
end Go.Proofs.Ytbghmbcipekboaa
