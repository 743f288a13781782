/- The plain mathematics of huff: how many have a length, the codes in their order. No program stands in it. -/
import Derived.Test.YtnjdnldoopgcpaaBitsPull
import Derived.Test.YtnjdnldoopgcpaaBitsWords
import Derived.Laws.Tables
import Derived.Deep.OwnRows
namespace Go.Proofs.Ytnjdnldoopgcpaa
open Go.RowKit

/-- How many of the first i have length k. -/
def cnt (l : List Nat) (k i : Nat) : Nat := (l.take i).countP (· == k)
theorem cnt_zero (l : List Nat) (k : Nat) : cnt l k 0 = 0 := by simp [cnt]
theorem cnt_succ {l : List Nat} {i x : Nat} (k : Nat) (h : l[i]? = some x) : cnt l k (i + 1) = cnt l k i + if x = k then 1 else 0 := by
  obtain ⟨hi, rfl⟩ := List.getElem?_eq_some_iff.1 h
  unfold cnt
  rw [List.take_succ_eq_append_getElem hi, List.countP_append]
  simp
theorem cnt_le (l : List Nat) (k i : Nat) : cnt l k i ≤ i := by
  unfold cnt
  exact Nat.le_trans List.countP_le_length (List.length_take_le _ _)
/-- The sum of the first i lengths' shares. -/
def share (l : List Nat) (i : Nat) : Nat := ((l.take i).map fun x => if 0 < x then 32768 / 2 ^ x else 0).sum
theorem share_zero (l : List Nat) : share l 0 = 0 := by simp [share]
theorem share_succ {l : List Nat} {i x : Nat} (h : l[i]? = some x) : share l (i + 1) = share l i + if 0 < x then 32768 / 2 ^ x else 0 := by
  obtain ⟨hi, rfl⟩ := List.getElem?_eq_some_iff.1 h
  unfold share
  rw [List.take_succ_eq_append_getElem hi, List.map_append, List.sum_append]
  simp
theorem share_le (l : List Nat) (i : Nat) : share l i ≤ 32768 * i := by
  induction i with
  | zero => simp [share_zero]
  | succ i ih =>
    by_cases h : i < l.length
    · rw [share_succ (List.getElem?_eq_getElem h)]
      have : (if 0 < l[i] then 32768 / 2 ^ l[i] else 0) ≤ 32768 := by
        split
        · exact Nat.div_le_self _ _
        · omega
      omega
    · have : share l (i + 1) = share l i := by
        unfold share
        rw [List.take_of_length_le (by omega), List.take_of_length_le (by omega)]
      omega
/-- The number behind the last code of a length. -/
def endC (l : List Nat) : Nat → Nat
  | 0 => 0
  | k + 1 => 2 * endC l k + cnt l (k + 1) l.length
theorem endC_le (l : List Nat) (h : l.length ≤ 320) (k : Nat) : endC l k ≤ 320 * (2 ^ k - 1) := by
  induction k with
  | zero => simp [endC]
  | succ k ih =>
    have := cnt_le l (k + 1) l.length
    have hp : 0 < 2 ^ k := Nat.two_pow_pos k
    unfold endC
    rw [Nat.pow_succ]
    omega
/-- The code of a symbol. -/
def codeOf (l : List Nat) (s x : Nat) : Nat := 2 * endC l (x - 1) + cnt l x s
end Go.Proofs.Ytnjdnldoopgcpaa
/- Rows of ints among the arguments; the walk of huff's measure. -/
namespace Go.Proofs.Ytnjdnldoopgcpaa
open Go.RowKit

/-- A slice that reads as ints, nil let in. -/
structure IntsAt (w : World) (A : Option Addr) (n c : Nat) (l : List Int) : Prop where
  len : l.length = n
  cap : n ≤ c
  top : c ≤ 9223372036854775807
  at_ : 0 < n → ∃ R o, A = some ⟨R, o, none⟩ ∧ R < w.heap.size ∧ ∀ (i : Nat) (x : Int), l[i]? = some x → w.cell? ⟨R, o + i, none⟩ = some (.int .i64 x)
theorem IntsAt.below {w w' : World} {A : Option Addr} {n c : Nat} {l : List Int} (h : IntsAt w A n c l) (hg : Below w.heap.size w w') : IntsAt w' A n c l :=
  ⟨h.len, h.cap, h.top, fun hn => by
    obtain ⟨R, o, e, hR, hc⟩ := h.at_ hn
    exact ⟨R, o, e, Nat.lt_of_lt_of_le hR hg.size, fun i x hx => (hg.cell (p := ⟨R, o + i, none⟩) hR).trans (hc i x hx)⟩⟩
/-- The counts of the first i lengths. -/
def cntArr (l : List Nat) (i : Nat) : Array Value := ((List.range 16).map fun k => Value.int .i64 (cnt l k i : Int)).toArray
theorem cntArr_at (l : List Nat) (i k : Nat) (h : k < 16) : (cntArr l i)[k]? = some (.int .i64 (cnt l k i : Int)) := by simp [cntArr, h]
theorem cntArr_size (l : List Nat) (i : Nat) : (cntArr l i).size = 16 := by simp [cntArr]
theorem cntArr_zero (l : List Nat) : cntArr l 0 = #[.int .i64 0, .int .i64 0, .int .i64 0, .int .i64 0, .int .i64 0, .int .i64 0, .int .i64 0, .int .i64 0, .int .i64 0, .int .i64 0, .int .i64 0, .int .i64 0, .int .i64 0, .int .i64 0, .int .i64 0, .int .i64 0] := by simp [cntArr, cnt_zero, List.range, List.range.loop]
theorem cntArr_succ {l : List Nat} {i x : Nat} (h : l[i]? = some x) : (cntArr l i).setIfInBounds x (.int .i64 ((cnt l x i : Int) + 1)) = cntArr l (i + 1) := by
  apply Array.toList_inj.1
  apply List.ext_getElem
  · simp [cntArr]
  · intro j h1 h2
    simp [cntArr] at h1 h2 ⊢
    rw [List.getElem_set, cnt_succ j h]
    by_cases e : x = j
    · subst e; simp
    · rw [if_neg e, if_neg e]; simp
theorem zerosAll : (#[.int .i64 0, .int .i64 0, .int .i64 0, .int .i64 0, .int .i64 0, .int .i64 0, .int .i64 0, .int .i64 0, .int .i64 0, .int .i64 0, .int .i64 0, .int .i64 0, .int .i64 0, .int .i64 0, .int .i64 0, .int .i64 0] : Array Value).all (·.oneCell') = true := by kernel_rfl
theorem sizeC : (Try.prog.info? 97).map (·.size) = some 16 := by kernel_rfl
theorem results_meas (tmps : Array Value) (w : World) (g : Nat) (cs : Array Value) (hp : tmps.getD 2 undef = .pointer (some ⟨g, 0, none⟩)) (hg : Whole w g 97 cs) (hs : cs.size = 16) :
    (results Try.f60 tmps).run Try.prog w = .ok (.tuple #[.agg cs, tmps.getD 3 undef, tmps.getD 4 undef]) w := by
  have hp' : tmps[2]?.getD undef = .pointer (some ⟨g, 0, none⟩) := by simpa using hp
  have hl := run_loadVar_row (P := Try.prog) w g 97 97 cs (0, 0) _ hg Try.underlying97 rfl (by rw [hs]; exact sizeC)
  simp [results, Try.results60, hp', asAddr, hl]
theorem setRow_whole {w : World} {g : Nat} {T : TypeId} {cs : Array Value} (cs' : Array Value) (h : Whole w g T cs) : Whole (w.setRow g cs') g T cs' := setRow_heap w g cs cs' T (0, 0) h
theorem setRow_below (w : World) {g B : Nat} (cs' : Array Value) (hB : B ≤ g) : Below B w (w.setRow g cs') := by
  refine ⟨rfl, rfl, rfl, by simp, fun k hk => ?_⟩
  simp only [World.setRow, Array.getElem?_modify]
  rw [if_neg (by omega)]
theorem share_add {l : List Nat} {i k : Nat} (h : l[i]? = some k) (hk : 0 < k) (hi : i ≤ 320) : wrap64 ((share l i : Int) + 32768 / 2 ^ k) = (share l (i + 1) : Int) := by
  have h1 := share_le l i
  have e : (32768 : Int) / 2 ^ k = ((32768 / 2 ^ k : Nat) : Int) := Int.natCast_ediv_pow 32768 k
  have h2 : 32768 / 2 ^ k ≤ 32768 := Nat.div_le_self _ _
  rw [share_succ h, if_pos hk, e]
  generalize 32768 / 2 ^ k = z at *
  rw [IntWalk.wrap64_in _ ⟨by omega, by omega⟩]
  omega
/-- Are these lengths? -/
def lensOk (l : List Int) : Prop := l.length ≤ 320 ∧ ∀ x ∈ l, 0 ≤ x ∧ x ≤ 15
def natsOf (l : List Int) : List Nat := l.map Int.toNat
theorem natsOf_at {l : List Int} {i : Nat} {x : Int} (h : l[i]? = some x) : (natsOf l)[i]? = some x.toNat := by simp [natsOf, h]
/-- What measure answers. -/
def Meas (l : List Int) (w : World) (e : Ending) (w' : World) : Prop :=
  Below w.heap.size w w' ∧
  ((¬ lensOk l ∧ e = .returned (.tuple #[.agg #[.int .i64 0, .int .i64 0, .int .i64 0, .int .i64 0, .int .i64 0, .int .i64 0, .int .i64 0, .int .i64 0, .int .i64 0, .int .i64 0, .int .i64 0, .int .i64 0, .int .i64 0, .int .i64 0, .int .i64 0, .int .i64 0], .int .i64 0, .int .i64 1])) ∨
   (lensOk l ∧ 32768 < share (natsOf l) l.length ∧ e = .returned (.tuple #[.agg #[.int .i64 0, .int .i64 0, .int .i64 0, .int .i64 0, .int .i64 0, .int .i64 0, .int .i64 0, .int .i64 0, .int .i64 0, .int .i64 0, .int .i64 0, .int .i64 0, .int .i64 0, .int .i64 0, .int .i64 0, .int .i64 0], .int .i64 0, .int .i64 4])) ∨
   (lensOk l ∧ share (natsOf l) l.length ≤ 32768 ∧ e = .returned (.tuple #[.agg (cntArr (natsOf l) l.length), .int .i64 (share (natsOf l) l.length : Int), .int .i64 0])))
set_option maxRecDepth 100000 in
set_option maxHeartbeats 4000000 in
theorem measure_any (A : Option Addr) (n c : Nat) (l : List Int) (w : World) (h : IntsAt w A n c l) :
    Calls Try.prog 60 #[.slice A n c] w (Meas l w) := by
  have hl := h.len
  subst hl
  have hcap := h.cap
  have htop := h.top
  have H := Lib.hid h
  clear h
  by_cases hn : 320 < l.length
  · go_enter Try.func60, Try.ntmps60
    go_wp2
    refine bodyPost_ret (v := .tuple #[.agg #[.int .i64 0, .int .i64 0, .int .i64 0, .int .i64 0, .int .i64 0, .int .i64 0, .int .i64 0, .int .i64 0, .int .i64 0, .int .i64 0, .int .i64 0, .int .i64 0, .int .i64 0, .int .i64 0, .int .i64 0, .int .i64 0], .int .i64 0, .int .i64 1]) ?_ rfl ⟨?_, .inl ⟨fun h => absurd h.1 (by omega), rfl⟩⟩
    · exact results_meas _ _ w.heap.size _ rfl (Whole.made _ _ _) rfl
    · exact (Below.refl _ _).alloc (Nat.le_refl _) _
  have hn : l.length ≤ 320 := by omega
  go_enter Try.func60, Try.ntmps60
  go_wp2
  go_loopw [6, 8, 16] (fun x _ y wr => ∃ i : Nat, i ≤ l.length ∧ y = .int .i64 i ∧ x = .int .i64 (share (natsOf l) i : Int) ∧ (∀ j x, j < i → l[j]? = some x → 0 ≤ x ∧ x ≤ 15) ∧
    Whole wr w.heap.size 97 #[.int .i64 0, .int .i64 0, .int .i64 0, .int .i64 0, .int .i64 0, .int .i64 0, .int .i64 0, .int .i64 0, .int .i64 0, .int .i64 0, .int .i64 0, .int .i64 0, .int .i64 0, .int .i64 0, .int .i64 0, .int .i64 0] ∧ Whole wr (w.heap.size + 1) 97 (cntArr (natsOf l) i) ∧ Below w.heap.size w wr) (fun _ _ y _ => l.length - (intOf y).toNat)
  case atStart =>
    refine ⟨0, by omega, rfl, by rw [share_zero]; rfl, fun j x h => absurd h (by omega), (Whole.made _ _ _).old _, ?_, ((Below.refl _ _).alloc (Nat.le_refl _) _).alloc (by simp) _⟩
    rw [cntArr_zero]
    have := Whole.made (w.alloc (.cells #[.int .i64 0, .int .i64 0, .int .i64 0, .int .i64 0, .int .i64 0, .int .i64 0, .int .i64 0, .int .i64 0, .int .i64 0, .int .i64 0, .int .i64 0, .int .i64 0, .int .i64 0, .int .i64 0, .int .i64 0, .int .i64 0] 97)) 97 #[.int .i64 0, .int .i64 0, .int .i64 0, .int .i64 0, .int .i64 0, .int .i64 0, .int .i64 0, .int .i64 0, .int .i64 0, .int .i64 0, .int .i64 0, .int .i64 0, .int .i64 0, .int .i64 0, .int .i64 0, .int .i64 0]
    simpa using this
  case round =>
    obtain ⟨i, hi, rfl, rfl, hok, hw2, hw5, hb⟩ := hrel
    have hsh := share_le (natsOf l) i
    have HR := Lib.hid (And.intro hok (And.intro hw2 (And.intro hw5 hb)))
    clear hok hw2 hw5 hb
    by_cases hlt : i < l.length
    · obtain ⟨R, o, hA, hR, hcell⟩ := H.out.at_ (by omega)
      obtain ⟨x, hx⟩ : ∃ x, l[i]? = some x := ⟨l[i], List.getElem?_eq_getElem hlt⟩
      have hc1 := (HR.out.2.2.2.cell (p := ⟨R, o + i, none⟩) hR).trans (hcell i x hx)
      have HX := Lib.hid hx
      have HA := Lib.hid hA
      clear hx hcell hA
      obtain rfl := HA.out
      by_cases hbad : x < 0 ∨ 15 < x
      · have hnot : Hid (¬ lensOk l) := by
          intro h
          have := h.2 x (List.mem_of_getElem? HX.out)
          omega
        have hd : (decide (x < 0) || decide (15 < x)) = true := by
          rcases hbad with h | h <;> simp [h]
        clear hd
        rcases hbad with hlo | hhi
        all_goals
          go_wp2_with (refine wpList_store_row rfl _ _ _ rfl w.heap.size #[.int .i64 0, .int .i64 0, .int .i64 0, .int .i64 0, .int .i64 0, .int .i64 0, .int .i64 0, .int .i64 0, .int .i64 0, .int .i64 0, .int .i64 0, .int .i64 0, .int .i64 0, .int .i64 0, .int .i64 0, .int .i64 0] rfl rfl 97 #[.int .i64 0, .int .i64 0, .int .i64 0, .int .i64 0, .int .i64 0, .int .i64 0, .int .i64 0, .int .i64 0, .int .i64 0, .int .i64 0, .int .i64 0, .int .i64 0, .int .i64 0, .int .i64 0, .int .i64 0, .int .i64 0] HR.out.2.1 sizeC rfl zerosAll ?_)
          refine bodyPost_ret (v := .tuple #[.agg #[.int .i64 0, .int .i64 0, .int .i64 0, .int .i64 0, .int .i64 0, .int .i64 0, .int .i64 0, .int .i64 0, .int .i64 0, .int .i64 0, .int .i64 0, .int .i64 0, .int .i64 0, .int .i64 0, .int .i64 0, .int .i64 0], .int .i64 0, .int .i64 1]) ?_ rfl ⟨?_, .inl ⟨hnot.out, rfl⟩⟩
          · exact results_meas _ _ w.heap.size _ rfl (setRow_whole _ HR.out.2.1) rfl
          · exact HR.out.2.2.2.trans (setRow_below _ _ (Nat.le_refl _))
      · obtain ⟨k, rfl⟩ : ∃ k : Nat, x = k := ⟨x.toNat, by omega⟩
        have hk15 : k ≤ 15 := by omega
        clear hbad
        have hxk : (natsOf l)[i]? = some k := by have := natsOf_at HX.out; simpa using this
        have HK := Lib.hid hxk
        clear hxk
        have hcs := cnt_le (natsOf l) k i
        have cg : wr.cell? ⟨w.heap.size + 1, k, none⟩ = some (.int .i64 (cnt (natsOf l) k i : Int)) := by rw [HR.out.2.2.1.reads]; exact cntArr_at _ _ _ (by omega)
        have fg := HR.out.2.2.1.thawed k
        have hne : w.heap.size ≠ w.heap.size + 1 := by omega
        have hrel : ∀ (j : Nat) (x : Int), j < i + 1 → l[j]? = some x → 0 ≤ x ∧ x ≤ 15 := fun j x hj hx => by
          rcases Nat.lt_or_ge j i with h | h
          · exact HR.out.1 j x h hx
          · obtain rfl : j = i := by omega
            rw [HX.out] at hx
            injection hx with hx
            omega
        have hset : Whole (wr.setCell ⟨w.heap.size + 1, k, none⟩ (.int .i64 ((cnt (natsOf l) k i : Int) + 1))) (w.heap.size + 1) 97 (cntArr (natsOf l) (i + 1)) := by
          have := HR.out.2.2.1.set k (.int .i64 ((cnt (natsOf l) k i : Int) + 1))
          rwa [cntArr_succ HK.out] at this
        have HQ := Lib.hid (And.intro hrel (And.intro (HR.out.2.1.away (p := ⟨w.heap.size + 1, k, none⟩) hne (.int .i64 ((cnt (natsOf l) k i : Int) + 1))) (And.intro hset (HR.out.2.2.2.setCell (p := ⟨w.heap.size + 1, k, none⟩) (by simp) (.int .i64 ((cnt (natsOf l) k i : Int) + 1))))))
        clear hrel hset hne
        by_cases hk0 : k = 0
        · subst hk0
          go_wp2
          go_roundw
          case rel => exact ⟨i + 1, by omega, by go_num, by rw [share_succ HK.out]; simp, HQ.out⟩
          case measure => simp [intOf]; omega
        · have hk1 : 0 < k := by omega
          go_wp2
          go_roundw
          case rel => exact ⟨i + 1, by omega, by go_num, congrArg (Value.int .i64) (share_add HK.out hk1 (by omega)), HQ.out⟩
          case measure => simp [intOf]; omega
    · obtain rfl : i = l.length := by omega
      have hlens : lensOk l := ⟨hn, fun x hx => by
        obtain ⟨j, hj, rfl⟩ := List.getElem_of_mem hx
        exact HR.out.1 j _ hj (List.getElem?_eq_getElem hj)⟩
      have HL := Lib.hid hlens
      clear hlens
      by_cases hov : 32768 < share (natsOf l) l.length
      · go_wp2_with (refine wpList_store_row rfl _ _ _ rfl w.heap.size #[.int .i64 0, .int .i64 0, .int .i64 0, .int .i64 0, .int .i64 0, .int .i64 0, .int .i64 0, .int .i64 0, .int .i64 0, .int .i64 0, .int .i64 0, .int .i64 0, .int .i64 0, .int .i64 0, .int .i64 0, .int .i64 0] rfl rfl 97 #[.int .i64 0, .int .i64 0, .int .i64 0, .int .i64 0, .int .i64 0, .int .i64 0, .int .i64 0, .int .i64 0, .int .i64 0, .int .i64 0, .int .i64 0, .int .i64 0, .int .i64 0, .int .i64 0, .int .i64 0, .int .i64 0] HR.out.2.1 sizeC rfl zerosAll ?_)
        refine bodyPost_ret (v := .tuple #[.agg #[.int .i64 0, .int .i64 0, .int .i64 0, .int .i64 0, .int .i64 0, .int .i64 0, .int .i64 0, .int .i64 0, .int .i64 0, .int .i64 0, .int .i64 0, .int .i64 0, .int .i64 0, .int .i64 0, .int .i64 0, .int .i64 0], .int .i64 0, .int .i64 4]) ?_ rfl ⟨?_, .inr (.inl ⟨HL.out, hov, rfl⟩)⟩
        · exact results_meas _ _ w.heap.size _ rfl (setRow_whole _ HR.out.2.1) rfl
        · exact HR.out.2.2.2.trans (setRow_below _ _ (Nat.le_refl _))
      · have hall : (cntArr (natsOf l) l.length).all (·.oneCell') = true := by
          rw [Array.all_eq_true_iff_forall_mem]
          intro x hx
          simp [cntArr] at hx
          obtain ⟨k, -, rfl⟩ := hx
          rfl
        have HA := Lib.hid hall
        clear hall
        go_wp2_with (first
          | (refine wpList_load_row rfl _ _ rfl (w.heap.size + 1) rfl 97 (cntArr (natsOf l) l.length) (0, 0) _ HR.out.2.2.1 Try.underlying97 rfl (by rw [cntArr_size]; exact sizeC) ?_)
          | (refine wpList_store_row rfl _ _ _ rfl w.heap.size (cntArr (natsOf l) l.length) rfl rfl 97 #[.int .i64 0, .int .i64 0, .int .i64 0, .int .i64 0, .int .i64 0, .int .i64 0, .int .i64 0, .int .i64 0, .int .i64 0, .int .i64 0, .int .i64 0, .int .i64 0, .int .i64 0, .int .i64 0, .int .i64 0, .int .i64 0] HR.out.2.1 (by rw [cntArr_size]; exact sizeC) (by rw [cntArr_size]; rfl) HA.out ?_))
        refine bodyPost_ret (v := .tuple #[.agg (cntArr (natsOf l) l.length), .int .i64 (share (natsOf l) l.length : Int), .int .i64 0]) ?_ rfl ⟨?_, .inr (.inr ⟨HL.out, by omega, rfl⟩)⟩
        · exact results_meas _ _ w.heap.size _ rfl (setRow_whole _ HR.out.2.1) (cntArr_size _ _)
        · exact HR.out.2.2.2.trans (setRow_below _ _ (Nat.le_refl _))
end Go.Proofs.Ytnjdnldoopgcpaa
/- huff's assign, for any closure that keeps an invariant. -/
namespace Go.Proofs.Ytnjdnldoopgcpaa
open Go.RowKit

/-- The code in round s of length L + 1. -/
def codeAt (l : List Int) (L s : Nat) : Nat := 2 * endC (natsOf l) L + cnt (natsOf l) (L + 1) s
theorem natsOf_length (l : List Int) : (natsOf l).length = l.length := by simp [natsOf]
theorem codeAt_end (l : List Int) (L : Nat) : codeAt l L l.length = endC (natsOf l) (L + 1) := by simp [codeAt, endC, natsOf_length]
theorem codeAt_zero (l : List Int) (L : Nat) : codeAt l L 0 = 2 * endC (natsOf l) L := by simp [codeAt, cnt_zero]
theorem codeAt_hit {l : List Int} {L s : Nat} (h : l[s]? = some ((L : Int) + 1)) : codeAt l L (s + 1) = codeAt l L s + 1 := by
  have := cnt_succ (L + 1) (natsOf_at h)
  have e : ((L : Int) + 1).toNat = L + 1 := by omega
  rw [e, if_pos rfl] at this
  simp [codeAt, this]
  omega
theorem codeAt_miss {l : List Int} {L s : Nat} {x : Int} (h : l[s]? = some x) (h0 : 0 ≤ x) (hx : x ≠ (L : Int) + 1) : codeAt l L (s + 1) = codeAt l L s := by
  have := cnt_succ (L + 1) (natsOf_at h)
  have hne : ¬ x.toNat = L + 1 := fun e => hx (by have := Int.toNat_of_nonneg h0; omega)
  rw [if_neg hne] at this
  simp [codeAt, this]
theorem codeAt_le (l : List Int) (hl : l.length ≤ 320) (L s : Nat) (hL : L < 15) (hs : s ≤ l.length) : codeAt l L s ≤ 20972160 := by
  have h1 := endC_le (natsOf l) (by rw [natsOf_length]; exact hl) L
  have h2 := cnt_le (natsOf l) (L + 1) s
  have h3 : 2 ^ L ≤ 2 ^ 15 := Nat.pow_le_pow_right (by decide) (by omega)
  unfold codeAt
  generalize 2 ^ L = z at *
  omega
theorem endC_small (l : List Int) (hl : l.length ≤ 320) (L : Nat) (hL : L ≤ 15) : endC (natsOf l) L ≤ 20972160 := by
  have h1 := endC_le (natsOf l) (by rw [natsOf_length]; exact hl) L
  have h3 : 2 ^ L ≤ 2 ^ 15 := Nat.pow_le_pow_right (by decide) (by omega)
  generalize 2 ^ L = z at *
  omega
theorem code_shift (x : Nat) (h : x ≤ 20972160) : wrap64 ((x : Int) * 2) = ((2 * x : Nat) : Int) := by
  rw [IntWalk.wrap64_in _ ⟨by omega, by omega⟩]
  omega
set_option maxRecDepth 100000 in
set_option maxHeartbeats 4000000 in
theorem assign_any (f : Nat) (capt : Array Value) (P : Nat → Nat → World → Prop) (A : Option Addr) (n c : Nat) (l : List Int) (w0 w : World) (hf : ∀ (args : Array Value) (w : World), (callFunc f args).run Try.prog w = .ok (.enter f args) w) (h : IntsAt w0 A n c l) (hok : lensOk l)
    (keep : ∀ (L s : Nat) (w' : World), P L s w' → Below w0.heap.size w0 w')
    (step : ∀ (L s : Nat) (w' : World), L < 15 → s < l.length → l[s]? = some ((L : Int) + 1) → P L s w' → Calls Try.prog f (#[.int .i64 s, .int .i64 (codeAt l L s : Int)] ++ capt) w' fun e w'' => e = .returned (.tuple #[]) ∧ P L (s + 1) w'')
    (skip : ∀ (L s : Nat) (w' : World) (x : Int), L < 15 → l[s]? = some x → x ≠ (L : Int) + 1 → P L s w' → P L (s + 1) w')
    (next : ∀ (L : Nat) (w' : World), L < 15 → P L l.length w' → P (L + 1) 0 w')
    (h0 : P 0 0 w) :
    Calls Try.prog 61 #[.slice A n c, .func (.func f) #[] capt] w fun e w' => e = .returned (.tuple #[]) ∧ P 15 0 w' := by
  have hl := h.len
  subst hl
  have hcap := h.cap
  have htop := h.top
  have hn := hok.1
  have H := Lib.hid h
  have HO := Lib.hid hok
  have HK := Lib.hid keep
  have HS := Lib.hid step
  have HI := Lib.hid skip
  have HN := Lib.hid next
  have H0 := Lib.hid h0
  clear h hok keep step skip next h0
  go_enter Try.func61, Try.ntmps61
  go_wp2
  go_loopw [4, 5, 6, 7] (fun x y _ _ wr => ∃ L : Nat, L ≤ 15 ∧ y = .int .i64 ((L : Int) + 1) ∧ x = .int .i64 (endC (natsOf l) L : Int) ∧ P L 0 wr) (fun _ y _ _ _ => 16 - (intOf y).toNat)
  case atStart => exact ⟨0, by omega, rfl, by simp [endC], H0.out⟩
  case round =>
    obtain ⟨L, hL, rfl, rfl, hp⟩ := hrel
    have hsm := endC_small l hn L hL
    have hsh := code_shift _ hsm
    have HP := Lib.hid hp
    clear hp
    by_cases hlt : L < 15
    · go_wp2
      go_loopw [4, 6, 7, 16] (fun x _ _ z ws => ∃ s : Nat, s ≤ l.length ∧ z = .int .i64 s ∧ x = .int .i64 (codeAt l L s : Int) ∧ P L s ws) (fun _ _ _ z _ => l.length - (intOf z).toNat)
      case atStart => exact ⟨0, by omega, rfl, congrArg (Value.int .i64) (by rw [codeAt_zero]; omega), HP.out⟩
      case round =>
        obtain ⟨s, hs, rfl, rfl, hp⟩ := hrel
        have hcl := codeAt_le l hn L s hlt hs
        have HP := Lib.hid hp
        clear hp
        by_cases hls : s < l.length
        · obtain ⟨R, o, hA, hR, hcell⟩ := H.out.at_ (by omega)
          obtain ⟨x, hx⟩ : ∃ x, l[s]? = some x := ⟨l[s], List.getElem?_eq_getElem hls⟩
          have hc1 := ((HK.out L s wr HP.out).cell (p := ⟨R, o + s, none⟩) hR).trans (hcell s x hx)
          have HX := Lib.hid hx
          have HA := Lib.hid hA
          clear hx hcell hA
          obtain rfl := HA.out
          by_cases he : x = (L : Int) + 1
          · subst he
            go_wp2_with fail
            refine (HS.out L s wr hlt hls HX.out HP.out).mono ?_
            rintro e w1 ⟨rfl, hp1⟩
            have HP1 := Lib.hid hp1
            clear hp1
            go_wp2
            have hd : decide ((L : Int) + 1 ≤ 15) = true := decide_eq_true (by omega)
            simp only [hd]
            go_roundw
            case rel => exact ⟨s + 1, by omega, by go_num, congrArg (Value.int .i64) (by rw [codeAt_hit HX.out]; omega), HP1.out⟩
            case measure => simp [intOf]; omega
          · have hpos := (HO.out.2 x (List.mem_of_getElem? HX.out)).1
            go_wp2
            go_roundw
            case rel => exact ⟨s + 1, by omega, by go_num, by rw [codeAt_miss HX.out hpos he], HI.out L s wr x hlt HX.out he HP.out⟩
            case measure => simp [intOf]; omega
        · obtain rfl : s = l.length := by omega
          go_wp2
          go_roundw
          case rel => exact ⟨L + 1, by omega, by go_num, by rw [codeAt_end], HN.out L wr hlt HP.out⟩
          case measure => simp [intOf]; omega
    · obtain rfl : L = 15 := by omega
      go_wp2
      go_end0
      exact ⟨rfl, HP.out⟩
end Go.Proofs.Ytnjdnldoopgcpaa
/- huff's Codes, for every row of lengths. -/
namespace Go.Proofs.Ytnjdnldoopgcpaa
open Go.RowKit

/-- The code that stands in cell j when assign is in round s of length L + 1. -/
def codeIn (l : List Int) (L s j : Nat) : Nat :=
  let x := (natsOf l).getD j 0
  if 0 < x ∧ (x ≤ L ∨ (x = L + 1 ∧ j < s)) then codeOf (natsOf l) j x else 0
def codesArr (l : List Int) (L s : Nat) : Array Value := ((List.range l.length).map fun j => Value.int .i64 (codeIn l L s j : Int)).toArray
theorem codesArr_size (l : List Int) (L s : Nat) : (codesArr l L s).size = l.length := by simp [codesArr]
theorem codesArr_at (l : List Int) (L s j : Nat) (h : j < l.length) : (codesArr l L s)[j]? = some (.int .i64 (codeIn l L s j : Int)) := by simp [codesArr, h]
theorem codesArr_congr {l : List Int} {L s L' s' : Nat} (h : ∀ j, j < l.length → codeIn l L s j = codeIn l L' s' j) : codesArr l L s = codesArr l L' s' := by
  unfold codesArr
  congr 1
  apply List.map_congr_left
  intro j hj
  rw [h j (List.mem_range.1 hj)]
theorem natsOf_getD {l : List Int} {s : Nat} {x : Int} (h : l[s]? = some x) : (natsOf l).getD s 0 = x.toNat := by
  rw [List.getD_eq_getElem?_getD, natsOf_at h]
  rfl
theorem codesArr_zero (l : List Int) : madeCells #[.int .i64 0] l.length = codesArr l 0 0 := by
  apply Array.ext_getElem?
  intro j
  by_cases h : j < l.length
  · rw [codesArr_at l 0 0 j h]
    have : codeIn l 0 0 j = 0 := by
      unfold codeIn
      simp only []
      rw [if_neg (by omega)]
    rw [this]
    simp [madeCells, h, Nat.mod_one]
  · rw [Array.getElem?_eq_none (by simp [madeCells]; omega), Array.getElem?_eq_none (by rw [codesArr_size]; omega)]
theorem codesArr_hit {l : List Int} {L s : Nat} (h : l[s]? = some ((L : Int) + 1)) : (codesArr l L s).setIfInBounds s (.int .i64 (codeAt l L s : Int)) = codesArr l L (s + 1) := by
  apply Array.ext_getElem?
  intro j
  have hs : s < l.length := (List.getElem?_eq_some_iff.1 h).1
  have hg := natsOf_getD h
  rw [Array.getElem?_setIfInBounds]
  by_cases hj : j < l.length
  · rw [codesArr_at l L (s + 1) j hj]
    by_cases e : s = j
    · subst e
      rw [if_pos rfl, if_pos (by rw [codesArr_size]; exact hs)]
      have : codeIn l L (s + 1) s = codeAt l L s := by
        unfold codeIn codeAt codeOf
        simp only [hg]
        rw [if_pos (by omega)]
        have e1 : ((L : Int) + 1).toNat = L + 1 := by omega
        rw [e1]
        rfl
      rw [this]
    · rw [if_neg e, codesArr_at l L s j hj]
      have : codeIn l L s j = codeIn l L (s + 1) j := by
        unfold codeIn
        have : (j < s) ↔ (j < s + 1) := by omega
        simp only [this]
      rw [this]
  · have e : s ≠ j := by omega
    rw [if_neg e, Array.getElem?_eq_none (by rw [codesArr_size]; omega), Array.getElem?_eq_none (by rw [codesArr_size]; omega)]
theorem codesArr_miss {l : List Int} {L s : Nat} {x : Int} (h : l[s]? = some x) (hx : x ≠ (L : Int) + 1) : codesArr l L s = codesArr l L (s + 1) := by
  apply codesArr_congr
  intro j _
  have hg := natsOf_getD h
  unfold codeIn
  by_cases e : j = s
  · subst e
    have : ¬ ((natsOf l).getD j 0 = L + 1) := by omega
    simp only [this, false_and]
  · have : (j < s) ↔ (j < s + 1) := by omega
    simp only [this]
theorem codesArr_next (l : List Int) (L : Nat) : codesArr l L l.length = codesArr l (L + 1) 0 := by
  apply codesArr_congr
  intro j hj
  unfold codeIn
  have : ((natsOf l).getD j 0 ≤ L ∨ ((natsOf l).getD j 0 = L + 1 ∧ j < l.length)) ↔ ((natsOf l).getD j 0 ≤ L + 1 ∨ ((natsOf l).getD j 0 = L + 1 + 1 ∧ j < 0)) := by omega
  simp only [this]

/-- What Codes$1 has caught, and the codes so far. -/
def CodesIn (w0 : World) (g v : Nat) (l : List Int) (L s : Nat) (w : World) : Prop :=
  Whole w g 3 (codesArr l L s) ∧ Whole w v 50 #[.slice (some ⟨g, 0, none⟩) l.length l.length] ∧ g ≠ v ∧ Below w0.heap.size w0 w ∧ w0.heap.size ≤ g
theorem codesIn_start (w W : World) (m : Nat) (l : List Int) (hb : Below w.heap.size w W) (hm : W.heap.size = m) :
    CodesIn w m (m + 1) l 0 0 ((W.alloc (.cells (madeCells #[.int .i64 0] l.length) 3)).alloc (.cells #[.slice (some ⟨m, 0, none⟩) l.length l.length] 50)) := by
  subst hm
  refine ⟨?_, ?_, by omega, (hb.alloc hb.size _).alloc (by have := hb.size; simp; omega) _, hb.size⟩
  · have := (Whole.made W 3 (madeCells #[.int .i64 0] l.length)).old (.cells #[.slice (some ⟨W.heap.size, 0, none⟩) l.length l.length] 50)
    rwa [codesArr_zero] at this ⊢
  · have := Whole.made (W.alloc (.cells (madeCells #[.int .i64 0] l.length) 3)) 50 #[.slice (some ⟨W.heap.size, 0, none⟩) l.length l.length]
    simpa using this
/-- What Codes answers. -/
def CodesAns (l : List Int) (w : World) (e : Ending) (w' : World) : Prop :=
  Below w.heap.size w w' ∧
  ((¬ lensOk l ∧ e = .returned (.tuple #[.slice none 0 0, .int .i64 1])) ∨
   (lensOk l ∧ 32768 < share (natsOf l) l.length ∧ e = .returned (.tuple #[.slice none 0 0, .int .i64 4])) ∨
   (lensOk l ∧ share (natsOf l) l.length ≤ 32768 ∧ ∃ g, w.heap.size ≤ g ∧ Whole w' g 3 (codesArr l 15 0) ∧ e = .returned (.tuple #[.slice (some ⟨g, 0, none⟩) l.length l.length, .int .i64 0])))
end Go.Proofs.Ytnjdnldoopgcpaa

