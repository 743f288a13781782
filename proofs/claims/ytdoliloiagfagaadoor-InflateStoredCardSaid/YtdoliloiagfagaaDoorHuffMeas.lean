/- Rows of ints among the arguments; the walk of huff's measure. -/
import Derived.Test.YtdoliloiagfagaaDoorHuffMath
import Derived.Test.YtdoliloiagfagaaDoorBitsWords
import Derived.Laws.Tables
namespace Go.Proofs.YtdoliloiagfagaaDoor
open Go.RowKit

/-- A slice that reads as ints, nil let in. -/
structure IntsAt (w : World) (A : Option Addr) (n c : Nat) (l : List Int) : Prop where
  len : l.length = n
  cap : n ≤ c
  top : c ≤ 9223372036854775807
  at_ : 0 < n → ∃ R o, A = some ⟨R, o, none⟩ ∧ R < w.heap.size ∧ ∀ (i : Nat) (x : Int), l[i]? = some x → w.cell? ⟨R, o + i, none⟩ = some (.int .i64 x)
theorem IntsAt.below {w w' : World} {A : Option Addr} {n c : Nat} {l : List Int} (h : IntsAt w A n c l) (hg : Below w.heap.size w w') : IntsAt w' A n c l :=
  ⟨h.len, h.cap, h.top, fun hn => by
    obtain ⟨R, o, e, hR, hc⟩ := h.at_ hn
    exact ⟨R, o, e, Nat.lt_of_lt_of_le hR hg.size, fun i x hx => (hg.cell (p := ⟨R, o + i, none⟩) hR).trans (hc i x hx)⟩⟩
/-- The counts of the first i lengths. -/
def cntArr (l : List Nat) (i : Nat) : Array Value := ((List.range 16).map fun k => Value.int .i64 (cnt l k i : Int)).toArray
theorem cntArr_at (l : List Nat) (i k : Nat) (h : k < 16) : (cntArr l i)[k]? = some (.int .i64 (cnt l k i : Int)) := by simp [cntArr, h]
theorem cntArr_size (l : List Nat) (i : Nat) : (cntArr l i).size = 16 := by simp [cntArr]
theorem cntArr_zero (l : List Nat) : cntArr l 0 = #[.int .i64 0, .int .i64 0, .int .i64 0, .int .i64 0, .int .i64 0, .int .i64 0, .int .i64 0, .int .i64 0, .int .i64 0, .int .i64 0, .int .i64 0, .int .i64 0, .int .i64 0, .int .i64 0, .int .i64 0, .int .i64 0] := by simp [cntArr, cnt_zero, List.range, List.range.loop]
theorem cntArr_succ {l : List Nat} {i x : Nat} (h : l[i]? = some x) : (cntArr l i).setIfInBounds x (.int .i64 ((cnt l x i : Int) + 1)) = cntArr l (i + 1) := by
  apply Array.toList_inj.1
  apply List.ext_getElem
  · simp [cntArr]
  · intro j h1 h2
    simp [cntArr] at h1 h2 ⊢
    rw [List.getElem_set, cnt_succ j h]
    by_cases e : x = j
    · subst e; simp
    · rw [if_neg e, if_neg e]; simp
theorem zerosAll : (#[.int .i64 0, .int .i64 0, .int .i64 0, .int .i64 0, .int .i64 0, .int .i64 0, .int .i64 0, .int .i64 0, .int .i64 0, .int .i64 0, .int .i64 0, .int .i64 0, .int .i64 0, .int .i64 0, .int .i64 0, .int .i64 0] : Array Value).all (·.oneCell') = true := by kernel_rfl
theorem sizeC : (Tryd.prog.info? 118).map (·.size) = some 16 := by kernel_rfl
theorem results_meas (tmps : Array Value) (w : World) (g : Nat) (cs : Array Value) (hp : tmps.getD 2 undef = .pointer (some ⟨g, 0, none⟩)) (hg : Whole w g 118 cs) (hs : cs.size = 16) :
    (results Tryd.f67 tmps).run Tryd.prog w = .ok (.tuple #[.agg cs, tmps.getD 3 undef, tmps.getD 4 undef]) w := by
  have hp' : tmps[2]?.getD undef = .pointer (some ⟨g, 0, none⟩) := by simpa using hp
  have hl := run_loadVar_row (P := Tryd.prog) w g 118 118 cs (0, 0) _ hg Tryd.underlying118 rfl (by rw [hs]; exact sizeC)
  simp [results, Tryd.results67, hp', asAddr, hl]
theorem setRow_whole {w : World} {g : Nat} {T : TypeId} {cs : Array Value} (cs' : Array Value) (h : Whole w g T cs) : Whole (w.setRow g cs') g T cs' := setRow_heap w g cs cs' T (0, 0) h
theorem setRow_below (w : World) {g B : Nat} (cs' : Array Value) (hB : B ≤ g) : Below B w (w.setRow g cs') := by
  refine ⟨rfl, rfl, rfl, by simp, fun k hk => ?_⟩
  simp only [World.setRow, Array.getElem?_modify]
  rw [if_neg (by omega)]
theorem share_add {l : List Nat} {i k : Nat} (h : l[i]? = some k) (hk : 0 < k) (hi : i ≤ 320) : wrap64 ((share l i : Int) + 32768 / 2 ^ k) = (share l (i + 1) : Int) := by
  have h1 := share_le l i
  have e : (32768 : Int) / 2 ^ k = ((32768 / 2 ^ k : Nat) : Int) := Int.natCast_ediv_pow 32768 k
  have h2 : 32768 / 2 ^ k ≤ 32768 := Nat.div_le_self _ _
  rw [share_succ h, if_pos hk, e]
  generalize 32768 / 2 ^ k = z at *
  rw [IntWalk.wrap64_in _ ⟨by omega, by omega⟩]
  omega
/-- Are these lengths? -/
def lensOk (l : List Int) : Prop := l.length ≤ 320 ∧ ∀ x ∈ l, 0 ≤ x ∧ x ≤ 15
def natsOf (l : List Int) : List Nat := l.map Int.toNat
theorem natsOf_at {l : List Int} {i : Nat} {x : Int} (h : l[i]? = some x) : (natsOf l)[i]? = some x.toNat := by simp [natsOf, h]
/-- What measure answers. -/
def Meas (l : List Int) (w : World) (e : Ending) (w' : World) : Prop :=
  Below w.heap.size w w' ∧
  ((¬ lensOk l ∧ e = .returned (.tuple #[.agg #[.int .i64 0, .int .i64 0, .int .i64 0, .int .i64 0, .int .i64 0, .int .i64 0, .int .i64 0, .int .i64 0, .int .i64 0, .int .i64 0, .int .i64 0, .int .i64 0, .int .i64 0, .int .i64 0, .int .i64 0, .int .i64 0], .int .i64 0, .int .i64 1])) ∨
   (lensOk l ∧ 32768 < share (natsOf l) l.length ∧ e = .returned (.tuple #[.agg #[.int .i64 0, .int .i64 0, .int .i64 0, .int .i64 0, .int .i64 0, .int .i64 0, .int .i64 0, .int .i64 0, .int .i64 0, .int .i64 0, .int .i64 0, .int .i64 0, .int .i64 0, .int .i64 0, .int .i64 0, .int .i64 0], .int .i64 0, .int .i64 4])) ∨
   (lensOk l ∧ share (natsOf l) l.length ≤ 32768 ∧ e = .returned (.tuple #[.agg (cntArr (natsOf l) l.length), .int .i64 (share (natsOf l) l.length : Int), .int .i64 0])))
set_option maxRecDepth 100000 in
set_option maxHeartbeats 4000000 in
theorem measure_any (A : Option Addr) (n c : Nat) (l : List Int) (w : World) (h : IntsAt w A n c l) :
    Calls Tryd.prog 67 #[.slice A n c] w (Meas l w) := by
  have hl := h.len
  subst hl
  have hcap := h.cap
  have htop := h.top
  have H := Lib.hid h
  clear h
  by_cases hn : 320 < l.length
  · go_enter Tryd.func67, Tryd.ntmps67
    go_wp2
    refine bodyPost_ret (v := .tuple #[.agg #[.int .i64 0, .int .i64 0, .int .i64 0, .int .i64 0, .int .i64 0, .int .i64 0, .int .i64 0, .int .i64 0, .int .i64 0, .int .i64 0, .int .i64 0, .int .i64 0, .int .i64 0, .int .i64 0, .int .i64 0, .int .i64 0], .int .i64 0, .int .i64 1]) ?_ rfl ⟨?_, .inl ⟨fun h => absurd h.1 (by omega), rfl⟩⟩
    · exact results_meas _ _ w.heap.size _ rfl (Whole.made _ _ _) rfl
    · exact (Below.refl _ _).alloc (Nat.le_refl _) _
  have hn : l.length ≤ 320 := by omega
  go_enter Tryd.func67, Tryd.ntmps67
  go_wp2
  go_loopw [6, 8, 16] (fun x _ y wr => ∃ i : Nat, i ≤ l.length ∧ y = .int .i64 i ∧ x = .int .i64 (share (natsOf l) i : Int) ∧ (∀ j x, j < i → l[j]? = some x → 0 ≤ x ∧ x ≤ 15) ∧
    Whole wr w.heap.size 118 #[.int .i64 0, .int .i64 0, .int .i64 0, .int .i64 0, .int .i64 0, .int .i64 0, .int .i64 0, .int .i64 0, .int .i64 0, .int .i64 0, .int .i64 0, .int .i64 0, .int .i64 0, .int .i64 0, .int .i64 0, .int .i64 0] ∧ Whole wr (w.heap.size + 1) 118 (cntArr (natsOf l) i) ∧ Below w.heap.size w wr) (fun _ _ y _ => l.length - (intOf y).toNat)
  case atStart =>
    refine ⟨0, by omega, rfl, by rw [share_zero]; rfl, fun j x h => absurd h (by omega), (Whole.made _ _ _).old _, ?_, ((Below.refl _ _).alloc (Nat.le_refl _) _).alloc (by simp) _⟩
    rw [cntArr_zero]
    have := Whole.made (w.alloc (.cells #[.int .i64 0, .int .i64 0, .int .i64 0, .int .i64 0, .int .i64 0, .int .i64 0, .int .i64 0, .int .i64 0, .int .i64 0, .int .i64 0, .int .i64 0, .int .i64 0, .int .i64 0, .int .i64 0, .int .i64 0, .int .i64 0] 118)) 118 #[.int .i64 0, .int .i64 0, .int .i64 0, .int .i64 0, .int .i64 0, .int .i64 0, .int .i64 0, .int .i64 0, .int .i64 0, .int .i64 0, .int .i64 0, .int .i64 0, .int .i64 0, .int .i64 0, .int .i64 0, .int .i64 0]
    simpa using this
  case round =>
    obtain ⟨i, hi, rfl, rfl, hok, hw2, hw5, hb⟩ := hrel
    have hsh := share_le (natsOf l) i
    have HR := Lib.hid (And.intro hok (And.intro hw2 (And.intro hw5 hb)))
    clear hok hw2 hw5 hb
    by_cases hlt : i < l.length
    · obtain ⟨R, o, hA, hR, hcell⟩ := H.out.at_ (by omega)
      obtain ⟨x, hx⟩ : ∃ x, l[i]? = some x := ⟨l[i], List.getElem?_eq_getElem hlt⟩
      have hc1 := (HR.out.2.2.2.cell (p := ⟨R, o + i, none⟩) hR).trans (hcell i x hx)
      have HX := Lib.hid hx
      have HA := Lib.hid hA
      clear hx hcell hA
      obtain rfl := HA.out
      by_cases hbad : x < 0 ∨ 15 < x
      · have hnot : Hid (¬ lensOk l) := by
          intro h
          have := h.2 x (List.mem_of_getElem? HX.out)
          omega
        have hd : (decide (x < 0) || decide (15 < x)) = true := by
          rcases hbad with h | h <;> simp [h]
        clear hd
        rcases hbad with hlo | hhi
        all_goals
          go_wp2_with (refine wpList_store_row rfl _ _ _ rfl w.heap.size #[.int .i64 0, .int .i64 0, .int .i64 0, .int .i64 0, .int .i64 0, .int .i64 0, .int .i64 0, .int .i64 0, .int .i64 0, .int .i64 0, .int .i64 0, .int .i64 0, .int .i64 0, .int .i64 0, .int .i64 0, .int .i64 0] rfl rfl 118 #[.int .i64 0, .int .i64 0, .int .i64 0, .int .i64 0, .int .i64 0, .int .i64 0, .int .i64 0, .int .i64 0, .int .i64 0, .int .i64 0, .int .i64 0, .int .i64 0, .int .i64 0, .int .i64 0, .int .i64 0, .int .i64 0] HR.out.2.1 sizeC rfl zerosAll ?_)
          refine bodyPost_ret (v := .tuple #[.agg #[.int .i64 0, .int .i64 0, .int .i64 0, .int .i64 0, .int .i64 0, .int .i64 0, .int .i64 0, .int .i64 0, .int .i64 0, .int .i64 0, .int .i64 0, .int .i64 0, .int .i64 0, .int .i64 0, .int .i64 0, .int .i64 0], .int .i64 0, .int .i64 1]) ?_ rfl ⟨?_, .inl ⟨hnot.out, rfl⟩⟩
          · exact results_meas _ _ w.heap.size _ rfl (setRow_whole _ HR.out.2.1) rfl
          · exact HR.out.2.2.2.trans (setRow_below _ _ (Nat.le_refl _))
      · obtain ⟨k, rfl⟩ : ∃ k : Nat, x = k := ⟨x.toNat, by omega⟩
        have hk15 : k ≤ 15 := by omega
        clear hbad
        have hxk : (natsOf l)[i]? = some k := by have := natsOf_at HX.out; simpa using this
        have HK := Lib.hid hxk
        clear hxk
        have hcs := cnt_le (natsOf l) k i
        have cg : wr.cell? ⟨w.heap.size + 1, k, none⟩ = some (.int .i64 (cnt (natsOf l) k i : Int)) := by rw [HR.out.2.2.1.reads]; exact cntArr_at _ _ _ (by omega)
        have fg := HR.out.2.2.1.thawed k
        have hne : w.heap.size ≠ w.heap.size + 1 := by omega
        have hrel : ∀ (j : Nat) (x : Int), j < i + 1 → l[j]? = some x → 0 ≤ x ∧ x ≤ 15 := fun j x hj hx => by
          rcases Nat.lt_or_ge j i with h | h
          · exact HR.out.1 j x h hx
          · obtain rfl : j = i := by omega
            rw [HX.out] at hx
            injection hx with hx
            omega
        have hset : Whole (wr.setCell ⟨w.heap.size + 1, k, none⟩ (.int .i64 ((cnt (natsOf l) k i : Int) + 1))) (w.heap.size + 1) 118 (cntArr (natsOf l) (i + 1)) := by
          have := HR.out.2.2.1.set k (.int .i64 ((cnt (natsOf l) k i : Int) + 1))
          rwa [cntArr_succ HK.out] at this
        have HQ := Lib.hid (And.intro hrel (And.intro (HR.out.2.1.away (p := ⟨w.heap.size + 1, k, none⟩) hne (.int .i64 ((cnt (natsOf l) k i : Int) + 1))) (And.intro hset (HR.out.2.2.2.setCell (p := ⟨w.heap.size + 1, k, none⟩) (by simp) (.int .i64 ((cnt (natsOf l) k i : Int) + 1))))))
        clear hrel hset hne
        by_cases hk0 : k = 0
        · subst hk0
          go_wp2
          go_roundw
          case rel => exact ⟨i + 1, by omega, by go_num, by rw [share_succ HK.out]; simp, HQ.out⟩
          case measure => simp [intOf]; omega
        · have hk1 : 0 < k := by omega
          go_wp2
          go_roundw
          case rel => exact ⟨i + 1, by omega, by go_num, congrArg (Value.int .i64) (share_add HK.out hk1 (by omega)), HQ.out⟩
          case measure => simp [intOf]; omega
    · obtain rfl : i = l.length := by omega
      have hlens : lensOk l := ⟨hn, fun x hx => by
        obtain ⟨j, hj, rfl⟩ := List.getElem_of_mem hx
        exact HR.out.1 j _ hj (List.getElem?_eq_getElem hj)⟩
      have HL := Lib.hid hlens
      clear hlens
      by_cases hov : 32768 < share (natsOf l) l.length
      · go_wp2_with (refine wpList_store_row rfl _ _ _ rfl w.heap.size #[.int .i64 0, .int .i64 0, .int .i64 0, .int .i64 0, .int .i64 0, .int .i64 0, .int .i64 0, .int .i64 0, .int .i64 0, .int .i64 0, .int .i64 0, .int .i64 0, .int .i64 0, .int .i64 0, .int .i64 0, .int .i64 0] rfl rfl 118 #[.int .i64 0, .int .i64 0, .int .i64 0, .int .i64 0, .int .i64 0, .int .i64 0, .int .i64 0, .int .i64 0, .int .i64 0, .int .i64 0, .int .i64 0, .int .i64 0, .int .i64 0, .int .i64 0, .int .i64 0, .int .i64 0] HR.out.2.1 sizeC rfl zerosAll ?_)
        refine bodyPost_ret (v := .tuple #[.agg #[.int .i64 0, .int .i64 0, .int .i64 0, .int .i64 0, .int .i64 0, .int .i64 0, .int .i64 0, .int .i64 0, .int .i64 0, .int .i64 0, .int .i64 0, .int .i64 0, .int .i64 0, .int .i64 0, .int .i64 0, .int .i64 0], .int .i64 0, .int .i64 4]) ?_ rfl ⟨?_, .inr (.inl ⟨HL.out, hov, rfl⟩)⟩
        · exact results_meas _ _ w.heap.size _ rfl (setRow_whole _ HR.out.2.1) rfl
        · exact HR.out.2.2.2.trans (setRow_below _ _ (Nat.le_refl _))
      · have hall : (cntArr (natsOf l) l.length).all (·.oneCell') = true := by
          rw [Array.all_eq_true_iff_forall_mem]
          intro x hx
          simp [cntArr] at hx
          obtain ⟨k, -, rfl⟩ := hx
          rfl
        have HA := Lib.hid hall
        clear hall
        go_wp2_with (first
          | (refine wpList_load_row rfl _ _ rfl (w.heap.size + 1) rfl 118 (cntArr (natsOf l) l.length) (0, 0) _ HR.out.2.2.1 Tryd.underlying118 rfl (by rw [cntArr_size]; exact sizeC) ?_)
          | (refine wpList_store_row rfl _ _ _ rfl w.heap.size (cntArr (natsOf l) l.length) rfl rfl 118 #[.int .i64 0, .int .i64 0, .int .i64 0, .int .i64 0, .int .i64 0, .int .i64 0, .int .i64 0, .int .i64 0, .int .i64 0, .int .i64 0, .int .i64 0, .int .i64 0, .int .i64 0, .int .i64 0, .int .i64 0, .int .i64 0] HR.out.2.1 (by rw [cntArr_size]; exact sizeC) (by rw [cntArr_size]; rfl) HA.out ?_))
        refine bodyPost_ret (v := .tuple #[.agg (cntArr (natsOf l) l.length), .int .i64 (share (natsOf l) l.length : Int), .int .i64 0]) ?_ rfl ⟨?_, .inr (.inr ⟨HL.out, by omega, rfl⟩)⟩
        · exact results_meas _ _ w.heap.size _ rfl (setRow_whole _ HR.out.2.1) (cntArr_size _ _)
        · exact HR.out.2.2.2.trans (setRow_below _ _ (Nat.le_refl _))
end Go.Proofs.YtdoliloiagfagaaDoor
