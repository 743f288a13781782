/- token: the spans. -/
import Derived.Test.YtnjdnldoopgcpaaInfQ
namespace Go.Proofs.Ytnjdnldoopgcpaa
open Go.RowKit

def spCell (fst g i k : Nat) : Value := if k / 2 < i then (if k % 2 = 0 then .int .i64 (spanF fst g (k / 2) : Int) else .int .i64 (spanB g (k / 2) : Int)) else .int .i64 0
def spArr (fst g n i : Nat) : Array Value := ((List.range (n * 2)).map (spCell fst g i)).toArray
theorem spArr_size (fst g n i : Nat) : (spArr fst g n i).size = n * 2 := by simp [spArr]
theorem spArr_at {fst g n i k : Nat} (h : k < n * 2) : (spArr fst g n i)[k]? = some (spCell fst g i k) := by simp [spArr, h]
theorem spArr_step {fst g n i : Nat} (h : i < n) : ((spArr fst g n i).setIfInBounds (i * 2) (.int .i64 (spanF fst g i : Int))).setIfInBounds (i * 2 + 1) (.int .i64 (spanB g i : Int)) = spArr fst g n (i + 1) := by
  apply Array.ext_getElem?
  intro k
  rw [Array.getElem?_setIfInBounds, Array.getElem?_setIfInBounds, Array.size_setIfInBounds, spArr_size]
  by_cases hk : k < n * 2
  · rw [spArr_at hk, spArr_at hk]
    by_cases ha : i * 2 + 1 = k
    · rw [if_pos ha, if_pos (by omega)]
      congr 1
      unfold spCell
      rw [if_pos (by omega), if_neg (by omega), show k / 2 = i by omega]
    · rw [if_neg ha]
      by_cases hb : i * 2 = k
      · rw [if_pos hb, if_pos (by omega)]
        congr 1
        unfold spCell
        rw [if_pos (by omega), if_pos (by omega), show k / 2 = i by omega]
      · rw [if_neg hb]
        congr 1
        unfold spCell
        by_cases hc : k / 2 < i
        · rw [if_pos hc, if_pos (show k / 2 < i + 1 by omega)]
        · rw [if_neg hc, if_neg (by omega)]
  · rw [if_neg (by omega), if_neg (by omega), Array.getElem?_eq_none (by rw [spArr_size]; omega), Array.getElem?_eq_none (by rw [spArr_size]; omega)]
theorem spArr_zero (fst g n : Nat) : madeCells #[.int .i64 0, .int .i64 0] (n * 2) = spArr fst g n 0 := by
  apply Array.ext
  · simp [madeCells, spArr_size]
  · intro k h1 h2
    have hk : k < n * 2 := by simpa [spArr_size] using h2
    have e1 : (spArr fst g n 0)[k] = spCell fst g 0 k := by
      have := spArr_at (fst := fst) (g := g) (i := 0) hk
      rw [Array.getElem?_eq_getElem (by rw [spArr_size]; exact hk)] at this
      injection this
    rw [e1]
    unfold spCell
    rw [if_neg (by omega)]
    simp only [madeCells]
    rcases Nat.mod_two_eq_zero_or_one k with h | h <;> simp [h]
set_option maxRecDepth 100000 in
set_option maxHeartbeats 2000000 in
theorem spans_any (fst g n : Nat) (w : World) (hg : 1 ≤ g) (hg2 : g ≤ 100) (hn : n ≤ 100) (hF : ∀ i, i ≤ n → spanF fst g i ≤ 100000) (hB : ∀ i, i < n → spanB g i ≤ 13) :
    Calls Try.prog 59 #[.int .i64 (fst : Int), .int .i64 (n : Int), .int .i64 (g : Int)] w fun e w' => ∃ G, e = .returned (.slice (some ⟨G, 0, none⟩) n n) ∧ w.heap.size ≤ G ∧ Whole w' G 93 (spArr fst g n n) ∧ Below w.heap.size w w' := by
  have hmk : ∀ W, (Instr.makeSlice 69 (.int .i64 (n : Int)) (.int .i64 (n : Int))).run Try.prog W = .ok (.slice (some ⟨W.heap.size, 0, none⟩) n n) (W.alloc (.cells (madeCells #[.int .i64 0, .int .i64 0] (n * 2)) 93)) := fun W => by
    have hI : (Try.prog.info? 93).map (fun i => (i.zero, i.size, i.bytes)) = some (some (.agg #[.int .i64 0, .int .i64 0]), 2, 16) := by kernel_rfl
    cases hi : Try.prog.info? 93 with
    | none => rw [hi] at hI; cases hI
    | some i =>
      rw [hi] at hI
      injection hI with h
      injection h with hz h2
      injection h2 with hs hy
      have := run_make (P := Try.prog) W 69 93 i _ Try.underlying69 hi hz .i64 .i64 n n (by omega) (by omega) (by rw [hy]; omega) (by omega)
      simp only [Int.toNat_natCast, hs] at this
      exact this
  obtain ⟨wA, hwA⟩ : ∃ wA, w.alloc (.cells (madeCells #[.int .i64 0, .int .i64 0] (n * 2)) 93) = wA := ⟨_, rfl⟩
  have hbA : Below w.heap.size w wA := by rw [← hwA]; exact (Below.refl _ _).alloc (Nat.le_refl _) _
  have HG := Lib.hid (show Whole wA w.heap.size 93 (spArr fst g n 0) ∧ Below w.heap.size w wA from ⟨by rw [← hwA, ← spArr_zero]; exact Whole.made _ _ _, hbA⟩)
  have HF := Lib.hid (And.intro hF hB)
  clear hbA hF hB
  go_enter Try.func59, Try.ntmps59
  go_wp2_with fail
  go_loopw [0, 13] (fun s0 s13 wr => ∃ i : Nat, s13 = .int .i64 (i : Int) ∧ i ≤ n ∧ s0 = .int .i64 (spanF fst g i : Int) ∧ Hid (Whole wr w.heap.size 93 (spArr fst g n i) ∧ Below w.heap.size w wr)) (fun _ s13 _ => n - (intOf s13).toNat)
  case atStart => exact ⟨0, rfl, by omega, rfl, HG⟩
  case round =>
    clear HG
    obtain ⟨i, rfl, hi, rfl, HR⟩ := hrel
    by_cases hlt : i < n
    · have d1 : decide ((i : Int) < (n : Int)) = true := decide_eq_true (by omega)
      have hf1 := HF.out.1 i hi
      have hf2 := HF.out.1 (i + 1) (by omega)
      have hb13 := HF.out.2 i hlt
      have hst : spanF fst g (i + 1) = spanF fst g i + 2 ^ spanB g i := rfl
      have b1 : (0 : Int) ≤ (i : Int) := by omega
      have b2 : (i : Int) < (n : Int) := by omega
      have hgne : ¬ (g : Int) = 0 := by omega
      have q0 : wr.cell? ⟨w.heap.size, i * 2, none⟩ = some (spCell fst g i (i * 2)) := (HR.out.1.reads (i * 2)).trans (spArr_at (by omega))
      have q1 : wr.cell? ⟨w.heap.size, i * 2 + 1, none⟩ = some (spCell fst g i (i * 2 + 1)) := (HR.out.1.reads (i * 2 + 1)).trans (spArr_at (by omega))
      have ft := HR.out.1.thawed
      have lG := HR.out.1.lt
      obtain ⟨Q, hQ⟩ : ∃ Q, i / g = Q := ⟨_, rfl⟩
      have hdiv : Int.tdiv (i : Int) (g : Int) = (Q : Int) := by rw [Int.tdiv_eq_ediv_of_nonneg (by omega), ← hQ]; push_cast; rfl
      have hQi : Q ≤ 100 := by rw [← hQ]; exact Nat.le_trans (Nat.div_le_self _ _) (by omega)
      have ewq : IntKind.i64.wrap ((Q : Int) - 1) = (Q : Int) - 1 := by rw [IntKind.wrap_i64]; omega
      by_cases hbig : 2 ≤ Q
      · have hsb : spanB g i = Q - 1 := by unfold spanB; rw [hQ]
        have hpos : (0 : Int) < (Q : Int) - 1 := by omega
        have hX : (2 : Int) ^ (Q - 1) = ((2 ^ spanB g i : Nat) : Int) := by rw [hsb]; push_cast; rfl
        have hpw : 2 ^ spanB g i ≤ 8192 := Nat.le_trans (Nat.pow_le_pow_right (by decide) hb13) (by decide)
        have hset := (HR.out.1.set (i * 2) (.int .i64 (spanF fst g i : Int))).set (i * 2 + 1) (.int .i64 (spanB g i : Int))
        rw [spArr_step hlt] at hset
        have hbt : (Q : Int) - 1 = ((spanB g i : Nat) : Int) := by rw [hsb]; omega
        have HS := Lib.hid (And.intro hset (And.intro hbt (And.intro hX hst)))
        clear hset hbt hX
        go_wp2_with fail
        go_roundw
        case rel =>
          refine ⟨i + 1, by go_num, by omega, ?_, Lib.hid ⟨?_, ?_⟩⟩
          · rw [HS.out.2.2.1, HS.out.2.2.2, IntWalk.wrap64_in ((2 ^ spanB g i : Nat) : Int) (by omega), IntWalk.wrap64_in _ (by omega)]
            push_cast
            rfl
          · rw [HS.out.2.1]; exact HS.out.1
          · exact (HR.out.2.setCell (Nat.le_refl _) _).setCell (Nat.le_refl _) _
        case measure => simp [intOf]; omega
      · have hsb : spanB g i = 0 := by unfold spanB; omega
        have hpos : ¬ (0 : Int) < (Q : Int) - 1 := by omega
        have hset := (HR.out.1.set (i * 2) (.int .i64 (spanF fst g i : Int))).set (i * 2 + 1) (.int .i64 (spanB g i : Int))
        rw [spArr_step hlt, hsb] at hset
        rw [hsb, Nat.pow_zero] at hst
        have HS := Lib.hid (And.intro hset hst)
        clear hset hst hsb
        go_wp2_with fail
        go_roundw
        case rel =>
          refine ⟨i + 1, by go_num, by omega, ?_, Lib.hid ⟨HS.out.1, ?_⟩⟩
          · rw [HS.out.2]
            push_cast
            rfl
          · exact (HR.out.2.setCell (Nat.le_refl _) _).setCell (Nat.le_refl _) _
        case measure => simp [intOf]; omega
    · obtain rfl : i = n := by omega
      have d1 : decide ((i : Int) < (i : Int)) = false := by simp
      go_wp2_with fail
      go_ret
      exact ⟨w.heap.size, rfl, Nat.le_refl _, HR.out.1, HR.out.2⟩
end Go.Proofs.Ytnjdnldoopgcpaa
/- inflate: Tokens. -/
namespace Go.Proofs.Ytnjdnldoopgcpaa
open Go.RowKit

theorem own_of {w : World} {base z n g : Nat} {T : TypeId} {cs : Array Value} (hw : Whole w g T cs) (hb : base ≤ g) (hs : cs.size = n * z) (hn : n ≤ 1000) : w.ownsRow base T z (.slice (some ⟨g, 0, none⟩) n n) n cs.toList :=
  ⟨by rw [Array.length_toList, hs], .inr ⟨g, n, cs, rfl, hb, hw, Nat.le_refl _, by unfold maxLen; omega, hs, List.take_of_length_le (by rw [Array.length_toList, hs]; exact Nat.le_refl _)⟩⟩
theorem SpansAt.of_own {w : World} {base : Nat} {v : Value} {n : Nat} {l : List (Nat × Nat)} (h : w.ownsRow base 93 2 v n (l.map spV).flatten) : ∃ A c, v = .slice A n c ∧ SpansAt w A n c l := by
  obtain ⟨A, c, rfl, hr, -⟩ := RowAt.of_own (spV_all l) (by decide) h
  refine ⟨A, c, rfl, hr, fun R o e => ?_⟩
  subst e
  rcases h.2 with ⟨e, -⟩ | ⟨g, cap, cur, e, -, hw, -⟩
  · cases e
  · injection e with e1 e2 e3
    injection e1 with e1
    injection e1 with e1
    subst e1
    exact ⟨cur, hw⟩
theorem infoSp : (Try.prog.info? 93).map (fun i => (i.zero, i.size, i.bytes)) = some (some (.agg #[.int .i64 0, .int .i64 0]), 2, 16) := by kernel_rfl
theorem info_sp : ∃ i, Try.prog.info? 93 = some i ∧ i.zero = some (.agg #[.int .i64 0, .int .i64 0]) ∧ i.size = 2 ∧ i.bytes = 16 := by
  have h := infoSp
  cases hi : Try.prog.info? 93 with
  | none => rw [hi] at h; cases h
  | some i =>
    rw [hi] at h
    injection h with h
    injection h with h1 h2
    injection h2 with h2 h3
    exact ⟨i, rfl, h1, h2, h3⟩
def SpIs (n : Nat) (l : List (Nat × Nat)) (w : World) (e : Ending) (w' : World) : Prop := ∃ A c, e = .returned (.slice A n c) ∧ SpansAt w' A n c l ∧ Below w.heap.size w w'
theorem len_cells : (spArr 3 4 28 28).toList = ((spansL 3 28 4).map spV).flatten := by kernel_rfl
theorem dist_cells : (spArr 1 2 30 30).toList = ((spansL 1 30 2).map spV).flatten := by kernel_rfl
set_option maxRecDepth 100000 in
set_option maxHeartbeats 2000000 in
theorem dist_any (w : World) : Calls Try.prog 42 #[] w (SpIs 30 distT w) := by
  have HS := Lib.hid (spans_any 1 2 30 w (by decide) (by decide) (by decide) (by decide +kernel) (by decide +kernel))
  go_enter Try.func42, Try.ntmps42
  go_wp2_with fail
  refine HS.out.mono ?_
  rintro e w1 ⟨G, rfl, hG, hw, hb⟩
  have HW := Lib.hid (And.intro hG (And.intro hw hb))
  clear hG hw hb
  go_wp2_with fail
  go_ret
  have ho := own_of HW.out.2.1 HW.out.1 (spArr_size _ _ _ _) (by decide)
  rw [dist_cells] at ho
  obtain ⟨A, c, e, hs⟩ := SpansAt.of_own ho
  injection e with e1 e2 e3
  subst e1 e3
  exact ⟨_, _, rfl, hs, HW.out.2.2⟩
set_option maxRecDepth 100000 in
set_option maxHeartbeats 2000000 in
theorem lens_any (w : World) : Calls Try.prog 41 #[] w (SpIs 29 lensT w) := by
  obtain ⟨i0, hi0, hz0, hz1, hz2⟩ := info_sp
  have HS := Lib.hid (spans_any 3 4 28 w (by decide) (by decide) (by decide) (by decide +kernel) (by decide +kernel))
  go_enter Try.func41, Try.ntmps41
  go_wp2_with fail
  refine HS.out.mono ?_
  rintro e w1 ⟨G, rfl, hG, hw, hb⟩
  have ho := own_of hw hG (spArr_size _ _ _ _) (by decide)
  rw [len_cells] at ho
  have HO := Lib.hid ho
  have HB := Lib.hid hb
  have hsz := hb.size
  clear hG hw hb ho
  go_wp2_with (at_builtin; refine wpList_append_own _ rfl _ _ 69 rfl w.heap.size 93 i0 (.agg #[.int .i64 0, .int .i64 0]) 2 16 Try.underlying69 hi0 hz0 hz1 hz2 rfl (by decide) _ _ _ rfl (HO.out.alloc _) ⟨w1.heap.size, 0, none⟩ 1 1 [.int .i64 258, .int .i64 0] rfl rfl (World.news_of_block (cs := #[.int .i64 258, .int .i64 0]) (t := 93) (fr := (0, 0)) (heap_alloc_new _ _)) ?p1 ?p2 ?p3 ?p4 ?_)
  case p1 => simp [Value.oneCell']
  case p2 => unfold maxLen; omega
  case p3 => omega
  case p4 => first | omega | (simp; omega)
  intro v' w6 hown' hgrow _
  have hown2 : w6.ownsRow w.heap.size 93 2 v' 29 (lensT.map spV).flatten := by
    have e : ((spansL 3 28 4).map spV).flatten ++ [.int .i64 258, .int .i64 0] = (lensT.map spV).flatten := by unfold lensT; rw [List.map_append, List.flatten_append]; rfl
    rw [← e]
    exact hown'
  have hb6 := (HB.out.alloc hsz (.cells #[.int .i64 258, .int .i64 0] 93)).grown hgrow (by simp; omega) (fun j e => (own_lt HO.out e).1)
  obtain ⟨A, c, rfl, hs⟩ := SpansAt.of_own hown2
  have HZ := Lib.hid (And.intro hs hb6)
  clear hown' hgrow hown2 hb6 hs
  go_wp2_with fail
  go_ret
  exact ⟨A, c, rfl, HZ.out.1, HZ.out.2⟩
def TksAt (w : World) (A : Option Addr) (n c : Nat) (l : List Tk) : Prop := RowAt w A n c 3 (l.map tkV)
/-- What Tokens answers. -/
def TokIs (bs : List Nat) (most : Int) (w : World) (e : Ending) (w' : World) : Prop :=
  (∃ (toks : List Tk) (used : Nat) (A : Option Addr) (c : Nat), tokensP bs most = .ok (toks, used) ∧ e = .returned (.tuple #[.slice A toks.length c, .int .i64 (used : Int), .int .i64 0]) ∧ TksAt w' A toks.length c toks ∧ toks.length ≤ 1048576 ∧ used ≤ bs.length ∧ Below w.heap.size w w') ∨
  (∃ E, tokensP bs most = .error E ∧ E ≠ 0 ∧ e = .returned (.tuple #[.slice none 0 0, .int .i64 0, .int .i64 E]) ∧ Below w.heap.size w w')
theorem tokensP_ok {bs : List Nat} {most : Int} {a : Acc} {N L : Nat} (hm : 0 ≤ most ∧ most ≤ 1048576) (h : blocksP most FUEL ⟨[], 0⟩ (num bs) (8 * bs.length) = .ok (a, N, L)) : tokensP bs most = .ok (a.toks, bs.length - L / 8) := by
  unfold tokensP
  rw [if_pos hm, h]
theorem tokensP_er {bs : List Nat} {most : Int} {E : Int} (hm : 0 ≤ most ∧ most ≤ 1048576) (h : blocksP most FUEL ⟨[], 0⟩ (num bs) (8 * bs.length) = .error E) : tokensP bs most = .error E := by
  unfold tokensP
  rw [if_pos hm, h]
end Go.Proofs.Ytnjdnldoopgcpaa

