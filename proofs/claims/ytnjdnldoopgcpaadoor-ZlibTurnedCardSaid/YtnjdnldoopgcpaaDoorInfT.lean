/- token: the spans. -/
import Derived.Test.YtnjdnldoopgcpaaDoorInfQ
namespace Go.Proofs.YtnjdnldoopgcpaaDoor
open Go.RowKit

def spCell (fst g i k : Nat) : Value := if k / 2 < i then (if k % 2 = 0 then .int .i64 (spanF fst g (k / 2) : Int) else .int .i64 (spanB g (k / 2) : Int)) else .int .i64 0
def spArr (fst g n i : Nat) : Array Value := ((List.range (n * 2)).map (spCell fst g i)).toArray
theorem spArr_size (fst g n i : Nat) : (spArr fst g n i).size = n * 2 := by simp [spArr]
theorem spArr_at {fst g n i k : Nat} (h : k < n * 2) : (spArr fst g n i)[k]? = some (spCell fst g i k) := by simp [spArr, h]
theorem spArr_step {fst g n i : Nat} (h : i < n) : ((spArr fst g n i).setIfInBounds (i * 2) (.int .i64 (spanF fst g i : Int))).setIfInBounds (i * 2 + 1) (.int .i64 (spanB g i : Int)) = spArr fst g n (i + 1) := by
  apply Array.ext_getElem?
  intro k
  rw [Array.getElem?_setIfInBounds, Array.getElem?_setIfInBounds, Array.size_setIfInBounds, spArr_size]
  by_cases hk : k < n * 2
  · rw [spArr_at hk, spArr_at hk]
    by_cases ha : i * 2 + 1 = k
    · rw [if_pos ha, if_pos (by omega)]
      congr 1
      unfold spCell
      rw [if_pos (by omega), if_neg (by omega), show k / 2 = i by omega]
    · rw [if_neg ha]
      by_cases hb : i * 2 = k
      · rw [if_pos hb, if_pos (by omega)]
        congr 1
        unfold spCell
        rw [if_pos (by omega), if_pos (by omega), show k / 2 = i by omega]
      · rw [if_neg hb]
        congr 1
        unfold spCell
        by_cases hc : k / 2 < i
        · rw [if_pos hc, if_pos (show k / 2 < i + 1 by omega)]
        · rw [if_neg hc, if_neg (by omega)]
  · rw [if_neg (by omega), if_neg (by omega), Array.getElem?_eq_none (by rw [spArr_size]; omega), Array.getElem?_eq_none (by rw [spArr_size]; omega)]
theorem spArr_zero (fst g n : Nat) : madeCells #[.int .i64 0, .int .i64 0] (n * 2) = spArr fst g n 0 := by
  apply Array.ext
  · simp [madeCells, spArr_size]
  · intro k h1 h2
    have hk : k < n * 2 := by simpa [spArr_size] using h2
    have e1 : (spArr fst g n 0)[k] = spCell fst g 0 k := by
      have := spArr_at (fst := fst) (g := g) (i := 0) hk
      rw [Array.getElem?_eq_getElem (by rw [spArr_size]; exact hk)] at this
      injection this
    rw [e1]
    unfold spCell
    rw [if_neg (by omega)]
    simp only [madeCells]
    rcases Nat.mod_two_eq_zero_or_one k with h | h <;> simp [h]
set_option maxRecDepth 100000 in
set_option maxHeartbeats 2000000 in
theorem spans_any (fst g n : Nat) (w : World) (hg : 1 ≤ g) (hg2 : g ≤ 100) (hn : n ≤ 100) (hF : ∀ i, i ≤ n → spanF fst g i ≤ 100000) (hB : ∀ i, i < n → spanB g i ≤ 13) :
    Calls Tryd.prog 61 #[.int .i64 (fst : Int), .int .i64 (n : Int), .int .i64 (g : Int)] w fun e w' => ∃ G, e = .returned (.slice (some ⟨G, 0, none⟩) n n) ∧ w.heap.size ≤ G ∧ Whole w' G 112 (spArr fst g n n) ∧ Below w.heap.size w w' := by
  have hmk : ∀ W, (Instr.makeSlice 61 (.int .i64 (n : Int)) (.int .i64 (n : Int))).run Tryd.prog W = .ok (.slice (some ⟨W.heap.size, 0, none⟩) n n) (W.alloc (.cells (madeCells #[.int .i64 0, .int .i64 0] (n * 2)) 112)) := fun W => by
    have hI : (Tryd.prog.info? 112).map (fun i => (i.zero, i.size, i.bytes)) = some (some (.agg #[.int .i64 0, .int .i64 0]), 2, 16) := by kernel_rfl
    cases hi : Tryd.prog.info? 112 with
    | none => rw [hi] at hI; cases hI
    | some i =>
      rw [hi] at hI
      injection hI with h
      injection h with hz h2
      injection h2 with hs hy
      have := run_make (P := Tryd.prog) W 61 112 i _ Tryd.underlying61 hi hz .i64 .i64 n n (by omega) (by omega) (by rw [hy]; omega) (by omega)
      simp only [Int.toNat_natCast, hs] at this
      exact this
  obtain ⟨wA, hwA⟩ : ∃ wA, w.alloc (.cells (madeCells #[.int .i64 0, .int .i64 0] (n * 2)) 112) = wA := ⟨_, rfl⟩
  have hbA : Below w.heap.size w wA := by rw [← hwA]; exact (Below.refl _ _).alloc (Nat.le_refl _) _
  have HG := Lib.hid (show Whole wA w.heap.size 112 (spArr fst g n 0) ∧ Below w.heap.size w wA from ⟨by rw [← hwA, ← spArr_zero]; exact Whole.made _ _ _, hbA⟩)
  have HF := Lib.hid (And.intro hF hB)
  clear hbA hF hB
  go_enter Tryd.func61, Tryd.ntmps61
  go_wp2_with fail
  go_loopw [0, 13] (fun s0 s13 wr => ∃ i : Nat, s13 = .int .i64 (i : Int) ∧ i ≤ n ∧ s0 = .int .i64 (spanF fst g i : Int) ∧ Hid (Whole wr w.heap.size 112 (spArr fst g n i) ∧ Below w.heap.size w wr)) (fun _ s13 _ => n - (intOf s13).toNat)
  case atStart => exact ⟨0, rfl, by omega, rfl, HG⟩
  case round =>
    clear HG
    obtain ⟨i, rfl, hi, rfl, HR⟩ := hrel
    by_cases hlt : i < n
    · have d1 : decide ((i : Int) < (n : Int)) = true := decide_eq_true (by omega)
      have hf1 := HF.out.1 i hi
      have hf2 := HF.out.1 (i + 1) (by omega)
      have hb13 := HF.out.2 i hlt
      have hst : spanF fst g (i + 1) = spanF fst g i + 2 ^ spanB g i := rfl
      have b1 : (0 : Int) ≤ (i : Int) := by omega
      have b2 : (i : Int) < (n : Int) := by omega
      have hgne : ¬ (g : Int) = 0 := by omega
      have q0 : wr.cell? ⟨w.heap.size, i * 2, none⟩ = some (spCell fst g i (i * 2)) := (HR.out.1.reads (i * 2)).trans (spArr_at (by omega))
      have q1 : wr.cell? ⟨w.heap.size, i * 2 + 1, none⟩ = some (spCell fst g i (i * 2 + 1)) := (HR.out.1.reads (i * 2 + 1)).trans (spArr_at (by omega))
      have ft := HR.out.1.thawed
      have lG := HR.out.1.lt
      obtain ⟨Q, hQ⟩ : ∃ Q, i / g = Q := ⟨_, rfl⟩
      have hdiv : Int.tdiv (i : Int) (g : Int) = (Q : Int) := by rw [Int.tdiv_eq_ediv_of_nonneg (by omega), ← hQ]; push_cast; rfl
      have hQi : Q ≤ 100 := by rw [← hQ]; exact Nat.le_trans (Nat.div_le_self _ _) (by omega)
      have ewq : IntKind.i64.wrap ((Q : Int) - 1) = (Q : Int) - 1 := by rw [IntKind.wrap_i64]; omega
      by_cases hbig : 2 ≤ Q
      · have hsb : spanB g i = Q - 1 := by unfold spanB; rw [hQ]
        have hpos : (0 : Int) < (Q : Int) - 1 := by omega
        have hX : (2 : Int) ^ (Q - 1) = ((2 ^ spanB g i : Nat) : Int) := by rw [hsb]; push_cast; rfl
        have hpw : 2 ^ spanB g i ≤ 8192 := Nat.le_trans (Nat.pow_le_pow_right (by decide) hb13) (by decide)
        have hset := (HR.out.1.set (i * 2) (.int .i64 (spanF fst g i : Int))).set (i * 2 + 1) (.int .i64 (spanB g i : Int))
        rw [spArr_step hlt] at hset
        have hbt : (Q : Int) - 1 = ((spanB g i : Nat) : Int) := by rw [hsb]; omega
        have HS := Lib.hid (And.intro hset (And.intro hbt (And.intro hX hst)))
        clear hset hbt hX
        go_wp2_with fail
        go_roundw
        case rel =>
          refine ⟨i + 1, by go_num, by omega, ?_, Lib.hid ⟨?_, ?_⟩⟩
          · rw [HS.out.2.2.1, HS.out.2.2.2, IntWalk.wrap64_in ((2 ^ spanB g i : Nat) : Int) (by omega), IntWalk.wrap64_in _ (by omega)]
            push_cast
            rfl
          · rw [HS.out.2.1]; exact HS.out.1
          · exact (HR.out.2.setCell (Nat.le_refl _) _).setCell (Nat.le_refl _) _
        case measure => simp [intOf]; omega
      · have hsb : spanB g i = 0 := by unfold spanB; omega
        have hpos : ¬ (0 : Int) < (Q : Int) - 1 := by omega
        have hset := (HR.out.1.set (i * 2) (.int .i64 (spanF fst g i : Int))).set (i * 2 + 1) (.int .i64 (spanB g i : Int))
        rw [spArr_step hlt, hsb] at hset
        rw [hsb, Nat.pow_zero] at hst
        have HS := Lib.hid (And.intro hset hst)
        clear hset hst hsb
        go_wp2_with fail
        go_roundw
        case rel =>
          refine ⟨i + 1, by go_num, by omega, ?_, Lib.hid ⟨HS.out.1, ?_⟩⟩
          · rw [HS.out.2]
            push_cast
            rfl
          · exact (HR.out.2.setCell (Nat.le_refl _) _).setCell (Nat.le_refl _) _
        case measure => simp [intOf]; omega
    · obtain rfl : i = n := by omega
      have d1 : decide ((i : Int) < (i : Int)) = false := by simp
      go_wp2_with fail
      go_ret
      exact ⟨w.heap.size, rfl, Nat.le_refl _, HR.out.1, HR.out.2⟩
end Go.Proofs.YtnjdnldoopgcpaaDoor
/- inflate: Tokens. -/
namespace Go.Proofs.YtnjdnldoopgcpaaDoor
open Go.RowKit

theorem own_of {w : World} {base z n g : Nat} {T : TypeId} {cs : Array Value} (hw : Whole w g T cs) (hb : base ≤ g) (hs : cs.size = n * z) (hn : n ≤ 1000) : w.ownsRow base T z (.slice (some ⟨g, 0, none⟩) n n) n cs.toList :=
  ⟨by rw [Array.length_toList, hs], .inr ⟨g, n, cs, rfl, hb, hw, Nat.le_refl _, by unfold maxLen; omega, hs, List.take_of_length_le (by rw [Array.length_toList, hs]; exact Nat.le_refl _)⟩⟩
theorem SpansAt.of_own {w : World} {base : Nat} {v : Value} {n : Nat} {l : List (Nat × Nat)} (h : w.ownsRow base 112 2 v n (l.map spV).flatten) : ∃ A c, v = .slice A n c ∧ SpansAt w A n c l := by
  obtain ⟨A, c, rfl, hr, -⟩ := RowAt.of_own (spV_all l) (by decide) h
  refine ⟨A, c, rfl, hr, fun R o e => ?_⟩
  subst e
  rcases h.2 with ⟨e, -⟩ | ⟨g, cap, cur, e, -, hw, -⟩
  · cases e
  · injection e with e1 e2 e3
    injection e1 with e1
    injection e1 with e1
    subst e1
    exact ⟨cur, hw⟩
theorem infoSp : (Tryd.prog.info? 112).map (fun i => (i.zero, i.size, i.bytes)) = some (some (.agg #[.int .i64 0, .int .i64 0]), 2, 16) := by kernel_rfl
theorem info_sp : ∃ i, Tryd.prog.info? 112 = some i ∧ i.zero = some (.agg #[.int .i64 0, .int .i64 0]) ∧ i.size = 2 ∧ i.bytes = 16 := by
  have h := infoSp
  cases hi : Tryd.prog.info? 112 with
  | none => rw [hi] at h; cases h
  | some i =>
    rw [hi] at h
    injection h with h
    injection h with h1 h2
    injection h2 with h2 h3
    exact ⟨i, rfl, h1, h2, h3⟩
def SpIs (n : Nat) (l : List (Nat × Nat)) (w : World) (e : Ending) (w' : World) : Prop := ∃ A c, e = .returned (.slice A n c) ∧ SpansAt w' A n c l ∧ Below w.heap.size w w'
theorem len_cells : (spArr 3 4 28 28).toList = ((spansL 3 28 4).map spV).flatten := by kernel_rfl
theorem dist_cells : (spArr 1 2 30 30).toList = ((spansL 1 30 2).map spV).flatten := by kernel_rfl
set_option maxRecDepth 100000 in
set_option maxHeartbeats 2000000 in
theorem dist_any (w : World) : Calls Tryd.prog 44 #[] w (SpIs 30 distT w) := by
  have HS := Lib.hid (spans_any 1 2 30 w (by decide) (by decide) (by decide) (by decide +kernel) (by decide +kernel))
  go_enter Tryd.func44, Tryd.ntmps44
  go_wp2_with fail
  refine HS.out.mono ?_
  rintro e w1 ⟨G, rfl, hG, hw, hb⟩
  have HW := Lib.hid (And.intro hG (And.intro hw hb))
  clear hG hw hb
  go_wp2_with fail
  go_ret
  have ho := own_of HW.out.2.1 HW.out.1 (spArr_size _ _ _ _) (by decide)
  rw [dist_cells] at ho
  obtain ⟨A, c, e, hs⟩ := SpansAt.of_own ho
  injection e with e1 e2 e3
  subst e1 e3
  exact ⟨_, _, rfl, hs, HW.out.2.2⟩
set_option maxRecDepth 100000 in
set_option maxHeartbeats 2000000 in
theorem lens_any (w : World) : Calls Tryd.prog 43 #[] w (SpIs 29 lensT w) := by
  obtain ⟨i0, hi0, hz0, hz1, hz2⟩ := info_sp
  have HS := Lib.hid (spans_any 3 4 28 w (by decide) (by decide) (by decide) (by decide +kernel) (by decide +kernel))
  go_enter Tryd.func43, Tryd.ntmps43
  go_wp2_with fail
  refine HS.out.mono ?_
  rintro e w1 ⟨G, rfl, hG, hw, hb⟩
  have ho := own_of hw hG (spArr_size _ _ _ _) (by decide)
  rw [len_cells] at ho
  have HO := Lib.hid ho
  have HB := Lib.hid hb
  have hsz := hb.size
  clear hG hw hb ho
  go_wp2_with (at_builtin; refine wpList_append_own _ rfl _ _ 61 rfl w.heap.size 112 i0 (.agg #[.int .i64 0, .int .i64 0]) 2 16 Tryd.underlying61 hi0 hz0 hz1 hz2 rfl (by decide) _ _ _ rfl (HO.out.alloc _) ⟨w1.heap.size, 0, none⟩ 1 1 [.int .i64 258, .int .i64 0] rfl rfl (World.news_of_block (cs := #[.int .i64 258, .int .i64 0]) (t := 112) (fr := (0, 0)) (heap_alloc_new _ _)) ?p1 ?p2 ?p3 ?p4 ?_)
  case p1 => simp [Value.oneCell']
  case p2 => unfold maxLen; omega
  case p3 => omega
  case p4 => first | omega | (simp; omega)
  intro v' w6 hown' hgrow _
  have hown2 : w6.ownsRow w.heap.size 112 2 v' 29 (lensT.map spV).flatten := by
    have e : ((spansL 3 28 4).map spV).flatten ++ [.int .i64 258, .int .i64 0] = (lensT.map spV).flatten := by unfold lensT; rw [List.map_append, List.flatten_append]; rfl
    rw [← e]
    exact hown'
  have hb6 := (HB.out.alloc hsz (.cells #[.int .i64 258, .int .i64 0] 112)).grown hgrow (by simp; omega) (fun j e => (own_lt HO.out e).1)
  obtain ⟨A, c, rfl, hs⟩ := SpansAt.of_own hown2
  have HZ := Lib.hid (And.intro hs hb6)
  clear hown' hgrow hown2 hb6 hs
  go_wp2_with fail
  go_ret
  exact ⟨A, c, rfl, HZ.out.1, HZ.out.2⟩
/-- What newDecoder answers. -/
def NdIs (bs : List Nat) (most : Int) (w : World) (e : Ending) (w' : World) : Prop :=
  ∃ x : Cx, e = .returned (.pointer (some ⟨x.D, 0, none⟩)) ∧ x.base = w.heap.size ∧ x.most = most ∧ DecS x w' (.pointer none) (.pointer none) ⟨[], 0⟩ (num bs) (8 * bs.length) ∧ Below w.heap.size w w'
set_option maxRecDepth 100000 in
set_option maxHeartbeats 2000000 in
theorem newDec_any (A : Option Addr) (n c : Nat) (bs : List Nat) (most : Int) (w : World) (h : Bytes w A n c bs) (hn : n ≤ 100000000) (hm : 0 ≤ most ∧ most ≤ 1048576) :
    Calls Tryd.prog 29 #[.slice A n c, .int .i64 most] w (NdIs bs most w) := by
  have hl := h.len
  have HN := Lib.hid (newReader_any bs n c A w h (by omega))
  clear h
  go_enter Tryd.func29, Tryd.ntmps29
  go_wp2_with fail
  refine HN.out.mono ?_
  rintro e w1 ⟨B, R, rfl, hB, hR, hR2, hrd, hb⟩
  have H1 := Lib.hid (And.intro hrd (And.intro hR hb))
  clear hrd hR hb HN
  go_wp2_with fail
  refine (lens_any _).mono ?_
  rintro e w2 ⟨A1, c1, rfl, hs1, hb⟩
  have H2 := Lib.hid (And.intro hs1 (And.intro hb (H1.out.2.2.trans (hb.mono H1.out.2.2.size))))
  clear hs1 hb
  go_wp2_with fail
  refine (dist_any _).mono ?_
  rintro e w3 ⟨A2, c2, rfl, hs2, hb⟩
  have H3 := Lib.hid (And.intro hs2 (And.intro hb (H2.out.2.2.trans (hb.mono H2.out.2.2.size))))
  clear hs2 hb
  go_wp2_with fail
  go_ret
  have hrl := (H1.out.1.whole)
  obtain ⟨rc, hrw⟩ := hrl
  have hal : Below w3.heap.size w3 (w3.alloc (.cells #[.pointer (some ⟨B, 0, none⟩), .slice A1 29 c1, .slice A2 30 c2, .pointer none, .pointer none, .int .i64 most, .int .i64 0, .slice none 0 0] 66)) := (Below.refl _ _).alloc (Nat.le_refl _) _
  have hb13 : Below w1.heap.size w1 w3 := H2.out.2.1.trans (H3.out.2.1.mono H2.out.2.1.size)
  have hb14 := hb13.trans (hal.mono hb13.size)
  have hb24 := H3.out.2.1.trans (hal.mono H3.out.2.1.size)
  have hfr : ∀ {a b : World} (hb : Below a.heap.size a b), Fr (fun k => a.heap.size ≤ k) a b := fun hb => Fr.of_below hb
  refine ⟨⟨B, R, w3.heap.size, w.heap.size, most, A1, c1, A2, c2⟩, rfl, rfl, rfl, ⟨⟨.slice none 0 0, Whole.made _ _ _, World.ownsRow_nil _ _ _ _⟩, ?_, ?_, ?_, ?_, ⟨hB, ?_, ?_⟩, ?_, hm, ?_⟩, ?_⟩
  · exact H1.out.1.fr2 (hfr hb14) (by have := hrw.lt; omega) (fun cs hc e => by have := hc.lt; omega)
  · exact H2.out.1.fr (hfr hb24) (fun k cs hk e => by have := hk.lt; omega)
  · exact H3.out.1.fr (hfr hal) (fun k cs hk e => by have := hk.lt; omega)
  · exact Nat.lt_of_lt_of_le H1.out.2.1 hb14.size
  · exact H3.out.2.2.size
  · exact Nat.le_trans H3.out.2.2.size hal.size
  · show 8 * bs.length ≤ 1000000000; omega
  · exact ⟨Int.le_refl _, hm.1, Int.le_refl _⟩
  · exact H3.out.2.2.trans (hal.mono H3.out.2.2.size)
def TksAt (w : World) (A : Option Addr) (n c : Nat) (l : List Tk) : Prop := RowAt w A n c 3 (l.map tkV)
/-- What Tokens answers. -/
def TokIs (bs : List Nat) (most : Int) (w : World) (e : Ending) (w' : World) : Prop :=
  (∃ (toks : List Tk) (used : Nat) (A : Option Addr) (c : Nat), tokensP bs most = .ok (toks, used) ∧ e = .returned (.tuple #[.slice A toks.length c, .int .i64 (used : Int), .int .i64 0]) ∧ TksAt w' A toks.length c toks ∧ toks.length ≤ 1048576 ∧ used ≤ bs.length ∧ Below w.heap.size w w') ∨
  (∃ E, tokensP bs most = .error E ∧ E ≠ 0 ∧ e = .returned (.tuple #[.slice none 0 0, .int .i64 0, .int .i64 E]) ∧ Below w.heap.size w w')
theorem tokensP_ok {bs : List Nat} {most : Int} {a : Acc} {N L : Nat} (hm : 0 ≤ most ∧ most ≤ 1048576) (h : blocksP most FUEL ⟨[], 0⟩ (num bs) (8 * bs.length) = .ok (a, N, L)) : tokensP bs most = .ok (a.toks, bs.length - L / 8) := by
  unfold tokensP
  rw [if_pos hm, h]
theorem tokensP_er {bs : List Nat} {most : Int} {E : Int} (hm : 0 ≤ most ∧ most ≤ 1048576) (h : blocksP most FUEL ⟨[], 0⟩ (num bs) (8 * bs.length) = .error E) : tokensP bs most = .error E := by
  unfold tokensP
  rw [if_pos hm, h]
theorem allowed_any (most : Int) (w : World) : Calls Tryd.prog 21 #[.int .i64 most] w fun e w' => e = .returned (.bool (decide (0 ≤ most ∧ most ≤ 1048576))) ∧ Below w.heap.size w w' := by
  by_cases h1 : 0 ≤ most
  · by_cases h2 : most ≤ 1048576
    · rw [decide_eq_true (⟨h1, h2⟩ : 0 ≤ most ∧ most ≤ 1048576)]
      have d1 : decide (0 ≤ most) = true := decide_eq_true h1
      have d2 : decide (most ≤ 1048576) = true := decide_eq_true h2
      go_enter Tryd.func21, Tryd.ntmps21
      go_wp2_with fail
      go_ret
      exact ⟨rfl, Below.refl _ _⟩
    · rw [decide_eq_false (fun h => h2 h.2 : ¬ (0 ≤ most ∧ most ≤ 1048576))]
      have d1 : decide (0 ≤ most) = true := decide_eq_true h1
      have d2 : decide (most ≤ 1048576) = false := decide_eq_false h2
      go_enter Tryd.func21, Tryd.ntmps21
      go_wp2_with fail
      go_ret
      exact ⟨rfl, Below.refl _ _⟩
  · rw [decide_eq_false (fun h => h1 h.1 : ¬ (0 ≤ most ∧ most ≤ 1048576))]
    have d1 : decide (0 ≤ most) = false := decide_eq_false h1
    go_enter Tryd.func21, Tryd.ntmps21
    go_wp2_with fail
    go_ret
    exact ⟨rfl, Below.refl _ _⟩
set_option maxRecDepth 100000 in
set_option maxHeartbeats 2000000 in
theorem tokens_any (A : Option Addr) (n c : Nat) (bs : List Nat) (most : Int) (w : World) (h : Bytes w A n c bs) (hn : n ≤ 100000000) (hE : Env w) :
    Calls Tryd.prog 13 #[.slice A n c, .int .i64 most] w (TokIs bs most w) := by
  have hl := h.len
  have HAL := Lib.hid (allowed_any most w)
  have H0 := Lib.hid h
  have HEN := Lib.hid hE
  clear h hE
  by_cases hm : 0 ≤ most ∧ most ≤ 1048576
  · rw [decide_eq_true hm] at HAL
    go_enter Tryd.func13, Tryd.ntmps13
    go_wp2_with fail
    refine HAL.out.mono ?_
    rintro e w0 ⟨rfl, hb⟩
    have HB0 := Lib.hid hb
    clear hb HAL
    go_wp2_with fail
    refine (newDec_any A n c bs most w0 (H0.out.below HB0.out) hn hm).mono ?_
    rintro e w1 ⟨x, rfl, hbase, rfl, hd, hb⟩
    have HB1 := Lib.hid (HB0.out.trans (hb.mono HB0.out.size))
    have HLOW := Lib.hid hd.low
    have HBL := Lib.hid (blocks_any x _ _ ⟨[], 0⟩ (num bs) (8 * bs.length) w1 hd (.inl ⟨rfl, rfl⟩) (HEN.out.here HB1.out) (by rw [hbase]; exact Nat.le_trans HEN.out.1 HB0.out.size))
    have hbase2 : w.heap.size ≤ x.base := by rw [hbase]; exact HB0.out.size
    clear hd hb hbase
    go_wp2_with fail
    refine HBL.out.mono ?_
    rintro e w2 (⟨a', N', L', q3, q4, hp, rfl, hL, hd, hf⟩ | ⟨E, hp, hE, rfl, hf⟩)
    · have HB2 := Lib.hid (HB1.out.trans ((hf.below HLOW.out).mono hbase2))
      obtain ⟨v7, hw7, ho7⟩ := hd.whole
      obtain ⟨A7, c7, rfl, hr7, -⟩ := RowAt.of_own (tkV_all a'.toks) (by decide) ho7
      have lD := hw7.lt
      have q0 : w2.cell? ⟨x.D, 0, none⟩ = some (.pointer (some ⟨x.B, 0, none⟩)) := hw7.reads 0
      have q7 : w2.cell? ⟨x.D, 7, none⟩ = some (.slice A7 a'.toks.length c7) := hw7.reads 7
      have HQ := Lib.hid (And.intro lD (And.intro q0 q7))
      have HR7 := Lib.hid hr7
      have hmd := hd.made
      have hmo := hd.most
      have HC := Lib.hid (RD.left hd.rd.drew)
      have HZ := Lib.hid (show tokensP bs x.most = .ok (a'.toks, n - L' / 8) by rw [tokensP_ok hm hp, hl])
      have hdiv : Int.tdiv (L' : Int) 8 = ((L' / 8 : Nat) : Int) := by rw [Int.tdiv_eq_ediv_of_nonneg (by omega)]; push_cast; rfl
      have hLn : L' / 8 ≤ n := by omega
      clear hd hf hw7 ho7 hr7 hp q0 q7
      go_upto_region 7 with fail
      have HCC : Hid (∀ v, Below w2.heap.size w2 v → (fun v => v.cell? ⟨x.D, 0, none⟩ = some (.pointer (some ⟨x.B, 0, none⟩)) ∧ v.cell? ⟨x.D, 7, none⟩ = some (.slice A7 a'.toks.length c7)) v) := Lib.hid (fun v hb => ⟨(hb.cell (p := ⟨x.D, 0, none⟩) HQ.out.1).trans HQ.out.2.1, (hb.cell (p := ⟨x.D, 7, none⟩) HQ.out.1).trans HQ.out.2.2⟩)
      have hbd : Below w2.heap.size w2 w2.drew := (Below.refl w2.heap.size w2).drew
      have hS := HCC.out w2.drew hbd
      refine wp_region_C (fun v => v.cell? ⟨x.D, 0, none⟩ = some (.pointer (some ⟨x.B, 0, none⟩)) ∧ v.cell? ⟨x.D, 7, none⟩ = some (.slice A7 a'.toks.length c7)) (by kernel_rfl) ?_
      refine wpAnyC_take (i := 0) (v := ?v1) rfl (by kernel_rfl) (fun _ _ _ h => h) (Or.inl ⟨by rfl, ?y1⟩) hS ?r1
      case y1 => intro wq _; go_simp; all_goals (first | with_reducible rfl | go_num | (simp; done) | (simp; omega) | skip)
      try simp only [Act.put, List.setIfInBounds_toArray, List.set_cons_zero, List.set_cons_succ]
      refine wpAnyC_take (i := 1) (v := ?v2) rfl (by kernel_rfl) (fun _ _ _ h => h) (Or.inl ⟨by rfl, ?y2⟩) hS ?r2
      case y2 => intro wq _; go_simp; all_goals (first | with_reducible rfl | go_num | (simp; done) | (simp; omega) | skip)
      try simp only [Act.put, List.setIfInBounds_toArray, List.set_cons_zero, List.set_cons_succ]
      refine wpAnyC_take (i := 2) (v := ?v3) rfl (by kernel_rfl) (fun _ _ _ h => h) (Or.inl ⟨by rfl, ?y3⟩) hS ?r3
      case y3 => intro wq _; go_simp; all_goals (first | with_reducible rfl | go_num | (simp; done) | (simp; omega) | skip)
      try simp only [Act.put, List.setIfInBounds_toArray, List.set_cons_zero, List.set_cons_succ]
      refine wpAnyC_take (i := 3) (v := .slice A7 a'.toks.length c7) rfl (by kernel_rfl) (fun _ _ _ h => h) (Or.inl ⟨by rfl, ?y4⟩) hS ?r4
      case y4 => rintro wq ⟨-, c0⟩; go_simp; try with_reducible rfl
      try simp only [Act.put, List.setIfInBounds_toArray, List.set_cons_zero, List.set_cons_succ]
      refine wpAnyC_take (i := 4) (v := ?v5) rfl (by kernel_rfl) (fun _ _ _ h => h) (Or.inl ⟨by rfl, ?y5⟩) hS ?r5
      case y5 => intro wq _; go_simp; all_goals (first | with_reducible rfl | go_num | (simp; done) | (simp; omega) | skip)
      try simp only [Act.put, List.setIfInBounds_toArray, List.set_cons_zero, List.set_cons_succ]
      refine wpAnyC_take (i := 5) (v := ?v6) rfl (by kernel_rfl) (fun _ _ _ h => h) (Or.inl ⟨by rfl, ?y6⟩) hS ?r6
      case y6 => intro wq _; go_simp; all_goals (first | with_reducible rfl | go_num | (simp; done) | (simp; omega) | skip)
      try simp only [Act.put, List.setIfInBounds_toArray, List.set_cons_zero, List.set_cons_succ]
      refine wpAnyC_take (i := 6) (v := ?v7) rfl (by kernel_rfl) (fun _ _ _ h => h) (Or.inl ⟨by rfl, ?y7⟩) hS ?r7
      case y7 => intro wq _; go_simp; all_goals (first | with_reducible rfl | go_num | (simp; done) | (simp; omega) | skip)
      try simp only [Act.put, List.setIfInBounds_toArray, List.set_cons_zero, List.set_cons_succ]
      refine wpAnyC_take (i := 7) (v := ?v8) rfl (by kernel_rfl) (fun _ _ _ h => h) (Or.inl ⟨by rfl, ?y8⟩) hS ?r8
      case y8 => intro wq _; go_simp; all_goals (first | with_reducible rfl | go_num | (simp; done) | (simp; omega) | skip)
      try simp only [Act.put, List.setIfInBounds_toArray, List.set_cons_zero, List.set_cons_succ]
      refine wpAnyC_take (i := 8) (v := ?v9) rfl (by kernel_rfl) (fun _ _ _ h => h) (Or.inl ⟨by rfl, ?y9⟩) hS ?r9
      case y9 => intro wq _; go_simp; all_goals (first | with_reducible rfl | go_num | (simp; done) | (simp; omega) | skip)
      try simp only [Act.put, List.setIfInBounds_toArray, List.set_cons_zero, List.set_cons_succ]
      refine wpAnyC_take (i := 9) (v := .pointer (some ⟨x.B, 0, none⟩)) rfl (by kernel_rfl) (fun _ _ _ h => h) (Or.inl ⟨by rfl, ?y10⟩) hS ?r10
      case y10 => rintro wq ⟨c0, -⟩; go_simp; try with_reducible rfl
      try simp only [Act.put, List.setIfInBounds_toArray, List.set_cons_zero, List.set_cons_succ]
      refine wpAnyC_one (j := 10) (by kernel_rfl) rfl (fun K hK => ?_)
      go_simp
      go_at_call 31
      refine HC.out.mono ?_
      rintro e w3 ⟨rfl, j, hw3⟩
      have hb3 : Below w2.heap.size w2 w3 := by rw [hw3]; exact below_drewN hbd _
      clear hw3
      have hS := HCC.out w3 hb3
      go_wp2_with fail
      refine hK.out _ _ ⟨hS, ?_⟩
      clear hK K
      try simp only [Act.put, List.setIfInBounds_toArray, List.set_cons_zero, List.set_cons_succ]
      refine wpAnyC_take (i := 11) (v := .int .i64 ((L' / 8 : Nat) : Int)) rfl (by kernel_rfl) (fun _ _ _ h => h) (Or.inl ⟨by rfl, ?y11⟩) hS ?r11
      case y11 => intro wq _; go_simp; all_goals (first | (rw [IntKind.wrap_i64]; omega) | omega)
      try simp only [Act.put, List.setIfInBounds_toArray, List.set_cons_zero, List.set_cons_succ]
      refine wpAnyC_take (i := 12) (v := .int .i64 ((n - L' / 8 : Nat) : Int)) rfl (by kernel_rfl) (fun _ _ _ h => h) (Or.inl ⟨by rfl, ?y12⟩) hS ?r12
      case y12 => intro wq _; go_simp; all_goals (first | (rw [IntKind.wrap_i64]; omega) | omega)
      try simp only [Act.put, List.setIfInBounds_toArray, List.set_cons_zero, List.set_cons_succ]
      refine wpAnyC_take (i := 13) (v := ?v13) rfl (by kernel_rfl) (fun _ _ _ h => h) (Or.inl ⟨by rfl, ?y13⟩) hS ?r13
      case y13 => intro wq _; go_simp; all_goals (first | with_reducible rfl | go_num | (simp; done) | (simp; omega) | skip)
      try simp only [Act.put, List.setIfInBounds_toArray, List.set_cons_zero, List.set_cons_succ]
      refine wpAnyC_take (i := 14) (v := ?v14) rfl (by kernel_rfl) (fun _ _ _ h => h) (Or.inl ⟨by rfl, ?y14⟩) hS ?r14
      case y14 => intro wq _; go_simp; all_goals (first | with_reducible rfl | go_num | (simp; done) | (simp; omega) | skip)
      try simp only [Act.put, List.setIfInBounds_toArray, List.set_cons_zero, List.set_cons_succ]
      refine wpAnyC_take (i := 15) (v := ?v15) rfl (by kernel_rfl) (fun _ _ _ h => h) (Or.inl ⟨by rfl, ?y15⟩) hS ?r15
      case y15 => intro wq _; go_simp; all_goals (first | with_reducible rfl | go_num | (simp; done) | (simp; omega) | skip)
      try simp only [Act.put, List.setIfInBounds_toArray, List.set_cons_zero, List.set_cons_succ]
      refine wpAnyC_done (by kernel_rfl) ?_ _
      have HB3 := Lib.hid (HB2.out.trans (hb3.mono HB2.out.size))
      have HR3 := Lib.hid (HR7.out.below hb3)
      clear hb3 hS HCC hbd
      go_wp2_with fail
      go_ret3
      exact .inl ⟨a'.toks, n - L' / 8, A7, c7, HZ.out, rfl, HR3.out, by omega, by omega, HB3.out⟩
    · have d2 : (E != 0) = true := by simp [hE]
      have HB2 := Lib.hid (HB1.out.trans ((hf.below HLOW.out).mono hbase2))
      have HZ := Lib.hid (tokensP_er hm hp)
      clear hp hf
      go_wp2_with fail
      go_ret3
      exact .inr ⟨E, HZ.out, hE, rfl, HB2.out⟩
  · rw [decide_eq_false hm] at HAL
    have HT := Lib.hid (show tokensP bs most = .error 1 by unfold tokensP; rw [if_neg hm])
    clear hm
    go_enter Tryd.func13, Tryd.ntmps13
    go_wp2_with fail
    refine HAL.out.mono ?_
    rintro e w0 ⟨rfl, hb⟩
    have HB0 := Lib.hid hb
    clear hb
    go_wp2_with fail
    go_ret3
    exact .inr ⟨1, HT.out, by decide, rfl, HB0.out⟩
end Go.Proofs.YtnjdnldoopgcpaaDoor
