/- raster: rows of boxes appended; how many pixels there may be (the document's); more regions. -/
import Derived.Test.YtmleoagdelgddaaRasAw
import Derived.Laws.AppendOwnNone
import Derived.Laws.OwnMore
import Derived.Test.YtmleoagdelgddaaByteRow
import Derived.Laws.BytesString
import Derived.Laws.IdiomStrings
import Derived.Laws.BytesArg
import Derived.Maps.AppendAt
import Derived.Test.YtmleoagdelgddaaRasPc
namespace Go.Proofs.Ytmleoagdelgddaa
open Go.RowKit Dec

theorem bx_news {w : World} {R o n c : Nat} {l : List BV} (h : BxsAt w (some ⟨R, o, none⟩) n c l) (j : Nat) (u : Value) (hu : (rowBx l)[j]? = some u) : w.cell? ((⟨R, o, none⟩ : Addr).add j) = some u := by
  have hj : j < n * 8 := by
    have := (List.getElem?_eq_some_iff.1 hu).1
    rwa [rowBx_len, h.len] at this
  obtain ⟨R', o', e, _, hc⟩ := h.at_ (by omega)
  injection e with e
  injection e with e1 e2
  subst e1 e2
  have hi : j / 8 < l.length := by rw [h.len]; omega
  have hm : j % 8 < (bxV l[j / 8]).length := by rw [bxV_len]; omega
  have hat := hc (j / 8) l[j / 8] (List.getElem?_eq_getElem hi) (j % 8) _ (List.getElem?_eq_getElem hm)
  have hr := rowBx_at l (j / 8) l[j / 8] (j % 8) _ (List.getElem?_eq_getElem hi) (List.getElem?_eq_getElem hm)
  rw [show j / 8 * 8 + j % 8 = j by omega] at hr
  rw [hr] at hu
  rw [add_none rfl]
  rw [show o + j / 8 * 8 + j % 8 = o + j by omega] at hat
  rw [hat, hu]
theorem rowBx_one (l : List BV) : ∀ u ∈ rowBx l, u.oneCell' = true := by
  intro u hu
  obtain ⟨b, _, hb⟩ := List.mem_flatMap.1 hu
  simp [bxV] at hb
  rcases hb with rfl | rfl | rfl | rfl | rfl | rfl | rfl | rfl <;> rfl
theorem wp_none_bx {o : Oper} {a : Act} {K : Act → World → Prop} {Q : Exit → Act → World → Prop} {W : World} (s x : Operand)
    (ho : o.op = .call { callee := .builtin .append, args := #[s, x], argTypes := #[43, 43] })
    (base n : Nat) (v : Value) (xs : List Value) (hs : a.eval s = v) (hown : W.ownsRow base 52 8 v n xs) (hx : a.eval x = .slice none 0 0) (h : K (a.put o.dst v) W) : o.wp Try.prog a W K Q := by
  obtain ⟨i0, hi, hz0, hz1, hz2⟩ := info_bx
  have hrun := run_append_owned_none (P := Try.prog) (w := W) base 43 o.type 52 i0 8 Try.underlying43 hi v n xs hown
  unfold Oper.wp
  simp [execOp, ho, resolve, invoke, builtin, hs, hx, hrun, Result.andThen]
  exact h
set_option maxRecDepth 100000 in
theorem wp_app_bx {o : Oper} {a : Act} {K : Act → World → Prop} {Q : Exit → Act → World → Prop} {W : World} (s x : Operand)
    (ho : o.op = .call { callee := .builtin .append, args := #[s, x], argTypes := #[43, 43] })
    (g k n c c0 N : Nat) (A A0 : Option Addr) (l0 l L : List BV) (hN : k + n = N) (hL : l0 ++ l = L) (hs : a.eval s = .slice A0 k c0) (hown : W.ownsRow g 52 8 (.slice A0 k c0) k (rowBx l0)) (hg : g ≤ W.heap.size) (hx : a.eval x = .slice A n c) (hA : BxsAt W A n c l) (hz : A = none → n = 0 ∧ c = 0) (hn : n ≤ 100) (hk : k ≤ 100)
    (h : ∀ A' c' w', w'.ownsRow g 52 8 (.slice A' N c') N (rowBx L) → W.grownBy w' (Value.slice A0 k c0).ownBlock → K (a.put o.dst (.slice A' N c')) w') : o.wp Try.prog a W K Q := by
  subst hN hL
  obtain ⟨i0, hi, hz0, hz1, hz2⟩ := info_bx
  cases A with
  | none =>
    obtain ⟨rfl, rfl⟩ := hz rfl
    obtain rfl : l = [] := List.eq_nil_of_length_eq_zero hA.len
    have := h A0 c0 W (by rw [List.append_nil]; exact hown) (below_only (Below.refl _ _) _)
    exact wp_none_bx s x ho g k _ _ hs hown hx this
  | some ad =>
    have hnews : ∀ j u, (rowBx l)[j]? = some u → W.cell? (ad.add j) = some u := by
      intro j u hu
      have hj : j < n * 8 := by
        have := (List.getElem?_eq_some_iff.1 hu).1
        rwa [rowBx_len, hA.len] at this
      obtain ⟨R, q, e, _⟩ := hA.at_ (by omega)
      injection e with e
      subst e
      exact bx_news hA j u hu
    refine wp_append_own _ s x _ ho g 52 i0 (.agg #[.int .i64 0, .int .i64 0, .int .i64 0, .int .i64 0, .int .i64 0, .int .i64 0, .int .i64 0, .int .i64 0]) 8 64 Try.underlying43 hi hz0 hz1 hz2 rfl (by decide) _ _ _ hs hown ad n c (rowBx l) hx (by rw [rowBx_len, hA.len]) hnews (rowBx_one l) (by unfold maxLen; omega) (by omega) hg ?_
    intro v' w' hown' hgrow _
    have e : rowBx l0 ++ rowBx l = rowBx (l0 ++ l) := by unfold rowBx; rw [List.flatMap_append]
    rw [e] at hown'
    obtain ⟨A', c', rfl⟩ : ∃ a c, v' = .slice a (k + n) c := by
      rcases hown'.2 with ⟨rfl, e0⟩ | ⟨g, cap, cur, rfl, _⟩
      · exact ⟨none, 0, by rw [e0]⟩
      · exact ⟨_, _, rfl⟩
    exact h A' c' w' hown' hgrow
set_option maxRecDepth 100000 in
/-- The document's: may there be so many pixels? -/
theorem pixels_any (W H : Int) (w : World) : Calls Try.prog 21 #[.int .i64 W, .int .i64 H] w fun e w' => e = .returned (.bool (sizeB W H)) ∧ w = w' := by
  have d1' := Bool.eq_false_or_eq_true (decide (0 < W))
  by_cases h1 : 0 < W
  · have d1 : decide (0 < W) = true := decide_eq_true h1
    by_cases h2 : 0 < H
    · have d2 : decide (0 < H) = true := decide_eq_true h2
      by_cases h3 : W ≤ 65536
      · have d3 : decide (W ≤ 65536) = true := decide_eq_true h3
        by_cases h4 : H ≤ 65536
        · have d4 : decide (H ≤ 65536) = true := decide_eq_true h4
          obtain ⟨X, rfl⟩ : ∃ X : Nat, W = (X : Int) := ⟨W.toNat, by omega⟩
          obtain ⟨Z, rfl⟩ : ∃ Z : Nat, H = (Z : Int) := ⟨H.toNat, by omega⟩
          have hp : X * Z ≤ 65536 * 65536 := Nat.mul_le_mul (by omega) (by omega)
          have hs : sizeB (X : Int) (Z : Int) = decide ((((X * Z : Nat)) : Int) ≤ 65536) := by
            unfold sizeB
            rw [d1, d2, Bool.true_and, Bool.true_and, decide_eq_decide, Int.natCast_mul]
            exact Int.le_ediv_iff_mul_le (by omega)
          obtain ⟨P, hP⟩ : ∃ P, X * Z = P := ⟨_, rfl⟩
          rw [hP] at hs hp
          have m1 : IntKind.i64.wrap ((X : Int) * (Z : Int)) = (P : Int) := by rw [← Int.natCast_mul, hP, IntKind.wrap_i64]; omega
          have HS := Lib.hid hs
          clear hs hP d1'
          go_enter Try.func21, Try.ntmps21
          go_wp2_with fail
          go_ret
          exact ⟨by rw [HS.out]; rfl, rfl⟩
        · have d4 : decide (H ≤ 65536) = false := decide_eq_false h4
          have HS := Lib.hid (show sizeB W H = false by
            unfold sizeB
            have : ¬ W ≤ 65536 / H := fun k => by
              have := Int.mul_le_of_le_ediv (by omega : 0 < H) k
              have e : 1 * H ≤ W * H := Int.mul_le_mul_of_nonneg_right (by omega) (by omega)
              omega
            rw [d1, d2, decide_eq_false this]
            rfl)
          clear d1'
          go_enter Try.func21, Try.ntmps21
          go_wp2_with fail
          go_ret
          exact ⟨by rw [HS.out]; rfl, rfl⟩
      · have d3 : decide (W ≤ 65536) = false := decide_eq_false h3
        have HS := Lib.hid (show sizeB W H = false by
          unfold sizeB
          have : ¬ W ≤ 65536 / H := fun k => by
            have : 65536 / H ≤ 65536 := Int.ediv_le_self _ (by omega)
            omega
          rw [d1, d2, decide_eq_false this]
          rfl)
        clear d1'
        go_enter Try.func21, Try.ntmps21
        go_wp2_with fail
        go_ret
        exact ⟨by rw [HS.out]; rfl, rfl⟩
    · have d2 : decide (0 < H) = false := decide_eq_false h2
      have HS := Lib.hid (show sizeB W H = false by unfold sizeB; rw [d1, d2]; rfl)
      clear d1'
      go_enter Try.func21, Try.ntmps21
      go_wp2_with fail
      go_ret
      exact ⟨by rw [HS.out]; rfl, rfl⟩
  · have d1 : decide (0 < W) = false := decide_eq_false h1
    have HS := Lib.hid (show sizeB W H = false by unfold sizeB; rw [d1]; rfl)
    clear d1'
    go_enter Try.func21, Try.ntmps21
    go_wp2_with fail
    go_ret
    exact ⟨by rw [HS.out]; rfl, rfl⟩
theorem kp_zero {a b : Int} (h : kp a b = 0) : a = 0 ∧ b = 0 := by
  unfold kp at h
  split at h
  · rename_i e; exact ⟨e, h⟩
  · rename_i e; exact absurd h e
/-- An error stays with one region more; without an error none is told of fewer. -/
theorem covE_more {m : MV} {W H : Int} {l : List BV} {b : BV} (h : covE m W H l ≠ 0) : covE m W H (l ++ [b]) ≠ 0 := by
  intro e
  apply h
  unfold covE at e ⊢
  split at e
  · rename_i k
    rw [if_pos ⟨k.1, k.2.1, fun x hx => k.2.2 x (List.mem_append_left _ hx)⟩]
    rw [bE_snoc] at e
    obtain ⟨e1, e2⟩ := kp_zero e
    obtain ⟨e3, e4⟩ := kp_zero e2
    rw [e1, e3]
    rfl
  · exact absurd e (by decide)
theorem covE_none {m : MV} {W H : Int} {l : List BV} (h : covE m W H l = 0) : covE m W H [] = 0 := by
  unfold covE at h ⊢
  split at h
  · rename_i k
    rw [if_pos ⟨k.1, k.2.1, fun x hx => by simp at hx⟩]
    show kp _ 0 = 0
    rw [kp_0]
    unfold kp at h
    split at h
    · assumption
    · exact h
  · exact absurd h (by decide)
theorem cov_none (F : Nat → PV) (n X Z j : Nat) : cov F n X Z [] j = false := rfl
theorem cov_more {F : Nat → PV} {n X Z j : Nat} {l : List BV} {b : BV} (h : cov F n X Z l j = true) : cov F n X Z (l ++ [b]) j = true := by
  unfold cov nearL at h ⊢
  rw [List.filter_append, List.any_append, h, Bool.true_or]
end Go.Proofs.Ytmleoagdelgddaa
/- Texts of bytes; appends of bytes; bytes written out. -/
namespace Go.Proofs.Ytmleoagdelgddaa
open Go.RowKit

/-- The text of bytes. -/
def strB (bs : List Nat) : ByteArray := ⟨(bs.map UInt8.ofNat).toArray⟩
theorem Bytes.str {w : World} {A : Option Addr} {n c : Nat} {bs : List Nat} (h : Bytes w A n c bs) : (convert 22 9 (.slice A n c)).run Try.prog w = .ok (.string (strB bs)) w := by
  have hl := h.len
  by_cases hn : n = 0
  · subst hn
    obtain rfl : bs = [] := List.eq_nil_of_length_eq_zero hl
    cases A with
    | none => exact run_convert_bytes_nil w _ _ Try.underlying22 Try.underlying5 0 c _ Try.underlying9
    | some a => exact run_convert_bytes_back w _ _ _ a c [] Try.underlying22 Try.underlying5 Try.underlying9 (fun j hj => by simp at hj)
  · obtain ⟨R, o, rfl, hR, hc⟩ := h.at_ (by omega)
    have := run_convert_bytes_back (P := Try.prog) w 22 9 5 ⟨R, o, none⟩ c (bs.map UInt8.ofNat) Try.underlying22 Try.underlying5 Try.underlying9 (fun j hj => by
      have hj' : j < bs.length := by simpa using hj
      have e2 : (⟨R, o, none⟩ : Addr).add j = ⟨R, o + j, none⟩ := by
        unfold Addr.add; by_cases h0 : j = 0 <;> simp [h0]
      have hb := h.byte bs[j] (List.getElem_mem hj')
      rw [e2, hc j bs[j] (List.getElem?_eq_getElem hj')]
      simp only [List.getElem_map, UInt8.toNat_ofNat']
      rw [Nat.mod_eq_of_lt hb])
    rw [List.length_map, hl] at this
    exact this
theorem strB_ext {a b : List Nat} (ha : ∀ x ∈ a, x < 256) (hb : ∀ x ∈ b, x < 256) (h : strB a = strB b) : a = b := by
  have h1 : a.map UInt8.ofNat = b.map UInt8.ofNat := by
    have := congrArg (fun s : ByteArray => s.data.toList) h
    simpa [strB] using this
  have h2 := congrArg (List.map UInt8.toNat) h1
  rw [List.map_map, List.map_map] at h2
  have key : ∀ l : List Nat, (∀ x ∈ l, x < 256) → l.map (UInt8.toNat ∘ UInt8.ofNat) = l := by
    intro l hl
    induction l with
    | nil => rfl
    | cons x l ih =>
      rw [List.map_cons, ih (fun y hy => hl y (List.mem_cons_of_mem _ hy))]
      have := hl x (List.mem_cons_self ..)
      congr 1
      simp only [Function.comp, UInt8.toNat_ofNat']
      exact Nat.mod_eq_of_lt this
  rwa [key a ha, key b hb] at h2
set_option maxRecDepth 100000 in
/-- append of bytes, wherever they lie, nil let in, to a row of the call's own. -/
theorem run_app (W : World) (ty : TypeId) (base n m c : Nat) (v : Value) (xs ys : List Nat) (A : Option Addr) (hown : W.ownsRow base 5 1 v n (bvs xs)) (hy : Bytes W A m c ys) (hm : n + m ≤ 100000000) (hb : base ≤ W.heap.size) :
    ∃ v' w', (Builtin.append_ #[22, 22] ty #[v, .slice A m c]).run Try.prog W = .ok v' w' ∧ w'.ownsRow base 5 1 v' (n + m) (bvs (xs ++ ys)) ∧ W.grownBy w' v.ownBlock := by
  obtain ⟨i0, hi, hz0, hz1, hz2⟩ := info_parts info8
  have hl := hy.len
  rw [bvs_append]
  cases A with
  | none =>
    have h0 : m = 0 := by
      rcases Nat.eq_zero_or_pos m with h0 | h0
      · exact h0
      · obtain ⟨R, o, e, _⟩ := hy.at_ h0
        cases e
    subst h0
    obtain rfl : ys = [] := List.eq_nil_of_length_eq_zero hl
    refine ⟨v, W, ?_, by simpa [bvs] using hown, World.grownBy.refl W _⟩
    rcases hown.2 with ⟨rfl, -⟩ | ⟨g, cap, cur, rfl, -, -, hnc, -⟩
    · simp [Builtin.append_, run_underlying Try.underlying22, sizeOf, typeInfo, hi, Builtin.lenOf, Builtin.firstCells]
    · simp [Builtin.append_, run_underlying Try.underlying22, sizeOf, typeInfo, hi, Builtin.lenOf, Builtin.firstCells, hnc, storeCells]
  | some ad =>
    have hc : ∀ (j : Nat) (u : Value), (bvs ys)[j]? = some u → W.cell? (ad.add j) = some u := fun j u hu => by
      obtain ⟨b, hb, rfl⟩ := bvs_at hu
      have hj := (List.getElem?_eq_some_iff.1 hb).1
      obtain ⟨R, o, e, _, hc⟩ := hy.at_ (by omega)
      injection e with e
      subst e
      have e2 : (⟨R, o, none⟩ : Addr).add j = ⟨R, o + j, none⟩ := by
        unfold Addr.add; by_cases h0 : j = 0 <;> simp [h0]
      rw [e2]
      exact hc j b hb
    obtain ⟨v', w', h1, h2, h3, -⟩ := run_append_own_at (P := Try.prog) W base 22 ty 5 i0 (.int .u8 0) 1 1 Try.underlying22 hi hz0 hz1 hz2 rfl (by omega) v n (bvs xs) hown ad m c (bvs ys) (by rw [bvs_length, hl, Nat.mul_one]) hc (bvs_one ys) (by unfold maxLen; omega) (by omega) hb
    exact ⟨v', w', h1, h2, h3⟩
set_option maxRecDepth 100000 in
theorem wpList_app {ops : Array Oper} {rest : List Oper} {o : Oper} {a : Act} {Q : Exit → Act → World → Prop} {W : World} (hgd : o.guard = none) (s x : Operand)
    (ho : o.op = .call { callee := .builtin .append, args := #[s, x], argTypes := #[22, 22] })
    (base n m c : Nat) (v : Value) (xs ys : List Nat) (A : Option Addr) (hs : a.eval s = v) (hx : a.eval x = .slice A m c)
    (hown : W.ownsRow base 5 1 v n (bvs xs)) (hy : Bytes W A m c ys) (hm : n + m ≤ 100000000) (hb : base ≤ W.heap.size)
    (h : ∀ v' w', w'.ownsRow base 5 1 v' (n + m) (bvs (xs ++ ys)) → W.grownBy w' v.ownBlock → wpList Try.prog ops Q rest (a.put o.dst v') w') : wpList Try.prog ops Q (o :: rest) a W := by
  obtain ⟨v', w', h1, h2, h3⟩ := run_app W o.type base n m c v xs ys A hown hy hm hb
  refine wpList_plain hgd fun K hK => ?_
  unfold Oper.wp
  simp [execOp, ho, resolve, invoke, builtin, hs, hx, h1, Result.andThen]
  exact hK _ _ (h v' w' h2 h3)
/-- Bytes written out, in a block of their own. -/
theorem bytes_lit (w : World) (bs : List Nat) (hb : ∀ b ∈ bs, b < 256) (hl : bs.length ≤ 100000000) : Bytes (w.alloc (.cells (bvs bs).toArray 5)) (some ⟨w.heap.size, 0, none⟩) bs.length bs.length bs :=
  ⟨rfl, Nat.le_refl _, by omega, hb, fun _ => ⟨w.heap.size, 0, rfl, by simp, fun i b hi => by
    rw [(Whole.made w 5 (bvs bs).toArray).reads, Nat.zero_add, List.getElem?_toArray]
    simp [bvs, hi]⟩⟩
theorem bytes_marked (w : World) (bs : List Nat) (fr : Nat × Nat) (hb : ∀ b ∈ bs, b < 256) (hl : bs.length ≤ 100000000) : Bytes (w.alloc (.cells (bvs bs).toArray 5 fr)) (some ⟨w.heap.size, 0, none⟩) bs.length bs.length bs :=
  ⟨rfl, Nat.le_refl _, by omega, hb, fun _ => ⟨w.heap.size, 0, rfl, by simp, fun i b hi => by
    rw [cell_of_row _ w.heap.size (0 + i) (bvs bs).toArray 5 fr (heap_alloc_new w _), Nat.zero_add, List.getElem?_toArray]
    simp [bvs, hi]⟩⟩
theorem own_lit (w : World) (bs : List Nat) (hl : bs.length ≤ 100000000) : (w.alloc (.cells (bvs bs).toArray 5)).ownsRow w.heap.size 5 1 (.slice (some ⟨w.heap.size, 0, none⟩) bs.length bs.length) bs.length (bvs bs) :=
  ⟨by rw [bvs_length, Nat.mul_one], .inr ⟨_, bs.length, (bvs bs).toArray, rfl, Nat.le_refl _, heap_alloc_new w _, Nat.le_refl _, by unfold maxLen; omega, by simp [bvs], by
    show List.take (bs.length * 1) (bvs bs).toArray.toList = bvs bs
    exact List.take_of_length_le (by rw [bvs_length, Nat.mul_one]; exact Nat.le_refl _)⟩⟩
end Go.Proofs.Ytmleoagdelgddaa
/- raster: the document's Shape, Same; few. -/
namespace Go.Proofs.Ytmleoagdelgddaa
open Go.RowKit Dec

set_option maxRecDepth 100000 in
set_option maxHeartbeats 4000000 in
theorem shape_any (W H B C : Int) (A : Option Addr) (n c : Nat) (w : World) :
    Calls Try.prog 26 #[.agg #[.int .i64 W, .int .i64 H, .int .i64 B, .int .i64 C, .slice A n c]] w fun e w' => e = .returned (.bool (fmtB W H B C)) ∧ Below w.heap.size w w' := by
  have HP := Lib.hid (fun w => pixels_any W H w)
  have HW := Whole.made w 24 #[.int .i64 W, .int .i64 H, .int .i64 B, .int .i64 C, .slice A n c]
  have HV := Lib.hid ((Below.refl w.heap.size w).alloc (Nat.le_refl _) (.cells #[.int .i64 W, .int .i64 H, .int .i64 B, .int .i64 C, .slice A n c] 24))
  have HI := Lib.hid HW
  obtain ⟨sz, hsz⟩ : ∃ s, sizeB W H = s := ⟨_, rfl⟩
  have HF := Lib.hid (show fmtB W H B C = ((sz && bitsB B) && (decide (1 ≤ C) && decide (C ≤ 4))) by unfold fmtB; rw [hsz])
  rw [hsz] at HP
  clear hsz HW
  go_enter Try.func26, Try.ntmps26
  go_upto_region 1 with fail
  go_cut [3] from 4 to 26 (fun s wx => s = .bool (bitsB B) ∧ wx = w.alloc (.cells #[.int .i64 W, .int .i64 H, .int .i64 B, .int .i64 C, .slice A n c] 24))
  case first =>
    obtain ⟨c0, c1, c2, c3, c4⟩ := img_cells HI.out
    have lI := HI.out.lt
    by_cases k1 : B = 1
    · subst k1
      go_wp2_with fail
      go_meet
      exact ⟨rfl, rfl⟩
    have z1 : (B == 1) = false := beq_false_of_ne k1
    by_cases k2 : B = 2
    · subst k2
      go_wp2_with fail
      go_meet
      exact ⟨rfl, rfl⟩
    have z2 : (B == 2) = false := beq_false_of_ne k2
    by_cases k3 : B = 4
    · subst k3
      go_wp2_with fail
      go_meet
      exact ⟨rfl, rfl⟩
    have z3 : (B == 4) = false := beq_false_of_ne k3
    by_cases k4 : B = 8
    · subst k4
      go_wp2_with fail
      go_meet
      exact ⟨rfl, rfl⟩
    have z4 : (B == 8) = false := beq_false_of_ne k4
    by_cases k5 : B = 16
    · subst k5
      go_wp2_with fail
      go_meet
      exact ⟨rfl, rfl⟩
    have z5 : (B == 16) = false := beq_false_of_ne k5
    have HN := Lib.hid (show bitsB B = false by unfold bitsB; exact decide_eq_false (by omega))
    clear k1 k2 k3 k4 k5
    go_wp2_with fail
    go_meet
    exact ⟨by rw [HN.out], rfl⟩
  case rest =>
    obtain ⟨rfl, rfl⟩ := hcut
    obtain ⟨c0, c1, c2, c3, c4⟩ := img_cells HI.out
    have lI := HI.out.lt
    obtain ⟨bt, hbt⟩ : ∃ s, bitsB B = s := ⟨_, rfl⟩
    rw [hbt] at HF
    rw [hbt]
    clear hbt
    cases sz
    · go_wp2_with fail
      refine (HP.out _).mono ?_
      rintro e w1 ⟨rfl, rfl⟩
      go_wp2_with fail
      go_ret
      exact ⟨by rw [HF.out]; rfl, HV.out⟩
    · cases bt
      · go_wp2_with fail
        refine (HP.out _).mono ?_
        rintro e w1 ⟨rfl, rfl⟩
        go_wp2_with fail
        go_ret
        exact ⟨by rw [HF.out]; rfl, HV.out⟩
      · by_cases h1 : 1 ≤ C
        · have d1 : decide (1 ≤ C) = true := decide_eq_true h1
          obtain ⟨d, hd⟩ : ∃ d, decide (C ≤ 4) = d := ⟨_, rfl⟩
          rw [hd, d1] at HF
          clear h1
          go_wp2_with fail
          refine (HP.out _).mono ?_
          rintro e w1 ⟨rfl, rfl⟩
          go_wp2_with fail
          go_ret
          exact ⟨by rw [HF.out]; cases d <;> rfl, HV.out⟩
        · have d1 : decide (1 ≤ C) = false := decide_eq_false h1
          rw [d1] at HF
          clear h1
          go_wp2_with fail
          refine (HP.out _).mono ?_
          rintro e w1 ⟨rfl, rfl⟩
          go_wp2_with fail
          go_ret
          exact ⟨by rw [HF.out]; rfl, HV.out⟩
set_option maxRecDepth 100000 in
set_option maxHeartbeats 4000000 in
theorem few_any (W H B C : Int) (A : Option Addr) (n c : Nat) (w : World) :
    Calls Try.prog 9 #[.agg #[.int .i64 W, .int .i64 H, .int .i64 B, .int .i64 C, .slice A n c]] w fun e w' => (∃ r : Bool, e = .returned (.bool r)) ∧ Below w.heap.size w w' := by
  have HS := Lib.hid (fun w => shape_any W H B C A n c w)
  have HV := Lib.hid ((Below.refl w.heap.size w).alloc (Nat.le_refl _) (.cells #[.int .i64 W, .int .i64 H, .int .i64 B, .int .i64 C, .slice A n c] 24))
  obtain ⟨fm, hfm⟩ : ∃ s, fmtB W H B C = s := ⟨_, rfl⟩
  rw [hfm] at HS
  clear hfm
  by_cases h1 : n ≤ 600
  · have d1 : decide ((n : Int) ≤ 600) = true := decide_eq_true (by omega)
    by_cases h2 : W ≤ 40
    · have d2 : decide (W ≤ 40) = true := decide_eq_true h2
      by_cases h3 : H ≤ 40
      · have d3 : decide (H ≤ 40) = true := decide_eq_true h3
        clear h1 h2 h3
        go_enter Try.func9, Try.ntmps9
        go_wp2_with fail
        go_ret
        exact ⟨⟨_, rfl⟩, HV.out⟩
      · have d3 : decide (H ≤ 40) = false := decide_eq_false h3
        clear h1 h2 h3
        go_enter Try.func9, Try.ntmps9
        go_wp2_with fail
        refine (HS.out _).mono ?_
        rintro e w1 ⟨rfl, hb⟩
        have HB := Lib.hid (HV.out.trans (hb.mono HV.out.size))
        clear hb
        go_wp2_with fail
        go_ret
        exact ⟨⟨_, rfl⟩, HB.out⟩
    · have d2 : decide (W ≤ 40) = false := decide_eq_false h2
      clear h1 h2
      go_enter Try.func9, Try.ntmps9
      go_wp2_with fail
      refine (HS.out _).mono ?_
      rintro e w1 ⟨rfl, hb⟩
      have HB := Lib.hid (HV.out.trans (hb.mono HV.out.size))
      clear hb
      go_wp2_with fail
      go_ret
      exact ⟨⟨_, rfl⟩, HB.out⟩
  · have d1 : decide ((n : Int) ≤ 600) = false := decide_eq_false (by omega)
    clear h1
    go_enter Try.func9, Try.ntmps9
    go_wp2_with fail
    go_ret
    exact ⟨⟨_, rfl⟩, HV.out⟩
set_option maxRecDepth 100000 in
set_option maxHeartbeats 4000000 in
theorem same_true (W H B C : Int) (A : Option Addr) (n c : Nat) (A2 : Option Addr) (n2 c2 : Nat) (bs : List Nat) (w : World) (h : Bytes w A n c bs) (h2 : Bytes w A2 n2 c2 bs) :
    Calls Try.prog 20 #[.agg #[.int .i64 W, .int .i64 H, .int .i64 B, .int .i64 C, .slice A n c], .agg #[.int .i64 W, .int .i64 H, .int .i64 B, .int .i64 C, .slice A2 n2 c2]] w fun e w' => e = .returned (.bool true) ∧ Below w.heap.size w w' := by
  have HV := Lib.hid (((Below.refl w.heap.size w).alloc (Nat.le_refl _) (.cells #[.int .i64 W, .int .i64 H, .int .i64 B, .int .i64 C, .slice A n c] 24)).alloc (by simp) (.cells #[.int .i64 W, .int .i64 H, .int .i64 B, .int .i64 C, .slice A2 n2 c2] 24))
  have cA := (h.below HV.out).str
  have cB := (h2.below HV.out).str
  clear h h2
  go_enter Try.func20, Try.ntmps20
  go_wp2_with fail
  go_ret
  exact ⟨rfl, HV.out⟩
end Go.Proofs.Ytmleoagdelgddaa
/- raster: Pack at any image; RasterBack. Written by gen_rback.py. -/
namespace Go.Proofs.Ytmleoagdelgddaa
open Go.RowKit Dec

theorem Bytes.whole {w : World} {R n : Nat} {bs : List Nat} (h : Whole w R 5 (bvs bs).toArray) (hl : bs.length = n) (hn : n ≤ 9223372036854775807) (hb : ∀ x ∈ bs, x < 256) : Bytes w (some ⟨R, 0, none⟩) n n bs :=
  ⟨hl, Nat.le_refl _, hn, hb, fun _ => ⟨R, 0, rfl, h.lt, fun i b hi => by rw [Nat.zero_add]; exact (h.reads i).trans (bvs_get hi)⟩⟩
/-- The numbers of a format that is right. -/
structure FmtN (W H B C : Int) (W' H' B' C' P S : Nat) : Prop where
  eq : W = (W' : Int) ∧ H = (H' : Int) ∧ B = (B' : Int) ∧ C = (C' : Int)
  b : B' = 1 ∨ B' = 2 ∨ B' = 4 ∨ B' = 8 ∨ B' = 16
  p : W' * C' = P
  s : (P * B' + 7) / 8 = S
  p0 : 0 < P
  c0 : 0 < C'
  p2 : P ≤ 262144
  n2 : H' * P ≤ 262144
  pb : P * B' ≤ 4194304
  hs : H' * S ≤ 786432
  rs : rowS W' B' C' = S
  wh : W' * H' ≤ 65536
theorem fmt_n {W H B C : Int} (h : fmtB W H B C = true) : ∃ W' H' B' C' P S : Nat, FmtN W H B C W' H' B' C' P S := by
  obtain ⟨W', H', B', C', e1, e2, e3, e4, h0, h1, h2, hB, hC, hC4⟩ := fmt_of h
  obtain ⟨z1, z2, z3, z4, z5⟩ := fmt_sizes h0 h1 h2 hB hC hC4
  exact ⟨W', H', B', C', W' * C', (W' * C' * B' + 7) / 8, ⟨e1, e2, e3, e4⟩, hB, rfl, rfl, z1, by omega, z2, z3, z4, z5, rfl, h2⟩
theorem FmtN.chk {W H B C : Int} {W' H' B' C' P S : Nat} (h : FmtN W H B C W' H' B' C' P S) (hF : fmtB W H B C = true) : chkB (W' : Int) (H' : Int) (B' : Int) (C' : Int) (H' * S) = true := by
  obtain ⟨e1, e2, e3, e4⟩ := h.eq
  rw [e1, e2, e3, e4] at hF
  unfold chkB
  rw [hF, Bool.true_and, Int.toNat_natCast, Int.toNat_natCast, Int.toNat_natCast, h.rs, ← Int.natCast_mul]
  exact decide_eq_true rfl
theorem FmtN.good {W H B C : Int} {W' H' B' C' P S : Nat} (h : FmtN W H B C W' H' B' C' P S) {l : List Int} (hl : l.length = H' * P) (hg : ∀ v ∈ l, goodV B' v) :
    (pkN (l.map Int.toNat) B' S P (H' * S) (H' * P)).length = H' * S ∧ (∀ x ∈ pkN (l.map Int.toNat) B' S P (H' * S) (H' * P), x < 256) ∧ (List.range (H' * P)).map (fun i => ((smp (pkN (l.map Int.toNat) B' S P (H' * S) (H' * P)) B' S P i : Nat) : Int)) = l := by
  obtain ⟨i1, i2, i3⟩ := pkN_is (H := H') (l := l.map Int.toNat) h.b h.s h.p0 (H' * P) (Nat.le_refl _) (fun j hj => by
    have hj2 : j < l.length := by omega
    rw [List.getD_eq_getElem?_getD, List.getElem?_map, List.getElem?_eq_getElem hj2]
    have := hg l[j] (List.getElem_mem _)
    show l[j].toNat < 2 ^ B'
    have := this.1
    have := (hg l[j] (List.getElem_mem _)).2
    omega)
  refine ⟨i1, i2, ?_⟩
  apply List.ext_getElem
  · simp [hl]
  · intro i h1 h2
    simp only [List.getElem_map, List.getElem_range]
    rw [i3 i (by omega), if_pos (by omega), List.getD_eq_getElem?_getD, List.getElem?_map, List.getElem?_eq_getElem h2]
    have := (hg l[i] (List.getElem_mem _)).1
    show ((l[i].toNat : Nat) : Int) = l[i]
    omega
/-- What Pack answers at any image. -/
def PackIs (W H B C : Int) (l : List Int) (w : World) (e : Ending) (w' : World) : Prop :=
  (¬ (fmtB W H B C = true ∧ (l.length : Int) = H * (W * C) ∧ ∀ v ∈ l, goodV B.toNat v) ∧ NoImg w e w') ∨
  (∃ W' H' B' C' P S : Nat, fmtB W H B C = true ∧ FmtN W H B C W' H' B' C' P S ∧ l.length = H' * P ∧ (∀ v ∈ l, goodV B' v) ∧ PackGo W' H' B' C' P S (H' * P) l w e w')
theorem pack_any (W H B C : Int) (A : Option Addr) (n c : Nat) (A2 : Option Addr) (n2 c2 : Nat) (l : List Int) (w : World) (hl : IntsAt w A2 n2 c2 l) :
    Calls Try.prog 12 #[.agg #[.int .i64 W, .int .i64 H, .int .i64 B, .int .i64 C, .slice A n c], .slice A2 n2 c2] w (PackIs W H B C l w) := by
  cases hF : fmtB W H B C
  · exact (pack_fmt W H B C A n c A2 n2 c2 w hF).mono fun e w' h => .inl ⟨(fun k => by rw [hF] at k; cases k.1), h⟩
  · obtain ⟨W', H', B', C', P, S, hf⟩ := fmt_n hF
    obtain ⟨rfl, rfl, rfl, rfl⟩ := hf.eq
    by_cases hn : n2 = H' * P
    · subst hn
      refine (pack_go W' H' B' C' P S (H' * P) A n c A2 c2 l w hF hf.p hf.p2 hf.p0 hf.b hf.s (by have := hf.pb; omega) (by have := hf.hs; omega) rfl hf.n2 hl).mono fun e w' h => ?_
      rcases h with ⟨h1, h2⟩ | ⟨h1, h2⟩
      · exact .inr ⟨W', H', B', C', P, S, hF, hf, hl.len, h1, h2⟩
      · exact .inl ⟨fun k => h1 k.2.2, h2⟩
    · refine (pack_len W' H' B' C' P (H' * P) A n c A2 n2 c2 w hF hf.p hf.p2 rfl hf.n2 hn).mono fun e w' h => .inl ⟨fun k => hn ?_, h⟩
      have := k.2.1
      rw [hl.len, ← Int.natCast_mul, hf.p, ← Int.natCast_mul] at this
      omega
/-- What Samples answers of a sound image. -/
theorem samples_fmt {W H B C : Int} {W' H' B' C' P S : Nat} (hf : FmtN W H B C W' H' B' C' P S) (hF : fmtB W H B C = true) {A : Option Addr} {c : Nat} {bs : List Nat} {w : World} (hA : Bytes w A (H' * S) c bs) :
    Calls Try.prog 10 #[.agg #[.int .i64 (W' : Int), .int .i64 (H' : Int), .int .i64 (B' : Int), .int .i64 (C' : Int), .slice A (H' * S) c]] w fun e w' => ∃ R, e = .returned (.tuple #[.slice (some ⟨R, 0, none⟩) (H' * P) (H' * P), .int .i64 0]) ∧ IntsAt w' (some ⟨R, 0, none⟩) (H' * P) (H' * P) ((List.range (H' * P)).map (fun i => ((smp bs B' S P i : Nat) : Int))) ∧ Below w.heap.size w w' ∧ w.heap.size ≤ R := by
  refine (samples_good W' H' B' C' P S (H' * P) A (H' * S) c bs w hA (hf.chk hF) hf.p hf.p2 rfl hf.n2 hf.s hf.p0 hf.b rfl).mono ?_
  rintro e w' ⟨R, he, hR, hw, hb⟩
  refine ⟨R, he, IntsAt.whole hw (by simp) (by have := hf.n2; omega) (fun i x hx => ?_), hb, hR⟩
  have hi : i < H' * P := by
    have := (List.getElem?_eq_some_iff.1 hx).1
    simpa using this
  simp [List.getElem?_range hi] at hx
  subst hx
  simp [nvs, List.getElem?_range hi]
set_option maxRecDepth 100000 in
set_option maxHeartbeats 8000000 in
theorem back_law (W H B C : Int) (A : Option Addr) (n c : Nat) (A2 : Option Addr) (n2 c2 : Nat) (l : List Int) (w : World) (hl : IntsAt w A2 n2 c2 l) :
    Calls Try.prog 5 #[.agg #[.int .i64 W, .int .i64 H, .int .i64 B, .int .i64 C, .slice A n c], .slice A2 n2 c2] w fun e w' => e = .returned (.bool true) ∧ Below w.heap.size w w' := by
  have HFEW := Lib.hid (fun w => few_any W H B C A n c w)
  have HPK := Lib.hid (fun w hl => pack_any W H B C A n c A2 n2 c2 l w hl)
  have HL := Lib.hid hl
  have HI := Lib.hid (Whole.made w 24 #[.int .i64 W, .int .i64 H, .int .i64 B, .int .i64 C, .slice A n c])
  have HV := Lib.hid ((Below.refl w.heap.size w).alloc (Nat.le_refl _) (.cells #[.int .i64 W, .int .i64 H, .int .i64 B, .int .i64 C, .slice A n c] 24))
  clear hl
  go_enter Try.func5, Try.ntmps5
  go_wp2_with fail
  refine (HFEW.out _).mono ?_
  rintro e w1 ⟨⟨r, rfl⟩, hb⟩
  have HB1 := Lib.hid (HV.out.trans (hb.mono HV.out.size))
  have HI1 := Lib.hid (HI.out.here hb)
  clear hb
  cases r
  · go_wp2_with fail
    go_ret
    exact ⟨rfl, HB1.out⟩
  by_cases h2 : 2000 < n2
  · have d1 : decide ((2000 : Int) < (n2 : Int)) = true := decide_eq_true (by omega)
    clear h2
    go_wp2_with fail
    go_ret
    exact ⟨rfl, HB1.out⟩
  have d1 : decide ((2000 : Int) < (n2 : Int)) = false := decide_eq_false (by omega)
  clear h2
  obtain ⟨i1, i2, i3⟩ := five_facts HI1.out
  go_wp2_with fail
  refine (HPK.out _ (HL.out.below HB1.out)).mono ?_
  clear i1 i2 i3 HI1
  rintro e w2 (⟨-, rfl, hb⟩ | ⟨W', H', B', C', P, S, hF, hf, hll, hg, R, rfl, hrow, hb⟩)
  · have HB2 := Lib.hid ((HB1.out.trans (hb.mono HB1.out.size)).alloc (HB1.out.trans (hb.mono HB1.out.size)).size (.cells #[.int .i64 0, .int .i64 0, .int .i64 0, .int .i64 0, .slice none 0 0] 24))
    have HO := Lib.hid (Whole.made w2 24 #[.int .i64 0, .int .i64 0, .int .i64 0, .int .i64 0, .slice none 0 0])
    clear hb
    go_wp2_with fail
    refine (awake_any _).mono ?_
    rintro e w3 ⟨rfl, hb⟩
    have HB3 := Lib.hid (HB2.out.trans (hb.mono HB2.out.size))
    obtain ⟨i1, i2, i3⟩ := five_facts (HO.out.here hb)
    clear hb
    go_wp2_with fail
    go_ret
    exact ⟨rfl, HB3.out⟩
  · have hb2 := HB1.out.trans (hb.mono HB1.out.size)
    have HB2 := Lib.hid hb2
    obtain ⟨g1, g2, g3⟩ := hf.good hll hg
    obtain ⟨rfl, rfl, rfl, rfl⟩ := hf.eq
    obtain ⟨pk, hpk⟩ : ∃ p, pkN (l.map Int.toNat) B' S P (H' * S) (H' * P) = p := ⟨_, rfl⟩
    rw [hpk] at g1 g2 g3 hrow
    have HF := Lib.hid hF
    have HFN := Lib.hid hf
    have hnn : n2 = H' * P := by rw [← HL.out.len]; exact hll
    subst hnn
    have hG := hf.hs
    have hN := hf.n2
    obtain ⟨G, hGe⟩ : ∃ G, H' * S = G := ⟨_, rfl⟩
    obtain ⟨N, hNe⟩ : ∃ N, H' * P = N := ⟨_, rfl⟩
    have HSM : Hid (∀ (A : Option Addr) (c : Nat) (w : World), Bytes w A G c pk → Calls Try.prog 10 #[.agg #[.int .i64 (W' : Int), .int .i64 (H' : Int), .int .i64 (B' : Int), .int .i64 (C' : Int), .slice A G c]] w fun e w' => ∃ R, e = .returned (.tuple #[.slice (some ⟨R, 0, none⟩) N N, .int .i64 0]) ∧ IntsAt w' (some ⟨R, 0, none⟩) N N l ∧ Below w.heap.size w w') := Lib.hid (by
      intro A c w hA
      rw [← hGe] at hA ⊢
      have := samples_fmt HFN.out HF.out hA
      rw [g3, hNe] at this
      exact this.mono fun e w' ⟨R, h1, h2, h3, _⟩ => ⟨R, h1, h2, h3⟩)
    have HCK : Hid (∀ (A : Option Addr) (c : Nat) (w : World), Calls Try.prog 17 #[.agg #[.int .i64 (W' : Int), .int .i64 (H' : Int), .int .i64 (B' : Int), .int .i64 (C' : Int), .slice A G c]] w fun e w' => e = .returned (.int .i64 0) ∧ Below w.heap.size w w') := Lib.hid (by
      intro A c w
      have := rcheck_any (W' : Int) (H' : Int) (B' : Int) (C' : Int) A G c w
      rw [← hGe, HFN.out.chk HF.out] at this
      rw [← hGe]
      exact this)
    have HPK2 : Hid (∀ (A A3 : Option Addr) (c c3 : Nat) (w : World), IntsAt w A3 N c3 l → Calls Try.prog 12 #[.agg #[.int .i64 (W' : Int), .int .i64 (H' : Int), .int .i64 (B' : Int), .int .i64 (C' : Int), .slice A G c], .slice A3 N c3] w fun e w' => ∃ R, e = .returned (.tuple #[.agg #[.int .i64 (W' : Int), .int .i64 (H' : Int), .int .i64 (B' : Int), .int .i64 (C' : Int), .slice (some ⟨R, 0, none⟩) G G], .int .i64 0]) ∧ Bytes w' (some ⟨R, 0, none⟩) G G pk ∧ Below w.heap.size w w') := Lib.hid (by
      intro A A3 c c3 w hA
      refine (pack_go W' H' B' C' P S N A G c A3 c3 l w HF.out HFN.out.p HFN.out.p2 HFN.out.p0 HFN.out.b HFN.out.s (by have := HFN.out.pb; omega) (by omega) hNe (by omega) hA).mono ?_
      rintro e w' (⟨-, R, he, hw, hb⟩ | ⟨k, -⟩)
      · rw [← hNe, hpk] at hw
        rw [hGe] at he
        exact ⟨R, he, Bytes.whole hw (by rw [g1, hGe]) (by omega) g2, hb⟩
      · exact absurd hg k)
    rw [hGe] at g1 ⊢
    rw [hNe] at HL ⊢
    have HBY := Lib.hid (Bytes.whole hrow g1 (by omega) g2)
    have HLI := Lib.hid (HL.out.below hb2)
    clear hb hb2 hrow hpk hGe hNe hF hf hg hll g3 HPK HFEW g1 g2
    have HO := Lib.hid (Whole.made w2 24 #[.int .i64 (W' : Int), .int .i64 (H' : Int), .int .i64 (B' : Int), .int .i64 (C' : Int), .slice (some ⟨R, 0, none⟩) G G])
    have hbA : Below w2.heap.size w2 (w2.alloc (.cells #[.int .i64 (W' : Int), .int .i64 (H' : Int), .int .i64 (B' : Int), .int .i64 (C' : Int), .slice (some ⟨R, 0, none⟩) G G] 24)) := (Below.refl _ _).alloc (Nat.le_refl _) _
    have HB3 := Lib.hid (HB2.out.trans (hbA.mono HB2.out.size))
    have HBY3 := Lib.hid (HBY.out.below hbA)
    have HLI3 := Lib.hid (HLI.out.below hbA)
    have cm := HO.out.reads
    have lm := HO.out.lt
    clear hbA HB2 HBY HLI
    go_wp2_with fail
    refine (HSM.out _ _ _ HBY3.out).mono ?_
    rintro e w4 ⟨R4, rfl, hi, hb⟩
    have HB4 := Lib.hid (HB3.out.trans (hb.mono HB3.out.size))
    have HA4 := Lib.hid (And.intro (HBY3.out.below hb) (And.intro (HLI3.out.below hb) (And.intro hi (HO.out.here hb))))
    have cm := HA4.out.2.2.2.reads
    have lm := HA4.out.2.2.2.lt
    clear hi hb HB3 HBY3 HLI3 HO
    go_wp2_with fail
    refine (HPK2.out _ _ _ _ _ HA4.out.2.2.1).mono ?_
    rintro e w5 ⟨R5, rfl, hi, hb⟩
    have hbA : Below w4.heap.size w4 (w5.alloc (.cells #[.int .i64 (W' : Int), .int .i64 (H' : Int), .int .i64 (B' : Int), .int .i64 (C' : Int), .slice (some ⟨R5, 0, none⟩) G G] 24)) := hb.alloc hb.size _
    have HB5 := Lib.hid (HB4.out.trans (hbA.mono HB4.out.size))
    have HA5 := Lib.hid (And.intro (HA4.out.1.below hbA) (And.intro (HA4.out.2.1.below hbA) (And.intro (HA4.out.2.2.1.below hbA) (And.intro (HA4.out.2.2.2.here hbA) (And.intro (hi.below ((Below.refl _ _).alloc (Nat.le_refl _) (.cells #[.int .i64 (W' : Int), .int .i64 (H' : Int), .int .i64 (B' : Int), .int .i64 (C' : Int), .slice (some ⟨R5, 0, none⟩) G G] 24))) (Whole.made w5 24 #[.int .i64 (W' : Int), .int .i64 (H' : Int), .int .i64 (B' : Int), .int .i64 (C' : Int), .slice (some ⟨R5, 0, none⟩) G G]))))))
    clear hi hb hbA HA4 HB4 cm lm
    go_wp2_with fail
    refine (awake_any _).mono ?_
    rintro e w6 ⟨rfl, hb⟩
    have HB6 := Lib.hid (HB5.out.trans (hb.mono HB5.out.size))
    have HA6 := Lib.hid (And.intro (HA5.out.1.below hb) (And.intro (HA5.out.2.1.below hb) (And.intro (HA5.out.2.2.1.below hb) (And.intro (HA5.out.2.2.2.1.here hb) (And.intro (HA5.out.2.2.2.2.1.below hb) (HA5.out.2.2.2.2.2.here hb))))))
    have cm := HA6.out.2.2.2.1.reads
    have lm := HA6.out.2.2.2.1.lt
    clear hb HA5 HB5
    go_wp2_with fail
    refine (HCK.out _ _ _).mono ?_
    rintro e w7 ⟨rfl, hb⟩
    have HB7 := Lib.hid (HB6.out.trans (hb.mono HB6.out.size))
    have HA7 := Lib.hid (And.intro (HA6.out.1.below hb) (And.intro (HA6.out.2.1.below hb) (And.intro (HA6.out.2.2.1.below hb) (And.intro (HA6.out.2.2.2.1.here hb) (And.intro (HA6.out.2.2.2.2.1.below hb) (HA6.out.2.2.2.2.2.here hb))))))
    clear hb HA6 HB6 cm lm
    go_wp2_with fail
    refine (ints_same _ _ _ _ _ _ _ _ HA7.out.2.1 HA7.out.2.2.1).mono ?_
    rintro e w8 ⟨rfl, j, rfl⟩
    have hb : Below w7.heap.size w7 (w7.drewN j) := bdrewNr (Below.refl _ _) _
    generalize w7.drewN j = W8 at hb ⊢
    have HB8 := Lib.hid (HB7.out.trans (hb.mono HB7.out.size))
    have HA8 := Lib.hid (And.intro (HA7.out.1.below hb) (And.intro (HA7.out.2.2.2.1.here hb) (And.intro (HA7.out.2.2.2.2.1.below hb) (HA7.out.2.2.2.2.2.here hb))))
    have cm := HA8.out.2.1.reads
    have lm := HA8.out.2.1.lt
    have cn := HA8.out.2.2.2.reads
    have ln := HA8.out.2.2.2.lt
    clear hb HA7 HB7
    go_wp2_with fail
    refine (same_true _ _ _ _ _ _ _ _ _ _ _ _ HA8.out.1 HA8.out.2.2.1).mono ?_
    rintro e w9 ⟨rfl, hb⟩
    have HB9 := Lib.hid (HB8.out.trans (hb.mono HB8.out.size))
    clear hb
    go_wp2_with fail
    go_ret
    exact ⟨rfl, HB9.out⟩
end Go.Proofs.Ytmleoagdelgddaa
