/- deflate: Tokens. -/
import Derived.Test.YtnjdnldoopgcpaaDefD
import Derived.Test.YtnjdnldoopgcpaaInfV
import Derived.Test.YtnjdnldoopgcpaaDefI
import Derived.Laws.StructEq
namespace Go.Proofs.Ytnjdnldoopgcpaa
open Go.RowKit

/-- What Tokens answers. -/
def DTokIs (bs : List Nat) (w : World) (e : Ending) (w' : World) : Prop :=
  (bs.length ≤ 1048576 ∧ ∃ A c, e = .returned (.tuple #[.slice A (tokD bs).length c, .int .i64 0]) ∧ TksAt w' A (tokD bs).length c (tokD bs) ∧ (tokD bs).length ≤ bs.length ∧ Below w.heap.size w w') ∨
  (1048576 < bs.length ∧ e = .returned (.tuple #[.slice none 0 0, .int .i64 2]) ∧ Below w.heap.size w w')
theorem tokGoD_len (b : List Nat) : ∀ f i, (tokGoD b f i).length ≤ f
  | 0, _ => Nat.le_refl _
  | f + 1, i => by
    unfold tokGoD
    split
    · exact Nat.zero_le _
    · split
      · rw [List.length_cons]; have := tokGoD_len b f (i + 1); omega
      · rw [List.length_cons]; have := tokGoD_len b f (i + (foundD b i).1); omega
theorem SrS.own {base : Nat} {w w' : World} {S Ll Bb : Nat} {A : Option Addr} {n c : Nat} {bs : List Nat} {e : Nat} (h : SrS base w S Ll Bb A n c bs e) {v : Value} (hg : w.grownBy w' v.ownBlock) {k : Nat} {xs : List Value} (ho : w.ownsRow base 35 3 v k xs) : SrS base w' S Ll Bb A n c bs e := by
  have hf : Fr (fun k => some k = v.ownBlock) w w' := Fr.of_grown hg
  have off : ∀ (j : Nat) T cs, Whole w j T cs → T ≠ 35 → ¬ some j = v.ownBlock := fun j T cs hj hT e => by
    obtain ⟨-, -, cs', hc⟩ := own_lt ho e.symm
    exact hc.apart hj (fun e => hT e.symm) rfl
  exact ⟨h.whole.frame hf (off _ _ _ h.whole (by decide)), h.last.frame hf (off _ _ _ h.last (by decide)), h.bef.frame hf (off _ _ _ h.bef (by decide)), h.row.belowB (Fr.below hf h.low.2.2.2 (fun j hj e => by have := (own_lt ho e.symm).1; omega)) h.rowLow, h.ne, ⟨h.low.1, h.low.2.1, h.low.2.2.1, Nat.le_trans h.low.2.2.2 hf.size⟩, h.rowLow⟩
theorem own_frD {base : Nat} {w w' : World} {S Ll Bb : Nat} {A : Option Addr} {n c : Nat} {bs : List Nat} {e : Nat} (h : SrS base w S Ll Bb A n c bs e) (hf : FrD S Ll Bb w w') {v : Value} {k : Nat} {xs : List Value} (ho : w.ownsRow base 35 3 v k xs) : w'.ownsRow base 35 3 v k xs :=
  own_frame ho hf (fun g hg e => by
    obtain ⟨-, -, cs, hc⟩ := own_lt ho hg
    rcases e with e | e | e
    · exact hc.apart h.whole (by decide) e
    · exact hc.apart h.last (by decide) e
    · exact hc.apart h.bef (by decide) e)
theorem FrD.below {base : Nat} {w w' : World} {S Ll Bb : Nat} {A : Option Addr} {n c : Nat} {bs : List Nat} {e : Nat} (h : SrS base w S Ll Bb A n c bs e) (hf : FrD S Ll Bb w w') : Below base w w' :=
  Fr.below hf h.low.2.2.2 (fun j hj hs => by have := h.low; omega)
set_option maxRecDepth 100000 in
set_option maxHeartbeats 4000000 in
theorem dtokens_any (A : Option Addr) (n c : Nat) (bs : List Nat) (w : World) (h : Bytes w A n c bs) :
    Calls Try.prog 8 #[.slice A n c] w (DTokIs bs w) := by
  obtain ⟨i0, hi0, hz0, hz1, hz2⟩ := info_tk
  have hl := h.len
  have hcap := h.cap
  have htop := h.top
  by_cases hbig : 1048576 < n
  · have d1 : decide ((n : Int) > 1048576) = true := decide_eq_true (by omega)
    go_enter Try.func8, Try.ntmps8
    go_wp2_with fail
    go_ret2
    exact .inr ⟨by omega, rfl, Below.refl _ _⟩
  have d1 : decide ((n : Int) > 1048576) = false := decide_eq_false (by omega)
  have hn : n ≤ 1048576 := by omega
  have HNS := Lib.hid (newSearch_any A n c bs w h hn)
  clear h hbig
  go_enter Try.func8, Try.ntmps8
  go_wp2_with fail
  refine HNS.out.mono ?_
  rintro e w1 ⟨S, Ll, Bb, rfl, hs, hb⟩
  have H1 := Lib.hid (And.intro hs hb)
  clear hs hb HNS
  obtain ⟨base, hbase⟩ : ∃ base, w.heap.size = base := ⟨_, rfl⟩
  rw [hbase] at H1
  go_wp2_with fail
  go_loopg [4, 6] n (fun g s4 s6 wr => ∃ (i f e' : Nat) (toks : List Tk), s6 = .int .i64 (i : Int) ∧ i + g = n ∧ n ≤ i + f ∧ e' ≤ i ∧ toks.length ≤ i ∧ Hid (tokD bs = toks ++ tokGoD bs f i) ∧ Hid (wr.ownsRow base 35 3 s4 toks.length (rowTk toks)) ∧ Hid (SrS base wr S Ll Bb A n c bs e' ∧ Below base w wr))
  case atStart => exact ⟨0, bs.length, 0, [], rfl, by omega, by omega, Nat.le_refl _, Nat.le_refl _, Lib.hid rfl, Lib.hid (World.ownsRow_nil _ _ _ _), H1⟩
  case round =>
    obtain ⟨i, f, e', toks, rfl, hig, hif, hei, htl, HT, HO, HS⟩ := hrel
    by_cases hlt : i < n
    · have d2 : decide ((i : Int) < (n : Int)) = true := decide_eq_true (by omega)
      obtain ⟨f', rfl⟩ : ∃ f', f = f' + 1 := ⟨f - 1, by omega⟩
      have HLO := Lib.hid (longest_any base S Ll Bb A n c bs e' i wr HS.out.1 hei hlt hn)
      go_wp2_with fail
      refine HLO.out.mono ?_
      rintro e w2 ⟨L, B, k, rfl, hs2, hk, hf2, hfd⟩
      have HFD := Lib.hid hfd
      have H2 := Lib.hid (And.intro hs2 (HS.out.2.trans (FrD.below HS.out.1 hf2)))
      have ho2 := own_frD HS.out.1 hf2 HO.out
      obtain ⟨a4, c4, rfl⟩ := own_slice ho2
      have HO2 := Lib.hid ho2
      clear hs2 hf2 hfd ho2 HLO
      by_cases h3 : L < 3
      · have d3 : decide ((L : Int) < 3) = true := decide_eq_true (by omega)
        obtain ⟨x, hx⟩ : ∃ x, bs[i]? = some x := ⟨_, List.getElem?_eq_getElem (by omega)⟩
        obtain ⟨R, o, rfl, hR, hc⟩ := H2.out.1.row.at_ (by omega)
        have k0 : w2.cell? ⟨R, o + i, none⟩ = some (.int .u8 (x : Int)) := hc i x hx
        have b1 : (0 : Int) ≤ (i : Int) := by omega
        have b2 : (i : Int) < (n : Int) := by omega
        have hx8 := H2.out.1.row.byte x (List.mem_of_getElem? hx)
        have hf3 : (foundD bs i).1 < 3 := by rcases HFD.out with ⟨-, h⟩ | ⟨h, -⟩ <;> omega
        have HTN := Lib.hid (show tokD bs = (toks ++ [(Tk.mk (x : Int) 0 0)]) ++ tokGoD bs f' (i + 1) by
          rw [HT.out, tokGoD, if_neg (by omega), if_pos hf3, List.append_assoc]
          have : bs.getD i 0 = x := by rw [List.getD_eq_getElem?_getD, hx]; rfl
          rw [this]
          rfl)
        clear hx hc hf3
        go_wp2_with (at_builtin; refine wpList_append_own _ rfl _ _ 23 rfl base 35 i0 (.agg #[.int .i64 0, .int .i64 0, .int .i64 0]) 3 24 Try.underlying23 hi0 hz0 hz1 hz2 rfl (by decide) _ _ _ rfl (HO2.out.alloc _) ⟨w2.heap.size, 0, none⟩ 1 1 [.int .i64 (x : Int), .int .i64 0, .int .i64 0] rfl rfl (World.news_of_block (cs := #[.int .i64 (x : Int), .int .i64 0, .int .i64 0]) (t := 35) (fr := (0, 0)) (heap_alloc_new _ _)) ?p1 ?p2 ?p3 ?p4 ?_)
        case p1 => simp [Value.oneCell']
        case p2 => unfold maxLen; omega
        case p3 => omega
        case p4 => first | omega | (have := H2.out.2.size; have := H2.out.1.low.2.2.2; simp; omega)
        intro v' w6 hown' hgrow _
        have hr6 : w6.ownsRow base 35 3 v' (toks ++ [(Tk.mk (x : Int) 0 0)]).length (rowTk (toks ++ [(Tk.mk (x : Int) 0 0)])) := by
          rw [← rowTk_snoc, List.length_append]
          exact hown'
        have hsz := H2.out.1.low.2.2.2
        have hs6 := (H2.out.1.fr ((Below.refl _ _).alloc (Nat.le_refl _) (.cells #[.int .i64 (x : Int), .int .i64 0, .int .i64 0] 35))).own hgrow (HO2.out.alloc _)
        have hb6 := (H2.out.2.alloc hsz (.cells #[.int .i64 (x : Int), .int .i64 0, .int .i64 0] 35)).grown hgrow (by simp; omega) (fun j e => (own_lt HO2.out e).1)
        have H6 := Lib.hid (And.intro hr6 (And.intro hs6 hb6))
        clear hown' hgrow hr6 hs6 hb6
        go_wp2_with fail
        go_roundg (gk - 1)
        case rel => exact ⟨i + 1, f', k, toks ++ [((Tk.mk (x : Int) 0 0) : Tk)], by go_num, by omega, by omega, by omega, by rw [List.length_append]; simp; omega, HTN, Lib.hid H6.out.1, Lib.hid H6.out.2⟩
        case measure => omega
      · have d3 : decide ((L : Int) < 3) = false := decide_eq_false (by omega)
        have hf3 : foundD bs i = (L, B) := by rcases HFD.out with ⟨h, -⟩ | ⟨-, h⟩; exact absurd h h3; exact h
        have hin := foundD_in (b := bs) (i := i) (by rw [hf3]; show 3 ≤ L; omega)
        rw [hf3] at hin
        have hiL : i + L ≤ bs.length := hin.2.1
        have hL8 : L ≤ 258 := hin.1
        have HTN := Lib.hid (show tokD bs = (toks ++ [(Tk.mk 0 (L : Int) (B : Int))]) ++ tokGoD bs f' (i + L) by
          rw [HT.out, tokGoD, if_neg (by omega), hf3, if_neg h3, List.append_assoc]
          rfl)
        clear hin hf3
        go_wp2_with (at_builtin; refine wpList_append_own _ rfl _ _ 23 rfl base 35 i0 (.agg #[.int .i64 0, .int .i64 0, .int .i64 0]) 3 24 Try.underlying23 hi0 hz0 hz1 hz2 rfl (by decide) _ _ _ rfl (HO2.out.alloc _) ⟨w2.heap.size, 0, none⟩ 1 1 [.int .i64 0, .int .i64 (L : Int), .int .i64 (B : Int)] rfl rfl (World.news_of_block (cs := #[.int .i64 0, .int .i64 (L : Int), .int .i64 (B : Int)]) (t := 35) (fr := (0, 0)) (heap_alloc_new _ _)) ?p1 ?p2 ?p3 ?p4 ?_)
        case p1 => simp [Value.oneCell']
        case p2 => unfold maxLen; omega
        case p3 => omega
        case p4 => first | omega | (have := H2.out.2.size; have := H2.out.1.low.2.2.2; simp; omega)
        intro v' w6 hown' hgrow _
        have hr6 : w6.ownsRow base 35 3 v' (toks ++ [(Tk.mk 0 (L : Int) (B : Int))]).length (rowTk (toks ++ [(Tk.mk 0 (L : Int) (B : Int))])) := by
          rw [← rowTk_snoc, List.length_append]
          exact hown'
        have hsz := H2.out.1.low.2.2.2
        have hs6 := (H2.out.1.fr ((Below.refl _ _).alloc (Nat.le_refl _) (.cells #[.int .i64 0, .int .i64 (L : Int), .int .i64 (B : Int)] 35))).own hgrow (HO2.out.alloc _)
        have hb6 := (H2.out.2.alloc hsz (.cells #[.int .i64 0, .int .i64 (L : Int), .int .i64 (B : Int)] 35)).grown hgrow (by simp; omega) (fun j e => (own_lt HO2.out e).1)
        have H6 := Lib.hid (And.intro hr6 (And.intro hs6 hb6))
        clear hown' hgrow hr6 hs6 hb6
        go_wp2_with fail
        go_roundg (gk - L)
        case rel => exact ⟨i + L, f', k, toks ++ [((Tk.mk 0 (L : Int) (B : Int)) : Tk)], by go_num, by omega, by omega, by omega, by rw [List.length_append]; simp; omega, HTN, Lib.hid H6.out.1, Lib.hid H6.out.2⟩
        case measure => omega
    · obtain rfl : i = n := by omega
      have d2 : decide ((i : Int) < (i : Int)) = false := by simp
      have HZ := Lib.hid (show tokD bs = toks by
        rw [HT.out]
        cases f with
        | zero => rw [tokGoD, List.append_nil]
        | succ f => rw [tokGoD, if_pos (by omega), List.append_nil])
      obtain ⟨A4, c4, rfl, hr4, -⟩ := RowAt.of_own (tkV_all toks) (by decide) HO.out
      have HR4 := Lib.hid hr4
      clear hr4
      go_wp2_with fail
      go_ret2
      rw [← HZ.out] at HR4 htl ⊢
      exact .inl ⟨by omega, A4, c4, rfl, HR4.out, by omega, by rw [hbase]; exact HS.out.2⟩
end Go.Proofs.Ytnjdnldoopgcpaa
/- deflate: Same, Deflate, the document's examples, walked. -/
namespace Go.Proofs.Ytnjdnldoopgcpaa
open Go.RowKit

set_option maxRecDepth 100000 in
theorem eq_tk (a b c : Int) (w : World) : (Op.equalIn 10000 35 (.agg #[.int .i64 a, .int .i64 b, .int .i64 c]) (.agg #[.int .i64 a, .int .i64 b, .int .i64 c])).run Try.prog w = .ok true w := by
  rw [show (10000 : Nat) = 9998 + 1 + 1 from rfl, run_equalIn_struct w (9998 + 1) 35 _ _ (by kernel_rfl) (by kernel_rfl)]
  go_simp
set_option maxRecDepth 100000 in
set_option maxHeartbeats 2000000 in
theorem same_tk (A A2 : Option Addr) (n c c2 : Nat) (l : List Tk) (w : World) (h : TksAt w A n c l) (h2 : TksAt w A2 n c2 l) (hn : n ≤ 100000000) :
    Calls Try.prog 15 #[.slice A n c, .slice A2 n c2] w fun e w' => e = .returned (.bool true) ∧ Below w.heap.size w w' := by
  have hl := h.len
  rw [List.length_map] at hl
  have d0 : ((n : Int) != (n : Int)) = false := by simp
  have H1 := Lib.hid h
  have H2 := Lib.hid h2
  clear h h2
  go_enter Try.func15, Try.ntmps15
  go_wp2_with fail
  clear d0
  go_loopw [5] (fun s5 wr => ∃ i : Nat, s5 = .int .i64 (i : Int) ∧ i ≤ n ∧ Hid (Below w.heap.size w wr)) (fun s5 _ => n - (intOf s5).toNat)
  case atStart => exact ⟨0, rfl, by omega, Lib.hid (Below.refl _ _)⟩
  case round =>
    obtain ⟨i, rfl, hi, HR⟩ := hrel
    by_cases hlt : i < n
    · have d1 : decide ((i : Int) < (n : Int)) = true := decide_eq_true (by omega)
      obtain ⟨t, ht⟩ : ∃ t, l[i]? = some t := ⟨_, List.getElem?_eq_getElem (by omega)⟩
      obtain ⟨R, o, rfl, hR, k0, k1, k2⟩ := (H1.out.later HR.out).get ht
      obtain ⟨R2, o2, rfl, hR2, q0, q1, q2⟩ := (H2.out.later HR.out).get ht
      have b1 : (0 : Int) ≤ (i : Int) := by omega
      have b2 : (i : Int) < (n : Int) := by omega
      have he := fun w => eq_tk t.byte t.len t.back w
      clear ht
      go_wp2_with fail
      go_region
      all_goals
        go_wp2_with fail
        go_roundw
        case rel => exact ⟨i + 1, by go_num, by omega, Lib.hid HR.out.drew⟩
        case measure => simp [intOf]; omega
    · obtain rfl : i = n := by omega
      have d1 : decide ((i : Int) < (i : Int)) = false := by simp
      go_wp2_with fail
      go_ret
      exact ⟨rfl, HR.out⟩
theorem tokD_ok {bs : List Nat} (hb : ∀ x ∈ bs, x < 256) : (tokD bs).all okTk = true := tokGoD_ok hb _ _
theorem tokD_len (bs : List Nat) : (tokD bs).length ≤ bs.length := tokGoD_len bs _ _
/-- Bytes that hold these tokens. -/
structure HoldT (l : List Tk) (ds : List Nat) : Prop where
  byte : ∀ x ∈ ds, x < 256
  num : num ds = catN (allF l)
  len : ds.length = (catT (allF l) + 7) / 8
theorem HoldT.eq {l : List Tk} {a b : List Nat} (h : HoldT l a) (k : HoldT l b) : a = b := num_ext h.byte k.byte (by rw [h.len, k.len]) (by rw [h.num, k.num])
theorem allF_short {l : List Tk} (h : l.all okTk = true) : catT (allF l) ≤ 12 + 44 * l.length := by
  rw [← preF_all, catT_app]
  have := preF_short h l.length
  have := (fixed_len 256 (by decide)).2.2
  simp only [wordF, catT]
  omega
theorem HoldT.short {l : List Tk} {ds : List Nat} (h : HoldT l ds) (hok : l.all okTk = true) : ds.length ≤ 3 + 6 * l.length := by
  have := h.len
  have := allF_short hok
  omega
/-- What Deflate answers. -/
def DDefIs (bs : List Nat) (w : World) (e : Ending) (w' : World) : Prop :=
  (bs.length ≤ 1048576 ∧ ∃ A c ds, e = .returned (.tuple #[.slice A ds.length c, .int .i64 0]) ∧ Bytes w' A ds.length c ds ∧ HoldT (tokD bs) ds ∧ Below w.heap.size w w') ∨
  (1048576 < bs.length ∧ e = .returned (.tuple #[.slice none 0 0, .int .i64 2]) ∧ Below w.heap.size w w')
set_option maxRecDepth 100000 in
set_option maxHeartbeats 2000000 in
theorem ddeflate_any (A : Option Addr) (n c : Nat) (bs : List Nat) (w : World) (h : Bytes w A n c bs) :
    Calls Try.prog 12 #[.slice A n c] w (DDefIs bs w) := by
  have HB := Lib.hid h.byte
  have HT := Lib.hid (dtokens_any A n c bs w h)
  clear h
  go_enter Try.func12, Try.ntmps12
  go_wp2_with fail
  refine HT.out.mono ?_
  rintro e w1 (⟨hle, A1, c1, rfl, htk, htl, hb⟩ | ⟨hgt, rfl, hb⟩)
  · have H1 := Lib.hid (And.intro hle hb)
    have HP := Lib.hid (dput_any A1 _ c1 (tokD bs) w1 htk (by omega))
    clear hle htk hb htl
    go_wp2_with fail
    refine HP.out.mono ?_
    rintro e w2 (⟨-, A2, c2, ds, rfl, hby, hn, hl, hb⟩ | ⟨hbad, -, -⟩)
    rotate_left
    · rw [tokD_ok HB.out] at hbad; cases hbad
    have HZ := Lib.hid (show bs.length ≤ 1048576 ∧ Bytes w2 A2 ds.length c2 ds ∧ HoldT (tokD bs) ds ∧ Below w.heap.size w w2 from ⟨H1.out.1, hby, ⟨hby.byte, hn, hl⟩, H1.out.2.trans (hb.mono H1.out.2.size)⟩)
    clear hby hn hl hb
    go_wp2_with fail
    go_ret2
    exact .inl ⟨HZ.out.1, A2, c2, ds, rfl, HZ.out.2.1, HZ.out.2.2.1, HZ.out.2.2.2⟩
  · have HZ := Lib.hid (And.intro hgt hb)
    clear hgt hb
    go_wp2_with fail
    go_ret2
    exact .inr ⟨HZ.out.1, rfl, HZ.out.2⟩
set_option maxRecDepth 100000 in
theorem ex_tok : tokD [97, 98, 97, 98, 97, 98] = [⟨97, 0, 0⟩, ⟨98, 0, 0⟩, ⟨0, 4, 2⟩] := by kernel_rfl
set_option maxRecDepth 100000 in
theorem ex_hold : HoldT (tokD [97, 98, 99]) [75, 76, 74, 6, 0] := ⟨by decide, by kernel_rfl, by kernel_rfl⟩
end Go.Proofs.Ytnjdnldoopgcpaa
