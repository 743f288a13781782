/- cut: Find. -/
import Derived.Test.YtdlmhienolmncaaGreatCutX
import Derived.Test.YtdlmhienolmncaaGreatShelf
namespace Go.Proofs.YtdlmhienolmncaaGreat
open Go.RowKit Dec

theorem infoBx : (Tryz.prog.info? 49).map (fun i => (i.zero, i.size, i.bytes)) = some (some (.agg #[.int .i64 0, .int .i64 0, .int .i64 0, .int .i64 0, .int .i64 0, .int .i64 0, .int .i64 0, .int .i64 0]), 8, 64) := by kernel_rfl
theorem info_bx : ∃ i, Tryz.prog.info? 49 = some i ∧ i.zero = some (.agg #[.int .i64 0, .int .i64 0, .int .i64 0, .int .i64 0, .int .i64 0, .int .i64 0, .int .i64 0, .int .i64 0]) ∧ i.size = 8 ∧ i.bytes = 64 := by
  have h := infoBx
  cases hi : Tryz.prog.info? 49 with
  | none => rw [hi] at h; cases h
  | some i =>
    rw [hi] at h
    injection h with h
    injection h with h1 h2
    injection h2 with h2 h3
    exact ⟨i, rfl, h1, h2, h3⟩
def rowBx (l : List BV) : List Value := (l.map bxV).flatten
theorem rowBx_snoc (l : List BV) (b : BV) : rowBx l ++ [.int .i64 b.x0.m, .int .i64 b.x0.s, .int .i64 b.y0.m, .int .i64 b.y0.s, .int .i64 b.x1.m, .int .i64 b.x1.s, .int .i64 b.y1.m, .int .i64 b.y1.s] = rowBx (l ++ [b]) := by unfold rowBx; rw [List.map_append]; exact flat_snoc _ _
theorem bxV_all (l : List BV) : ∀ cs ∈ l.map bxV, cs.length = 8 := fun cs h => by
  obtain ⟨x, -, rfl⟩ := List.mem_map.1 h
  rfl
theorem BxsAt.of_own {w : World} {base : Nat} {v : Value} {n : Nat} {l : List BV} (h : w.ownsRow base 49 8 v n (rowBx l)) : ∃ A c, v = .slice A n c ∧ BxsAt w A n c l := by
  obtain ⟨A, c, e, hr, -⟩ := RowAt.of_own (bxV_all l) (by decide) h
  exact ⟨A, c, e, hr⟩
theorem bxs_nil (w : World) : BxsAt w none 0 0 [] := RowAt.none _ _
def FindSaid (fs : List Nm) (l : List Mk) (t : ByteArray) (w : World) (e : Ending) (w' : World) : Prop :=
  ∃ A' c', e = .returned (.tuple #[.slice A' (findL fs l t).length c', .int .i64 (findE fs l t)]) ∧ BxsAt w' A' (findL fs l t).length c' (findL fs l t) ∧ Below w.heap.size w w'
theorem find_said_none {fs : List Nm} {l : List Mk} {t : ByteArray} {w w' : World} {E : Int} (h1 : findL fs l t = []) (h2 : findE fs l t = E) (hb : Below w.heap.size w w') : FindSaid fs l t w (.returned (.tuple #[.slice none 0 0, .int .i64 E])) w' :=
  ⟨none, 0, by rw [h1, h2]; rfl, by rw [h1]; exact bxs_nil _, hb⟩
/-- Where the search is: what it found, and what is left of the pieces. -/
structure FiSt (fs : List Nm) (l : List Mk) (t : List UInt8) (f a : Nat) (acc : List BV) (qs : List Pc) : Prop where
  ans : findP (pcs fs l) t ((allT (pcs fs l)).length + 1) 0 = (findP (pcs fs l) t f a).map (acc ++ ·)
  fuel : (allT (pcs fs l)).length + 1 ≤ f + a
  at_ : a ≤ (allT (pcs fs l)).length
  acc : acc.length ≤ a
  rest : ∀ k, a ≤ k → behindP (pcs fs l) k = behindP qs k
  small : ∀ p ∈ qs, p.text.size ≤ 32 ∧ p.fin ≤ 1000000000 ∧ p.text.size ≤ p.fin
theorem ext_list (l : List UInt8) (a : Nat) : ((⟨l.toArray⟩ : ByteArray).extract a (⟨l.toArray⟩ : ByteArray).size).data.toList = l.drop a := extract_rest ⟨l.toArray⟩ a
set_option maxRecDepth 100000 in
set_option maxHeartbeats 8000000 in
theorem findC_any (A : Option Addr) (n c : Nat) (l : List Mk) (A2 : Option Addr) (n2 c2 : Nat) (fs : List Nm) (t : ByteArray) (w : World) (h : MarksAt w A n c l) (hn : n ≤ 1000000) (h2 : NmsAt w A2 n2 c2 fs) (h60 : ∀ f ∈ fs, f.s.n ≤ 1000000) (ht : t.size ≤ 1000000) (hM : MX w) :
    Calls Tryz.prog 18 #[.slice A n c, .slice A2 n2 c2, .string t] w (FindSaid fs l t w) := by
  by_cases hz : t.size = 0
  · have he := empty_text hz
    have h1 : findL fs l t = [] := by unfold findL; rw [if_pos hz]
    have h2' : findE fs l t = 1 := by unfold findE; rw [if_pos hz]
    have HX := Lib.hid (And.intro h1 h2')
    clear h h2 h60 hM hz h1 h2'
    go_enter Tryz.func18, Tryz.ntmps18
    go_wp2
    go_step3
    go_wp2_with fail
    go_ret2
    exact find_said_none HX.out.1 HX.out.2 (Below.refl _ _)
  have he := full_text (s := t) (by omega)
  have hln : (readL fs l).length ≤ 1000000 := by
    unfold readL
    split
    · exact Nat.le_trans (pcs_len _ _) (by rw [h.len]; exact hn)
    · simp
  have HLN := Lib.hid hln
  have HR := Lib.hid (read_any A n c l A2 n2 c2 fs w h hn h2 h60)
  have HMX := Lib.hid hM
  obtain ⟨q, hq⟩ : ∃ q, readE fs l = q := ⟨_, rfl⟩
  have HQ := Lib.hid hq
  have HZ := Lib.hid hz
  have hq3 : q = 0 ∨ q = 1 ∨ q = 4 := by
    rw [← hq]
    unfold readE
    split
    · split
      · exact .inl rfl
      · exact .inr (.inr rfl)
    · exact .inr (.inl rfl)
  have hl32 : q = 0 → (allT (pcs fs l)).length ≤ 32000000 := fun h0 => by
    rw [h0] at hq
    have hk : nmsB fs = true := by
      unfold readE at hq
      split at hq
      · rename_i hk
        unfold knownB at hk
        simp only [Bool.and_eq_true] at hk
        exact hk.1
      · cases hq
    have h1 := allT_len (pcs fs l) (fun p hp => (pcs_small hk (by rw [h.len]; exact hn) p hp).1)
    have h2 := pcs_len fs l
    have h3 := h.len
    omega
  have HL32 := Lib.hid hl32
  unfold ReadSaid at HR
  rw [hq] at HR
  clear h h2 h60 hq hM hz hln hl32
  by_cases h0 : q = 0
  · subst h0
    have hrl : readL fs l = pcs fs l := by unfold readL; rw [HQ.out]; rfl
    rw [hrl] at HR HLN
    have hlen := HL32.out rfl
    clear hq3 hrl
    obtain ⟨i0, hi, hz0, hz1, hz2⟩ := info_bx
    go_enter Tryz.func18, Tryz.ntmps18
    go_wp2
    go_step3
    go_wp2_with fail
    refine HR.out.mono ?_
    rintro e w1 ⟨A1, c1, rfl, hp, hb⟩
    have HB1 := Lib.hid hb
    have HP1 := Lib.hid hp
    have HJ := Lib.hid (join_any A1 _ c1 _ w1 hp HLN.out)
    clear hp hb
    go_wp2_with fail
    refine HJ.out.mono ?_
    rintro e w2 ⟨rfl, hb⟩
    have HB2 := Lib.hid (HB1.out.trans (hb.mono HB1.out.size))
    have HP2 := Lib.hid (HP1.out.below hb)
    have HLOW := Lib.hid (show ∀ R o, A1 = some ⟨R, o, none⟩ → 0 < (pcs fs l).length → R < w2.heap.size from fun R o e hp => by
      obtain ⟨R', o', e', hR, -⟩ := HP1.out.row.at_ hp
      rw [e] at e'
      injection e' with e'
      injection e' with e1 e2
      subst e1
      exact Nat.lt_of_lt_of_le hR hb.size)
    clear hb
    obtain ⟨W, hW⟩ : ∃ W, (⟨(allT (pcs fs l)).toArray⟩ : ByteArray) = W := ⟨_, rfl⟩
    have hWs : W.size = (allT (pcs fs l)).length := by rw [← hW]; rfl
    have HE := Lib.hid (show ∀ a, (W.extract a W.size).data.toList = (allT (pcs fs l)).drop a from fun a => by rw [← hW]; exact ext_list _ a)
    rw [hW]
    clear hW
    obtain ⟨N, hN⟩ : ∃ N, (allT (pcs fs l)).length = N := ⟨_, rfl⟩
    have HNN := Lib.hid hN
    rw [hN] at hWs hlen
    rw [hWs] at HE
    go_wp2_with fail
    go_step3
    go_wp2_with fail
    go_loopw [8, 10, 12] (fun v8 v10 v12 wr => ∃ (a f n8 c8 : Nat) (A8 : Option Addr) (acc : List BV) (qs : List Pc), v12 = .int .i64 (a : Int) ∧ a ≤ N ∧ v8 = .slice A8 n8 c8 ∧ n8 ≤ 1000000 ∧ Hid (RowAt wr A8 n8 c8 10 (qs.map pcV)) ∧ Hid (FiSt fs l t.data.toList f a acc qs) ∧ Hid (wr.ownsRow w2.heap.size 49 8 v10 acc.length (rowBx acc)) ∧ Hid (Below w2.heap.size w2 wr) ∧ Hid (∀ R o, A8 = some ⟨R, o, none⟩ → 0 < qs.length → R < w2.heap.size)) (fun _ _ v12 _ => N - (intOf v12).toNat)
    case atStart => exact ⟨0, N + 1, _, _, _, [], pcs fs l, rfl, by omega, rfl, HLN.out, Lib.hid HP2.out.row, Lib.hid ⟨by rw [HNN.out]; cases findP (pcs fs l) t.data.toList (N + 1) 0 <;> simp, by rw [HNN.out]; omega, by omega, by simp, fun k _ => rfl, HP2.out.small⟩, Lib.hid (World.ownsRow_nil _ _ _ _), Lib.hid (Below.refl _ _), HLOW⟩
    case round =>
      obtain ⟨a, f, n8, c8, A8, acc, qs, rfl, ha, rfl, hn8, HRW, HF, HO, HB, HLW⟩ := hrel
      have HBW := Lib.hid (HB2.out.trans (HB.out.mono HB2.out.size))
      obtain ⟨a0, cc, rfl⟩ := own_slM HO.out
      have HIX := Lib.hid (Tryz.strings_Index (W.extract a N) t (Classical.choose (HMX.out.later HBW.out).2) wr (by rw [ByteArray.size_extract]; omega) (Classical.choose_spec (HMX.out.later HBW.out).2))
      rw [HE.out a] at HIX
      have ha1 : (0 : Int) ≤ (a : Int) := by omega
      have ha2 : (a : Int) ≤ (W.size : Int) := by omega
      obtain ⟨ix, hix⟩ : ∃ ix, Lib.index ((allT (pcs fs l)).drop a) t.data.toList = ix := ⟨_, rfl⟩
      have HI := Lib.hid hix
      rw [hix] at HIX
      clear hix
      go_wp2_with fail
      refine HIX.out.mono ?_
      rintro e w3 ⟨rfl, hw3⟩
      rw [hw3]
      clear hw3 w3
      obtain ⟨f', rfl⟩ : ∃ f', f = f' + 1 := ⟨f - 1, by have := HF.out.fuel; have := HF.out.at_; omega⟩
      by_cases hneg : ix < 0
      · have HANS := Lib.hid (show findO fs l t = some acc by
          unfold findO
          rw [HF.out.ans, findP_none (by rw [HI.out]; exact hneg)]
          simp)
        have HFL := Lib.hid (show findL fs l t = acc ∧ findE fs l t = 0 by
          unfold findL findE
          rw [if_neg HZ.out, if_neg HZ.out, if_pos HQ.out, if_pos HQ.out, HANS.out]
          exact ⟨rfl, rfl⟩)
        have d1 : decide (ix < 0) = true := decide_eq_true hneg
        obtain ⟨A3, c3, e3, h3⟩ := BxsAt.of_own HO.out
        have HZZ := Lib.hid (And.intro e3 h3)
        clear e3 h3
        go_wp2_with fail
        go_ret2
        refine ⟨A3, c3, ?_, by rw [HFL.out.1]; exact HZZ.out.2, HBW.out⟩
        rw [HFL.out.2, HFL.out.1, ← HZZ.out.1]
        rfl
      · obtain ⟨i, rfl⟩ : ∃ i : Nat, ix = (i : Int) := ⟨ix.toNat, by omega⟩
        have d1 : decide ((i : Int) < 0) = false := decide_eq_false (by omega)
        have htl : t.data.toList.length = t.size := Array.length_toList
        have hroom := index_room (s := (allT (pcs fs l)).drop a) (t := t.data.toList) (by intro e; rw [e] at htl; simp at htl; exact HZ.out htl.symm) i HI.out
        rw [List.length_drop, HNN.out, htl] at hroom
        have hz1' : 0 < t.size := Nat.pos_of_ne_zero HZ.out
        have hin : a + i < N := by omega
        have hex : ∃ p ∈ qs, a + i < p.fin := behind_some (HF.out.rest (a + i) (by omega)) (pcs_has (by rw [HNN.out]; exact hin))
        have hn8p : 0 < n8 := by
          obtain ⟨p, hp, -⟩ := hex
          have h1 := HRW.out.len
          rw [List.length_map] at h1
          have := List.length_pos_of_mem hp
          omega
        obtain ⟨R, o, rfl, -, -⟩ := HRW.out.at_ hn8p
        have HPQ := Lib.hid (show PcsAt wr (some ⟨R, o, none⟩) n8 c8 qs from ⟨HRW.out, HF.out.small⟩)
        have HBH := Lib.hid (behind_any R o n8 c8 qs (a + i) wr HPQ.out hex)
        have HTL := Lib.hid htl
        have ew : IntKind.i64.wrap ((a : Int) + (i : Int)) = ((a + i : Nat) : Int) := by rw [IntKind.wrap_i64]; omega
        have ew2 : IntKind.i64.wrap (((a + i : Nat) : Int) + (t.size : Int)) = ((a + i + t.size : Nat) : Int) := by rw [IntKind.wrap_i64]; omega
        have hroom2 : a + i + t.size ≤ N := by omega
        have HRO := Lib.hid (And.intro hroom2 hz1')
        obtain ⟨fr, hfr⟩ : ∃ fr, a + i = fr := ⟨_, rfl⟩
        obtain ⟨to_, hto⟩ : ∃ to_, fr + t.size = to_ := ⟨_, rfl⟩
        have HFR := Lib.hid (And.intro hfr hto)
        rw [hfr] at ew ew2 HBH HRO hroom2 hin
        rw [hto] at ew2 HRO hroom2
        clear hex hroom hz1' htl hfr hto
        go_wp2_with fail
        refine HBH.out.mono ?_
        rintro e w4 ⟨d, hd, rfl, hbe, hw4⟩
        rw [hw4]
        clear hw4 w4
        have HBE := Lib.hid (show behindP (pcs fs l) fr = qs.drop d by rw [← hbe]; exact HF.out.rest fr (by have := HFR.out.1; omega))
        have HBE2 := Lib.hid hbe
        have hpd := HPQ.out.drop (Nat.le_of_lt hd)
        have HAR := Lib.hid (around_any R (o + d * 10) (n8 - d) (c8 - d) (qs.drop d) to_ wr hpd (by omega) (by omega))
        have HPD := Lib.hid hpd
        obtain ⟨r, hr⟩ : ∃ r, aroundP (qs.drop d) to_ = r := ⟨_, rfl⟩
        have HRR := Lib.hid hr
        rw [hr] at HAR
        clear hpd hr hbe
        cases r with
        | none =>
          simp only [boxR, boxE, Option.getD_none, Option.isSome_none, Bool.false_eq_true, if_false] at HAR
          have HANS := Lib.hid (show findO fs l t = none by
            unfold findO
            rw [HF.out.ans, findP_bad HI.out (by rw [HFR.out.1, HTL.out, HFR.out.2, HBE.out]; exact HRR.out)]
            rfl)
          have HFL := Lib.hid (show findL fs l t = [] ∧ findE fs l t = 1 by
            unfold findL findE
            rw [if_neg HZ.out, if_neg HZ.out, if_pos HQ.out, if_pos HQ.out, HANS.out]
            exact ⟨rfl, rfl⟩)
          go_wp2_with fail
          refine HAR.out.mono ?_
          rintro e w5 ⟨rfl, hb⟩
          have HB5 := Lib.hid (HBW.out.trans (hb.mono HBW.out.size))
          clear hb
          go_wp2_with fail
          go_ret2
          exact find_said_none HFL.out.1 HFL.out.2 (HB5.out.alloc HB5.out.size _)
        | some b =>
          simp only [boxR, boxE, Option.getD_some, Option.isSome_some, if_true] at HAR
          go_wp2_with fail
          refine HAR.out.mono ?_
          rintro e w5 ⟨rfl, hb⟩
          have hb5 := HB.out.trans (hb.mono HB.out.size)
          have hszw := hb.size
          have hsz5 := hb5.size
          have hal : Below w5.heap.size w5 (w5.alloc (.cells #[.int .i64 b.x0.m, .int .i64 b.x0.s, .int .i64 b.y0.m, .int .i64 b.y0.s, .int .i64 b.x1.m, .int .i64 b.x1.s, .int .i64 b.y1.m, .int .i64 b.y1.s] 49)) := (Below.refl _ _).alloc (Nat.le_refl _) _
          have HO5 := Lib.hid (own_below3 (own_below3 HO.out hb) hal)
          have HB5 := Lib.hid (hb5.trans (hal.mono hb5.size))
          have HP5 := Lib.hid ((HPD.out.below hb).below hal)
          have hacc : acc.length ≤ 32000000 := by have := HF.out.acc; omega
          have hsa : (w5.alloc (.cells #[.int .i64 b.x0.m, .int .i64 b.x0.s, .int .i64 b.y0.m, .int .i64 b.y0.s, .int .i64 b.x1.m, .int .i64 b.x1.s, .int .i64 b.y1.m, .int .i64 b.y1.s] 49)).heap.size = w5.heap.size + 1 := World.size_alloc _ _
          clear hb hb5 hal
          go_wp2_with (at_builtin; refine wpList_append_own _ rfl _ _ 23 rfl w2.heap.size 49 i0 (.agg #[.int .i64 0, .int .i64 0, .int .i64 0, .int .i64 0, .int .i64 0, .int .i64 0, .int .i64 0, .int .i64 0]) 8 64 Tryz.underlying23 hi hz0 hz1 hz2 rfl (by decide) _ _ _ rfl (HO5.out.alloc _) ⟨w5.heap.size + 1, 0, none⟩ 1 1 [.int .i64 b.x0.m, .int .i64 b.x0.s, .int .i64 b.y0.m, .int .i64 b.y0.s, .int .i64 b.x1.m, .int .i64 b.x1.s, .int .i64 b.y1.m, .int .i64 b.y1.s] rfl rfl ?p0 ?p1 ?p2 ?p3 ?p4 ?_)
          case p0 => exact World.news_of_block (cs := #[.int .i64 b.x0.m, .int .i64 b.x0.s, .int .i64 b.y0.m, .int .i64 b.y0.s, .int .i64 b.x1.m, .int .i64 b.x1.s, .int .i64 b.y1.m, .int .i64 b.y1.s]) (t := 49) (fr := (0, 0)) (by have := heap_alloc_new (w5.alloc (.cells #[.int .i64 b.x0.m, .int .i64 b.x0.s, .int .i64 b.y0.m, .int .i64 b.y0.s, .int .i64 b.x1.m, .int .i64 b.x1.s, .int .i64 b.y1.m, .int .i64 b.y1.s] 49)) (.cells #[.int .i64 b.x0.m, .int .i64 b.x0.s, .int .i64 b.y0.m, .int .i64 b.y0.s, .int .i64 b.x1.m, .int .i64 b.x1.s, .int .i64 b.y1.m, .int .i64 b.y1.s] 49); rw [hsa] at this; exact this)
          case p1 => simp [Value.oneCell']
          case p2 => unfold maxLen; omega
          case p3 => omega
          case p4 => first | omega | (simp; omega)
          intro v' w8 hown' hgrow _
          have hg8 := hgrow.size
          simp only [World.size_alloc] at hg8
          have hb8 := (HB5.out.alloc HB5.out.size (.cells #[.int .i64 b.x0.m, .int .i64 b.x0.s, .int .i64 b.y0.m, .int .i64 b.y0.s, .int .i64 b.x1.m, .int .i64 b.x1.s, .int .i64 b.y1.m, .int .i64 b.y1.s] 49)).grown hgrow (by simp; omega) (fun j e => (own_lt HO5.out e).1)
          have hown2 : w8.ownsRow w2.heap.size 49 8 v' (acc ++ [b]).length (rowBx (acc ++ [b])) := by rw [← rowBx_snoc, List.length_append]; exact hown'
          have hq0 : 0 < qs.length := by have := HRW.out.len; rw [List.length_map] at this; omega
          have hRlow := HLW.out R o rfl hq0
          have hrow8 : RowAt w8 (some ⟨R, o + d * 10, none⟩) (n8 - d) (c8 - d) 10 ((qs.drop d).map pcV) := by
            refine HPD.out.row.moved (by omega) ?_
            intro R' o' e
            injection e with e
            injection e with e1 e2
            subst e1
            rw [hb8.block R hRlow, HB.out.block R hRlow]
          have hst : FiSt fs l t.data.toList f' to_ (acc ++ [b]) (qs.drop d) :=
            ⟨by
              rw [HF.out.ans, findP_step HI.out (by rw [HFR.out.1, HTL.out, HFR.out.2, HBE.out]; exact HRR.out), HFR.out.1, HTL.out, HFR.out.2]
              cases findP (pcs fs l) t.data.toList f' to_ <;> simp,
            by have := HF.out.fuel; have := HFR.out; have := HRO.out; omega,
            by rw [HNN.out]; exact HRO.out.1,
            by rw [List.length_append, List.length_singleton]; have := HF.out.acc; have := HFR.out; have := HRO.out; omega,
            fun k hk => by rw [dropWhile_more (pcs fs l) (a := fr) (by have := HFR.out; omega), HBE.out],
            fun p hp => HF.out.small p (List.mem_of_mem_drop hp)⟩
          have HEND := Lib.hid (And.intro hown2 (And.intro hb8 (And.intro hrow8 hst)))
          have hlow2 : ∀ R' o', some (⟨R, o + d * 10, none⟩ : Addr) = some ⟨R', o', none⟩ → 0 < (qs.drop d).length → R' < w2.heap.size := fun R' o' e _ => by
            injection e with e
            injection e with e1 e2
            subst e1
            exact hRlow
          have HLE := Lib.hid hlow2
          clear hown' hgrow hb8 hown2 hrow8 hst hg8 hlow2
          go_wp2_with fail
          go_roundw
          case rel => exact ⟨to_, f', n8 - d, c8 - d, _, acc ++ [b], qs.drop d, rfl, HRO.out.1, rfl, by omega, Lib.hid HEND.out.2.2.1, Lib.hid HEND.out.2.2.2, Lib.hid HEND.out.1, Lib.hid HEND.out.2.1, HLE⟩
          case measure => have := HFR.out; have := HRO.out; simp [intOf]; omega
  · have d0 : (q != 0) = true := by simp [h0]
    rcases hq3 with h | rfl | rfl
    · exact absurd h h0
    all_goals
      have HFL := Lib.hid (show findL fs l t = [] ∧ findE fs l t = readE fs l by
        unfold findL findE
        rw [if_neg HZ.out, if_neg HZ.out, HQ.out]
        exact ⟨rfl, rfl⟩)
      rw [HQ.out] at HFL
      clear h0 d0
      go_enter Tryz.func18, Tryz.ntmps18
      go_wp2
      go_step3
      go_wp2_with fail
      refine HR.out.mono ?_
      rintro e w1 ⟨A', c', rfl, hp, hb⟩
      have HB := Lib.hid hb
      clear hp hb
      go_wp2_with fail
      go_ret2
      exact find_said_none HFL.out.1 HFL.out.2 HB.out
end Go.Proofs.YtdlmhienolmncaaGreat
