/- The walk of the law HuffPuts. -/
import Derived.Test.YtpcofdhhnfichaaHuffWord
import Derived.Test.YtpcofdhhnfichaaHuffAwake
import Derived.Test.YtpcofdhhnfichaaHuffPut
import Derived.Test.YtpcofdhhnfichaaLaidGen
namespace Go.Proofs.Ytpcofdhhnfichaa
open Go.RowKit

theorem TB.below {w w' : World} {B base G : Nat} {cs : Array Value} {v : Value} {syms : List Nat} {ws : Array Value} {n : Nat} (h : TB w B base G cs v syms ws n) (hb : Below w.heap.size w w') : TB w' B base G cs v syms ws n :=
  ⟨h.sz, h.whole.here hb, own_frame h.own (Fr.of_below hb) (fun g hg e => by have := (own_lt h.own hg).2.1; omega), h.words.here hb⟩
theorem news_whole {w : World} {g : Nat} {T : TypeId} {l : List Value} (h : Whole w g T l.toArray) : ∀ (j : Nat) u, l[j]? = some u → w.cell? ((⟨g, 0, none⟩ : Addr).add j) = some u := by
  intro j u hu
  have hadd : (⟨g, 0, none⟩ : Addr).add j = ⟨g, j, none⟩ := by unfold Addr.add; split <;> simp_all
  rw [hadd, h.reads]
  simpa using hu
/-- A put leaves a row of bools. -/
theorem bools_put {w w' : World} {B base M T g : Nat} {v : Value} {cs : Array Value} (hw : Whole w g 4 cs) (hwd : WD w B base v M T) (hf : Fr (fun k => k = B ∨ some k = v.ownBlock) w w') : Whole w' g 4 cs := by
  refine hw.frame hf (fun e => ?_)
  rcases e with e | e
  · obtain ⟨cs2, k2⟩ := hwd.whole
    exact hw.apart k2 (by decide) e
  · obtain ⟨_, _, cs2, k2⟩ := hwd.row e.symm
    exact hw.apart k2 (by decide) rfl
/-- An append to the row of bits leaves the writer. -/
theorem put_append {w w1 w3 : World} {M T N U : Nat} {v lv : Value} (hwd : WD w1 w.heap.size w.heap.size v M T) (hown : w1.ownsRow w.heap.size 4 1 lv U (bitsV N U)) (hb : Below w.heap.size w w1) (hgrow : w1.grownBy w3 lv.ownBlock) :
    WD w3 w.heap.size w.heap.size v M T ∧ Below w.heap.size w w3 := by
  refine ⟨hwd.frame (Fr.of_grown hgrow) (fun e => ?_) (fun g hg e => ?_), hb.grown hgrow hb.size (fun j e => (own_lt hown e).1)⟩
  · obtain ⟨_, _, cs, k1⟩ := own_lt hown e.symm
    obtain ⟨cs2, k2⟩ := hwd.whole
    exact k1.apart k2 (by decide) rfl
  · obtain ⟨_, _, cs, k1⟩ := own_lt hown e.symm
    obtain ⟨_, _, cs2, k2⟩ := hwd.row hg
    exact k1.apart k2 (by decide) rfl
/-- The writer's Bytes leaves the row of bits; nothing from before has turned. -/
theorem puts_bytes {w w3 w4 : World} {M T c : Nat} {v : Value} {al : Option Addr} (h : Wr1 w w3 M T v (.slice al T c)) (hf : Fr (fun k => some k = v.ownBlock) w3 w4) : Below w.heap.size w3 w4 ∧ Bls w4 al T c M := by
  refine ⟨hf.below h.below.size (fun j hj e => by have := (h.wd.row e.symm).1; omega), ?_⟩
  have hown := own_frame h.own hf (fun g hg e => by
    obtain ⟨_, _, cs, k1⟩ := own_lt h.own hg
    obtain ⟨_, _, cs2, k2⟩ := h.wd.row e.symm
    exact k1.apart k2 (by decide) rfl)
  obtain ⟨A', c', e, hb⟩ := bls_own hown
  injection e with e1 e2 e3
  subst e1
  subst e3
  exact hb
theorem words_of (l : List Int) (s x : Nat) (h : l[s]? = some (x : Int)) (hx : x ≤ 15) : (wordsAt l 15 0)[s * 2]? = some (.int .i64 ((if 0 < x then revB (codeOf (natsOf l) s x) x else 0 : Nat) : Int)) ∧ (wordsAt l 15 0)[s * 2 + 1]? = some (.int .i64 (x : Int)) := by
  have hs : s < l.length := (List.getElem?_eq_some_iff.1 h).1
  have hg := natsOf_getD h
  rw [wordsAt_at l 15 0 (s * 2) (by omega), wordsAt_at l 15 0 (s * 2 + 1) (by omega)]
  unfold wordIn
  have d1 : s * 2 / 2 = s := by omega
  have d2 : s * 2 % 2 = 0 := by omega
  have d3 : (s * 2 + 1) / 2 = s := by omega
  have d4 : ¬ (s * 2 + 1) % 2 = 0 := by omega
  simp only [d1, d2, d3, d4, hg, Int.toNat_natCast, if_true, if_false]
  by_cases h0 : 0 < x
  · have : 0 < x ∧ (x ≤ 15 ∨ x = 15 + 1 ∧ s < 0) := ⟨h0, .inl hx⟩
    rw [if_pos this, if_pos this, if_pos h0]
    exact ⟨rfl, rfl⟩
  · have : ¬ (0 < x ∧ (x ≤ 15 ∨ x = 15 + 1 ∧ s < 0)) := fun h => h0 h.1
    rw [if_neg this, if_neg this, if_neg h0]
    obtain rfl : x = 0 := by omega
    exact ⟨rfl, rfl⟩
set_option maxRecDepth 100000 in
set_option maxHeartbeats 8000000 in
theorem puts_law (A : Option Addr) (n c : Nat) (l : List Int) (A2 : Option Addr) (n2 c2 : Nat) (ss : List Int) (w : World) (h : IntsAt w A n c l) (h2 : IntsAt w A2 n2 c2 ss) :
    Calls Try.prog 5 #[.slice A n c, .slice A2 n2 c2] w (True_ w) := by
  obtain ⟨i0, hi0, hz0, hz1, hz2⟩ := info_parts infoB
  have hl := h.len
  subst hl
  have hl2 := h2.len
  subst hl2
  have hcap := h.cap
  have htop := h.top
  have hcap2 := h2.cap
  have htop2 := h2.top
  by_cases hn : 400 < l.length
  · clear h h2
    go_enter Try.func5, Try.ntmps5
    go_wp2
    go_ret
    exact ⟨rfl, Below.refl _ _⟩
  by_cases hn2 : 60 < ss.length
  · clear h h2
    go_enter Try.func5, Try.ntmps5
    go_wp2
    go_ret
    exact ⟨rfl, Below.refl _ _⟩
  have hn : l.length ≤ 400 := by omega
  have hn2 : ss.length ≤ 60 := by omega
  have H := Lib.hid h
  have H2 := Lib.hid h2
  clear h h2
  by_cases hk : lensOk l ∧ sumOk l
  · have hok := hk.1
    have hsum := hk.2
    have hshare : share (natsOf l) l.length ≤ 32768 := by rcases hsum with e | e | ⟨-, e⟩ <;> omega
    have HK := Lib.hid (And.intro hok (And.intro hsum hshare))
    clear hk hok hsum hshare
    go_enter Try.func5, Try.ntmps5
    go_wp2_with fail
    refine (make_ok A l.length c l w H.out HK.out.1 HK.out.2.1).mono ?_
    rintro e w1 ⟨hb1, B, G, v1, rfl, hB, hG, hT⟩
    have H1 := Lib.hid (And.intro hb1 hT)
    clear hb1 hT hB hG
    go_wp2_with fail
    refine (newWriter_any w1).mono ?_
    rintro e w2 ⟨rfl, hws, hb2⟩
    have hwd : WD w2 w1.heap.size w1.heap.size (.slice none 0 0) 0 0 := ⟨0, 0, [], hws, by omega, rfl, rfl, hb2.size⟩
    have HW := Lib.hid (show Wr1 w1 w2 0 0 (.slice none 0 0) (.slice none 0 0) from ⟨hwd, World.ownsRow_nil _ _ _ _, hb2⟩)
    clear hws hb2 hwd
    go_wp2_with fail
    go_loopw [8, 9] (fun lv i wr => ∃ k M T v, k ≤ ss.length ∧ i = .int .i64 (k : Nat) ∧ T ≤ 15 * k ∧ Wr1 w1 wr M T v lv) (fun _ i _ => ss.length - (intOf i).toNat)
    case atStart => exact ⟨0, 0, 0, _, by omega, rfl, by omega, HW.out⟩
    case round =>
      obtain ⟨k, M, T, v, hkl, rfl, hT15, hwr⟩ := hrel
      obtain ⟨al, cl, rfl⟩ := own_slice hwr.own
      have hsz := hwr.below.size
      have HR := Lib.hid hwr
      clear hwr
      by_cases hlt : k < ss.length
      · obtain ⟨s, hs⟩ : ∃ s, ss[k]? = some s := ⟨_, List.getElem?_eq_getElem hlt⟩
        obtain ⟨R2, o2, rfl, hR2, hc2⟩ := H2.out.at_ (by omega)
        have hbw : Below w.heap.size w wr := H1.out.1.trans (HR.out.below.mono H1.out.1.size)
        have gs : wr.cell? ⟨R2, o2 + k, none⟩ = some (.int .i64 s) := (hbw.cell (p := ⟨R2, o2 + k, none⟩) hR2).trans (hc2 k s hs)
        have lR2 : R2 < wr.heap.size := Nat.lt_of_lt_of_le hR2 hbw.size
        have hIr := H.out.below hbw
        have hTr := H1.out.2.below HR.out.below
        have HX := Lib.hid (And.intro hbw (And.intro hIr hTr))
        clear hs hc2 hbw hIr hTr
        by_cases hno : s < 0 ∨ (l.length : Int) ≤ s ∨ l[s.toNat]? = some 0
        · have HNO := Lib.hid hno
          clear hno
          go_wp2_with fail
          refine (word_none A l.length c l s wr HX.out.2.1 HNO.out).mono ?_
          rintro e w3 ⟨rfl, rfl⟩
          go_wp2_with fail
          have hput : Calls Try.prog 24 #[.pointer (some ⟨B, 0, none⟩), .pointer (some ⟨w1.heap.size, 0, none⟩), .int .i64 s] w3 fun e w' => e = .returned (.int .i64 8) ∧ w' = w3 := by
            by_cases hout : s < 0 ∨ (l.length : Int) ≤ s
            · exact tput_out _ _ _ _ _ _ _ _ _ _ _ HX.out.2.2 hout
            · obtain ⟨q, rfl⟩ : ∃ q : Nat, s = q := ⟨s.toNat, by omega⟩
              have hz : l[q]? = some ((0 : Nat) : Int) := by
                rcases HNO.out with e | e | e
                · omega
                · omega
                · simpa using e
              exact tput_none _ _ _ _ _ q _ _ _ _ _ HX.out.2.2 (by omega) (words_of l q 0 hz (by omega)).2
          refine hput.mono ?_
          rintro e w4 ⟨rfl, rfl⟩
          go_wp2_with (at_builtin; refine wpList_append_own_none rfl _ _ 39 rfl w1.heap.size 4 i0 1 Try.underlying39 hi0 (.slice al T cl) T _ rfl HR.out.own rfl ?_)
          go_wp2_with fail
          exact ⟨⟨k + 1, M, T, v, by omega, by go_num, by omega, HR.out⟩, by simp [intOf]; omega⟩
        · obtain ⟨q, rfl⟩ : ∃ q : Nat, s = q := ⟨s.toNat, by omega⟩
          have hql : q < l.length := by omega
          obtain ⟨x', hx'⟩ : ∃ x, l[q]? = some x := ⟨_, List.getElem?_eq_getElem hql⟩
          have hx15 := HK.out.1.2 x' (List.mem_of_getElem? hx')
          obtain ⟨x, rfl⟩ : ∃ x : Nat, x' = x := ⟨x'.toNat, by omega⟩
          have hx0 : 0 < x := by
            rcases Nat.eq_zero_or_pos x with e | e
            · subst e; exact absurd (.inr (.inr (by simpa using hx'))) hno
            · exact e
          have hwo := words_of l q x hx' (by omega)
          rw [if_pos hx0] at hwo
          have hword := word_some A l.length c l q x wr HX.out.2.1 HK.out.1 HK.out.2.2 hx' hx0
          have hkl := revB_lt (codeOf (natsOf l) q x) x
          have HXQ := Lib.hid (And.intro hwo hkl)
          have HWD := Lib.hid hword
          generalize revB (codeOf (natsOf l) q x) x = kk at *
          clear hwo hkl hword hno hx'
          go_wp2_with fail
          refine HWD.out.mono ?_
          rintro e w3 ⟨g, rfl, hg, hwg, hb3⟩
          have hfr : Fr (fun _ => False) wr w3 := (Fr.of_below hb3).more (fun j hj e => absurd hj (by omega))
          have hwr3 := HR.out.below' hfr
          have hT3 := HX.out.2.2.below hb3
          have gs3 : w3.cell? ⟨R2, o2 + k, none⟩ = some (.int .i64 (q : Int)) := (hb3.cell (p := ⟨R2, o2 + k, none⟩) lR2).trans gs
          have hsz3 := hb3.size
          have lR3 : R2 < w3.heap.size := by omega
          have H3 := Lib.hid (And.intro hwr3 (And.intro hT3 hwg))
          clear hfr hwr3 hT3 hwg hb3 gs
          go_wp2_with fail
          refine (tput_some B w.heap.size G l.length w1.heap.size w1.heap.size M T q kk x _ v1 v _ _ w3 H3.out.2.1 hql HXQ.out.1.1 HXQ.out.1.2 hx0 (by omega) HXQ.out.2 H3.out.1.wd (by omega)).mono ?_
          rintro e w4 ⟨rfl, hw4⟩
          have hw4' := hw4
          obtain ⟨v4, h4a, h4b, h4c⟩ := hw4'
          have hg4 := bools_put H3.out.2.2 H3.out.1.wd h4b
          obtain ⟨v5, k5a, k5b, k5c⟩ := wrote_bits H3.out.1.wd H3.out.1.own H3.out.1.below hw4
          have hMlt := H3.out.1.wd.lt
          have hn4 := news_whole hg4
          have hsz4 := k5c.size
          have H4 := Lib.hid (And.intro k5a (And.intro k5b (And.intro k5c (And.intro hn4 hMlt))))
          clear hw4 h4a h4b h4c hg4 k5a k5b k5c hMlt hn4 gs3
          have hxz : ((x : Int) == 0) = false := by simp; omega
          go_wp2_with (at_builtin; refine wpList_append_own _ rfl _ _ 39 rfl w1.heap.size 4 i0 (.bool false) 1 1 Try.underlying39 hi0 hz0 hz1 hz2 rfl (by decide) _ _ _ rfl H4.out.2.1 ⟨g, 0, none⟩ x x (bitsV kk x) rfl (by rw [bitsV_length, Nat.mul_one]) H4.out.2.2.2.1 (bitsV_one kk x) ?c3 ?c4 ?c5 ?_)
          case c3 => unfold maxLen; omega
          case c4 => omega
          case c5 => omega
          intro v' w5 hown' hgrow _
          have hpa := put_append H4.out.1 H4.out.2.1 H4.out.2.2.1 hgrow
          rw [← bitsV_put H4.out.2.2.2.2] at hown'
          have H5 := Lib.hid (show Wr1 w1 w5 (M + 2 ^ T * kk) (T + x) v5 v' from ⟨hpa.1, hown', hpa.2⟩)
          obtain ⟨a5, c5, rfl⟩ := own_slice hown'
          clear hown' hgrow hpa
          go_wp2_with fail
          exact ⟨⟨k + 1, _, T + x, v5, by omega, by go_num, by omega, H5.out⟩, by simp [intOf]; omega⟩
      · obtain rfl : k = ss.length := by omega
        have hMd : Wr1 w1 wr.drew M T v (.slice al T cl) := HR.out.below' ((Fr.refl _ _).drew)
        have hbw : Below w.heap.size w wr.drew := H1.out.1.trans (hMd.below.mono H1.out.1.size)
        have HD := Lib.hid (And.intro hMd hbw)
        clear hMd hbw
        go_wp2_with fail
        go_region_with (first
          | (go_at_call 12; (with_reducible refine (awake_any _).mono ?_); rintro e w3 ⟨rfl, hb3⟩; have hf3 : Fr (fun _ => False) wr.drew w3 := (Fr.of_below hb3).more (fun j hj e => absurd hj (by omega)); have H3 := Lib.hid (And.intro (HD.out.1.below' hf3) (HD.out.2.trans (hb3.mono HD.out.2.size))); clear hb3 hf3)
          | (go_at_call 25; (with_reducible refine (wbytes_keep _ _ _ _ _ _ H3.out.1.wd (by omega)).mono ?_); rintro e w4 ⟨Ab, cb, Rb, bs, rfl, hnew, hrow, hnum, hlen, hwd4, hf4⟩; have hp4 := puts_bytes H3.out.1 hf4; have hcvA := hrow.bytes.str; have hcapb := hrow.cap; have htopb := hrow.top; have H4 := Lib.hid (And.intro hp4 (And.intro hrow (And.intro hnum hlen))); clear hnew hrow hnum hlen hwd4 hf4 hp4)
          | (go_at_call 26; (with_reducible refine (xb_any _ _ _ _ _ H4.out.1.2 (by omega)).mono ?_); rintro e w5 ⟨g, rfl, hg, hw5, hb5⟩; have hcvC := ref_str hw5 H3.out.1.wd.lt H4.out.2.1.byte H4.out.2.2.1 H4.out.2.2.2 (by omega); have hcvD := (H4.out.2.1.bytes.below hb5).str; have H5 := Lib.hid hb5; clear hg hw5 hb5))
        all_goals
          go_wp2_with fail
          go_ret
          exact ⟨rfl, (H3.out.2.trans (H4.out.1.1.mono H1.out.1.size)).trans (H5.out.mono (by
            have e1 := H3.out.2.size
            have e2 := H4.out.1.1.size
            omega))⟩
  · have HK := Lib.hid hk
    clear hk
    have hbad := make_bad A l.length c l w H.out HK.out
    have HBAD := Lib.hid hbad
    clear hbad
    go_enter Try.func5, Try.ntmps5
    go_wp2_with fail
    refine HBAD.out.mono ?_
    rintro e w1 ⟨⟨-, rfl⟩ | ⟨-, rfl⟩, hb1⟩
    all_goals
      have HB1 := Lib.hid hb1
      clear hb1
      go_wp2_with fail
      refine (newWriter_any w1).mono ?_
      rintro e w2 ⟨rfl, -, hb2⟩
      have HB2 := Lib.hid (HB1.out.trans (hb2.mono HB1.out.size))
      clear hb2
      go_wp2_with fail
      refine (awake_any _).mono ?_
      rintro e w3 ⟨rfl, hb3⟩
      have HB3 := Lib.hid (HB2.out.trans (hb3.mono HB2.out.size))
      clear hb3
      go_wp2_with fail
      go_ret
      exact ⟨rfl, HB3.out⟩
end Go.Proofs.Ytpcofdhhnfichaa
