/- The walk of BitsWrites. -/
import Derived.Test.YtaophopgmmjbeaaBitsWritesL
import Derived.Deep.LoopGhost
namespace Go.Proofs.Ytaophopgmmjbeaa
open Go.RowKit

set_option maxRecDepth 100000 in
set_option maxHeartbeats 8000000 in
theorem writes_law (A1 : Option Addr) (n1 c1 : Nat) (F : Nat → OpV) (w : World) (h' : Ops w A1 n1 c1 F) :
    Calls Try.prog 4 #[.slice A1 n1 c1] w (True_ w) := by
  have hcap := h'.cap
  by_cases hn1 : 100 < n1
  · clear h'
    go_enter Try.func4, Try.ntmps4
    go_wp2
    go_ret
    exact ⟨rfl, Below.refl _ _⟩
  have hn1 : n1 ≤ 100 := by omega
  obtain ⟨i0, hi0, hz0, hz1, hz2⟩ := info_parts infoB
  have H' := Lib.hid h'
  clear h'
  go_enter Try.func4, Try.ntmps4
  go_wp2_with fail
  refine (newWriter_any _).mono ?_
  rintro e w1 ⟨rfl, hw1, hb1⟩
  have h0 : Wr1 w w1 0 0 (.slice none 0 0) (.slice none 0 0) := ⟨⟨0, 0, [], hw1, by omega, rfl, rfl, hb1.size⟩, World.ownsRow_nil _ _ _ _, hb1⟩
  have H0 := Lib.hid h0
  clear hw1 hb1 h0
  go_wp2_with fail
  go_loopw [4, 5] (fun x y wr => ∃ (i M T : Nat) (v : Value), i ≤ n1 ∧ T ≤ 24 * i ∧ y = .int .i64 i ∧ Wr1 w wr M T v x) (fun _ y _ => n1 - (intOf y).toNat)
  case atStart => exact ⟨0, 0, 0, _, by omega, by omega, rfl, H0.out⟩
  case round =>
    obtain ⟨i, M, T, v, hi, hT, rfl, hr⟩ := hrel
    obtain ⟨al, cl, rfl⟩ := own_slice hr.own
    have hsw := hr.below.size
    have HR := Lib.hid hr
    clear hr
    by_cases hlt : i < n1
    · obtain ⟨RO, oo, hA, hRO, hcell⟩ := H'.out.at_ (by omega)
      have hbig := H'.out.big i hlt
      obtain ⟨k0, k1, k2⟩ := (hcell i hlt).below HR.out.below hRO
      have HA := Lib.hid hA
      clear hcell hA
      obtain rfl := HA.out
      obtain ⟨w5, hw5⟩ : ∃ w5, wr.alloc (.cells #[.int .i64 (F i).c, .int .i64 (F i).v, .int .i64 (F i).n] 33) = w5 := ⟨_, rfl⟩
      have hO5 : Whole w5 wr.heap.size 33 #[.int .i64 (F i).c, .int .i64 (F i).v, .int .i64 (F i).n] := by rw [← hw5]; exact Whole.made _ _ _
      have hf5 : Fr (fun _ => False) wr w5 := by rw [← hw5]; exact (Fr.refl _ _).alloc _
      have hs6 : w5.heap.size = wr.heap.size + 1 := by rw [← hw5]; simp
      have H5 := Lib.hid (And.intro (HR.out.below' hf5) hO5)
      have HW5 := Lib.hid hw5
      clear hO5 hf5 hw5
      by_cases hc0 : (F i).c = 0
      · have e0 : ((F i).c == 0) = true := by rw [beq_iff_eq]; exact hc0
        clear hc0
        go_wp2_with fail
        rw [HW5.out]
        refine (xput_all (F i) H5.out.1.own H5.out.1.wd.lt (by omega) (by omega) hbig).mono ?_
        rintro e w6 ⟨lv6, rfl, hp6⟩
        have hO6 := H5.out.2.frame hp6.2.1 (fun e => by
          obtain ⟨_, _, cs, k1⟩ := own_lt H5.out.1.own e.symm
          exact k1.apart H5.out.2 (by decide) rfl)
        have q1 : w6.cell? ⟨wr.heap.size, 1, none⟩ = some (.int .i64 (F i).v) := by rw [hO6.reads 1]; rfl
        have q2 : w6.cell? ⟨wr.heap.size, 2, none⟩ = some (.int .i64 (F i).n) := by rw [hO6.reads 2]; rfl
        have H6 := Lib.hid (H5.out.1.refput hp6)
        obtain ⟨al6, cl6, rfl⟩ := own_slice hp6.1
        have hle6 := nextP_le M T (F i)
        clear hp6 hO6
        go_wp2_with fail
        refine (wput_all (F i) H6.out.1 (by omega)).mono ?_
        rintro e w7 ⟨rfl, hw7⟩
        obtain ⟨v7, k7a, k7b, k7c⟩ := wrote_bits H6.out.1 H6.out.2.1 H6.out.2.2 hw7
        have HE := Lib.hid (And.intro k7a (And.intro k7b k7c))
        clear hw7 k7a k7b k7c
        generalize nextP M T (F i) = t at *
        obtain ⟨M', T', E'⟩ := t
        simp only at HE hle6
        go_wp2_with fail
        refine (wbytes_keep _ _ _ _ _ _ HE.out.1 (by omega)).mono ?_
        rintro e w8 ⟨Ab, cb, Rb, bs, rfl, hnew, hrow, hnum, hlen, hwd8, hf8⟩
        have hown8 := own_frame HE.out.2.1 hf8 (fun g hg e => by
          obtain ⟨_, _, cs, k1⟩ := own_lt HE.out.2.1 hg
          obtain ⟨_, _, cs2, k2⟩ := HE.out.1.row e.symm
          exact k1.apart k2 (by decide) rfl)
        have hbel8 : Below w.heap.size w w8 := HE.out.2.2.trans (hf8.below HE.out.2.2.size (fun j hj e => by have := (HE.out.1.row e.symm).1; omega))
        obtain ⟨A6, c6, e6, hbls⟩ := bls_own hown8
        injection e6 with e6 e7 e8
        subst e6 e8
        have hs8 := hf8.size
        have hcvA := hrow.bytes.str
        have hcvB : (convert 22 9 (.slice Ab bs.length cb)).run Try.prog w8.drew = .ok (.string (strB bs)) w8.drew := (hrow.kept (row := none) (w' := w8.drew) (only_drew (World.grownBy.refl _ _)) (by simp)).bytes.str
        have hblsD : Bls w8.drew al6 T' cl6 M' := hbls.drew
        obtain ⟨oR, hroom⟩ := row_room hrow
        have hsz7 : w.heap.size < w7.heap.size := by obtain ⟨cs, k⟩ := HE.out.1.whole; exact k.lt
        have hM' := hwd8.lt
        have H8 := Lib.hid (And.intro hwd8 (And.intro hown8 (And.intro hbel8 (And.intro hnew (And.intro hrow (And.intro hnum (And.intro hlen (And.intro hblsD (And.intro hM' hroom)))))))))
        have hcapb := hrow.cap
        have htopb := hrow.top
        clear hwd8 hown8 hbel8 hnew hrow hnum hlen hf8 hbls hblsD hM' hroom
        go_wp2_with fail
        go_region_with (go_at_call 24; (with_reducible refine (xb_any _ _ _ _ _ H8.out.2.2.2.2.2.2.2.1 (by omega)).mono ?_); rintro e w9 ⟨g, rfl, hg, hw9, hb9⟩; have hcvC := ref_str hw9 H8.out.2.2.2.2.2.2.2.2.1 H8.out.2.2.2.2.1.byte H8.out.2.2.2.2.2.1 H8.out.2.2.2.2.2.2.1 (by omega); have hcvD := (H8.out.2.2.2.2.1.bytes.below (w' := w9) ⟨hb9.os, hb9.tape, hb9.output, hb9.size, hb9.block⟩).str; have H9 := Lib.hid (And.intro hg (And.intro hw9 hb9)); clear hg hw9 hb9)
        all_goals
          have hb9' : Below w8.heap.size w8 w9 := ⟨H9.out.2.2.os, H9.out.2.2.tape, H9.out.2.2.output, H9.out.2.2.size, H9.out.2.2.block⟩
          have hs9 := hb9'.size
          have HB9 := Lib.hid hb9'
          clear hb9'
          go_wp2_with fail
          go_loopw [10] (fun x wl => ∃ k : Nat, k ≤ bs.length ∧ x = .int .i64 k ∧ (0 < bs.length → ∃ cs, Whole wl Rb 5 cs ∧ oR + bs.length ≤ cs.size) ∧ Fr (fun j => j = Rb ∧ 0 < bs.length) w9 wl) (fun x _ => bs.length - (intOf x).toNat)
          case atStart =>
            refine ⟨0, by omega, rfl, fun h => ?_, Fr.refl _ _⟩
            obtain ⟨-, cur, hw, hc⟩ := H8.out.2.2.2.2.2.2.2.2.2 h
            exact ⟨cur, hw.here HB9.out, hc⟩
          case round =>
            obtain ⟨k, hk, rfl, hwl, hfl⟩ := hrel
            have hsl := hfl.size
            have HL := Lib.hid (And.intro hwl hfl)
            by_cases hkt : k < bs.length
            · obtain ⟨e6, -⟩ := H8.out.2.2.2.2.2.2.2.2.2 (by omega)
              obtain ⟨cs, hw, hcs⟩ := hwl (by omega)
              obtain ⟨u0, hu0⟩ : ∃ u0, cs[oR + k]? = some u0 := ⟨cs[oR + k], Array.getElem?_eq_getElem (by omega)⟩
              have q1 : wr.cell? ⟨Rb, oR + k, none⟩ = some u0 := by rw [hw.reads]; exact hu0
              have q2 := hw.thawed (oR + k)
              have HC := Lib.hid (And.intro hw hcs)
              have HA6 := Lib.hid e6
              clear hwl hfl hw hcs e6 hu0
              obtain rfl := HA6.out
              go_wp2
              go_roundw
              case rel => exact ⟨k + 1, by omega, by go_num, fun _ => ⟨_, HC.out.1.set (oR + k) _, by simpa using HC.out.2⟩, HL.out.2.set (fun _ => ⟨rfl, by omega⟩) _⟩
              case measure => simp [intOf]; omega
            · obtain rfl : k = bs.length := by omega
              clear hwl hfl
              have hne : 0 < bs.length → w7.heap.size ≤ Rb ∧ Rb < w8.heap.size := fun h => H8.out.2.2.2.1 (List.length_pos_iff.1 h)
              have hf9 : Fr (fun j => j = Rb ∧ 0 < bs.length) w8 wr := ((Fr.of_below HB9.out).more (fun j hj e => absurd hj (by omega))).trans HL.out.2 (fun _ _ e => e)
              have hz1 : WD wr w.heap.size w.heap.size v7 M' T' := H8.out.1.frame hf9 (fun e => by have := hne e.2; omega) (fun g hg e => by
                have := (HE.out.1.row hg).2.1
                have := hne e.2
                omega)
              have hz2 := own_frame H8.out.2.1 hf9 (fun g hg e => by
                obtain ⟨_, _, cs, k1⟩ := own_lt H8.out.2.1 hg
                obtain ⟨-, cur, k2, -⟩ := H8.out.2.2.2.2.2.2.2.2.2 e.2
                exact k1.apart k2 (by decide) e.1)
              have hz3 : Below w.heap.size w wr := H8.out.2.2.1.trans (hf9.below H8.out.2.2.1.size (fun j hj e => by have := hne e.2; omega))
              have HZ := Lib.hid (And.intro hz1 (And.intro hz2 hz3))
              clear hne hf9 hz1 hz2 hz3
              go_wp2
              go_roundw
              case rel => exact ⟨i + 1, M', T', v7, by omega, by omega, by go_num, HZ.out.1, HZ.out.2.1, HZ.out.2.2⟩
              case measure => simp [intOf]; omega
      · have e0 : ((F i).c == 0) = false := by rw [beq_eq_false_iff_ne]; exact hc0
        clear hc0
        go_wp2_with fail
        rw [HW5.out]
        refine (walign_any _ _ _ _ _ _ H5.out.1.wd (by omega)).mono ?_
        rintro e w6 ⟨rfl, hw6⟩
        obtain ⟨v7, k7a, k7b, k7c⟩ := wrote_bits H5.out.1.wd H5.out.1.own H5.out.1.below hw6
        have hMT := H5.out.1.wd.lt
        have hup : T ≤ up8w T ∧ up8w T < T + 8 ∧ up8w T % 8 = 0 := by unfold up8w; omega
        have H6 := Lib.hid (And.intro k7a (And.intro k7b k7c))
        have HM := Lib.hid hMT
        clear hw6 k7a k7b k7c hMT
        go_wp2_with fail
        go_loopg [4] (up8w T - T) (fun g x wr => ∃ U : Nat, g = up8w T - U ∧ T ≤ U ∧ U ≤ up8w T ∧ WD wr w.heap.size w.heap.size v7 M (up8w T) ∧ wr.ownsRow w.heap.size 4 1 x U (bitsV M U) ∧ Below w.heap.size w wr)
        case atStart => exact ⟨T, rfl, Nat.le_refl _, hup.1, H6.out⟩
        case round =>
          obtain ⟨U, rfl, hU1, hU2, hwd, hown, hbel⟩ := hrel
          obtain ⟨al6, cl6, rfl⟩ := own_slice hown
          have hszr := hbel.size
          have HE := Lib.hid (And.intro hwd (And.intro hown hbel))
          clear hwd hown hbel
          by_cases h8 : U % 8 = 0
          · obtain rfl : U = up8w T := by omega
            have g0 : (((up8w T : Nat) : Int) % 8 == 0) = true := by rw [beq_iff_eq]; omega
            have g1 : (((up8w T : Nat) : Int) % 8 != 0) = false := by rw [bne_eq_false_iff_eq]; omega
            obtain ⟨w7, rfl⟩ : ∃ w7 : World, w7 = wr := ⟨_, rfl⟩
            have hle6 : up8w T ≤ 24 * (i + 1) := by omega
            go_wp2_with fail
            refine (wbytes_keep _ _ _ _ _ _ HE.out.1 (by omega)).mono ?_
            rintro e w8 ⟨Ab, cb, Rb, bs, rfl, hnew, hrow, hnum, hlen, hwd8, hf8⟩
            have hown8 := own_frame HE.out.2.1 hf8 (fun g hg e => by
              obtain ⟨_, _, cs, k1⟩ := own_lt HE.out.2.1 hg
              obtain ⟨_, _, cs2, k2⟩ := HE.out.1.row e.symm
              exact k1.apart k2 (by decide) rfl)
            have hbel8 : Below w.heap.size w w8 := HE.out.2.2.trans (hf8.below HE.out.2.2.size (fun j hj e => by have := (HE.out.1.row e.symm).1; omega))
            obtain ⟨A6, c6, e6, hbls⟩ := bls_own hown8
            injection e6 with e6 e7 e8
            subst e6 e8
            have hs8 := hf8.size
            have hcvA := hrow.bytes.str
            have hcvB : (convert 22 9 (.slice Ab bs.length cb)).run Try.prog w8.drew = .ok (.string (strB bs)) w8.drew := (hrow.kept (row := none) (w' := w8.drew) (only_drew (World.grownBy.refl _ _)) (by simp)).bytes.str
            have hblsD : Bls w8.drew al6 (up8w T) cl6 M := hbls.drew
            obtain ⟨oR, hroom⟩ := row_room hrow
            have hsz7 : w.heap.size < w7.heap.size := by obtain ⟨cs, k⟩ := HE.out.1.whole; exact k.lt
            have hMl := hwd8.lt
            have H8 := Lib.hid (And.intro hwd8 (And.intro hown8 (And.intro hbel8 (And.intro hnew (And.intro hrow (And.intro hnum (And.intro hlen (And.intro hblsD (And.intro hMl hroom)))))))))
            have hcapb := hrow.cap
            have htopb := hrow.top
            clear hwd8 hown8 hbel8 hnew hrow hnum hlen hf8 hbls hblsD hMl hroom
            go_wp2_with fail
            go_region_with (go_at_call 24; (with_reducible refine (xb_any _ _ _ _ _ H8.out.2.2.2.2.2.2.2.1 (by omega)).mono ?_); rintro e w9 ⟨g, rfl, hg, hw9, hb9⟩; have hcvC := ref_str hw9 H8.out.2.2.2.2.2.2.2.2.1 H8.out.2.2.2.2.1.byte H8.out.2.2.2.2.2.1 H8.out.2.2.2.2.2.2.1 (by omega); have hcvD := (H8.out.2.2.2.2.1.bytes.below (w' := w9) ⟨hb9.os, hb9.tape, hb9.output, hb9.size, hb9.block⟩).str; have H9 := Lib.hid (And.intro hg (And.intro hw9 hb9)); clear hg hw9 hb9)
            all_goals
              have hb9' : Below w8.heap.size w8 w9 := ⟨H9.out.2.2.os, H9.out.2.2.tape, H9.out.2.2.output, H9.out.2.2.size, H9.out.2.2.block⟩
              have hs9 := hb9'.size
              have HB9 := Lib.hid hb9'
              clear hb9'
              go_wp2_with fail
              go_loopw [10] (fun x wl => ∃ k : Nat, k ≤ bs.length ∧ x = .int .i64 k ∧ (0 < bs.length → ∃ cs, Whole wl Rb 5 cs ∧ oR + bs.length ≤ cs.size) ∧ Fr (fun j => j = Rb ∧ 0 < bs.length) w9 wl) (fun x _ => bs.length - (intOf x).toNat)
              case atStart =>
                refine ⟨0, by omega, rfl, fun h => ?_, Fr.refl _ _⟩
                obtain ⟨-, cur, hw, hc⟩ := H8.out.2.2.2.2.2.2.2.2.2 h
                exact ⟨cur, hw.here HB9.out, hc⟩
              case round =>
                obtain ⟨k, hk, rfl, hwl, hfl⟩ := hrel
                have hsl := hfl.size
                have HL := Lib.hid (And.intro hwl hfl)
                by_cases hkt : k < bs.length
                · obtain ⟨e6, -⟩ := H8.out.2.2.2.2.2.2.2.2.2 (by omega)
                  obtain ⟨cs, hw, hcs⟩ := hwl (by omega)
                  obtain ⟨u0, hu0⟩ : ∃ u0, cs[oR + k]? = some u0 := ⟨cs[oR + k], Array.getElem?_eq_getElem (by omega)⟩
                  have q1 : wr.cell? ⟨Rb, oR + k, none⟩ = some u0 := by rw [hw.reads]; exact hu0
                  have q2 := hw.thawed (oR + k)
                  have HC := Lib.hid (And.intro hw hcs)
                  have HA6 := Lib.hid e6
                  clear hwl hfl hw hcs e6 hu0
                  obtain rfl := HA6.out
                  go_wp2
                  go_roundw
                  case rel => exact ⟨k + 1, by omega, by go_num, fun _ => ⟨_, HC.out.1.set (oR + k) _, by simpa using HC.out.2⟩, HL.out.2.set (fun _ => ⟨rfl, by omega⟩) _⟩
                  case measure => simp [intOf]; omega
                · obtain rfl : k = bs.length := by omega
                  clear hwl hfl
                  have hne : 0 < bs.length → w7.heap.size ≤ Rb ∧ Rb < w8.heap.size := fun h => H8.out.2.2.2.1 (List.length_pos_iff.1 h)
                  have hf9 : Fr (fun j => j = Rb ∧ 0 < bs.length) w8 wr := ((Fr.of_below HB9.out).more (fun j hj e => absurd hj (by omega))).trans HL.out.2 (fun _ _ e => e)
                  have hz1 : WD wr w.heap.size w.heap.size v7 M (up8w T) := H8.out.1.frame hf9 (fun e => by have := hne e.2; omega) (fun g hg e => by
                    have := (HE.out.1.row hg).2.1
                    have := hne e.2
                    omega)
                  have hz2 := own_frame H8.out.2.1 hf9 (fun g hg e => by
                    obtain ⟨_, _, cs, k1⟩ := own_lt H8.out.2.1 hg
                    obtain ⟨-, cur, k2, -⟩ := H8.out.2.2.2.2.2.2.2.2.2 e.2
                    exact k1.apart k2 (by decide) e.1)
                  have hz3 : Below w.heap.size w wr := H8.out.2.2.1.trans (hf9.below H8.out.2.2.1.size (fun j hj e => by have := hne e.2; omega))
                  have HZ := Lib.hid (And.intro hz1 (And.intro hz2 hz3))
                  clear hne hf9 hz1 hz2 hz3
                  go_wp2
                  go_roundw
                  case rel => exact ⟨i + 1, M, (up8w T), v7, by omega, by omega, by go_num, HZ.out.1, HZ.out.2.1, HZ.out.2.2⟩
                  case measure => simp [intOf]; omega
          · have g0 : ((U : Int) % 8 == 0) = false := by rw [beq_eq_false_iff_ne]; omega
            have g1 : ((U : Int) % 8 != 0) = true := by rw [bne_iff_ne]; omega
            go_wp2_with (at_builtin; refine wpList_append_own _ rfl _ _ 28 rfl w.heap.size 4 i0 (.bool false) 1 1 Try.underlying28 hi0 hz0 hz1 hz2 rfl (by decide) _ _ _ rfl (HE.out.2.1.alloc _) ⟨wr.heap.size, 0, none⟩ 1 1 [.bool false] rfl rfl (World.news_of_block (cs := #[.bool false]) (t := 4) (fr := (0, 0)) (heap_alloc_new wr _)) (by simp [Value.oneCell']) ?c3 ?c4 ?c5 ?_)
            case c3 => unfold maxLen; omega
            case c4 => omega
            case c5 => simp; omega
            intro v'' w3 hown3 hgrow _
            have hb3 : Below w.heap.size w w3 := HE.out.2.2.trans (((Below.refl _ _).alloc hszr _).grown hgrow (by simp; omega) (fun k e => (own_lt HE.out.2.1 e).1))
            have hwd3 : WD w3 w.heap.size w.heap.size v7 M (up8w T) := by
              refine HE.out.1.frame (((Fr.refl (fun k => some k = (Value.slice al6 U cl6).ownBlock) _).alloc _).grown hgrow (fun j e _ => e.symm)) ?_ ?_
              · intro e
                obtain ⟨_, _, cs, k1⟩ := own_lt HE.out.2.1 e.symm
                obtain ⟨cs2, k2⟩ := HE.out.1.whole
                exact k1.apart k2 (by decide) rfl
              · intro g hg e
                obtain ⟨_, _, cs, k1⟩ := own_lt HE.out.2.1 e.symm
                obtain ⟨_, _, cs2, k2⟩ := HE.out.1.row hg
                exact k1.apart k2 (by decide) rfl
            have hown4 : w3.ownsRow w.heap.size 4 1 v'' (U + 1) (bitsV M (U + 1)) := by
              have hfb : M.testBit U = false := Nat.testBit_lt_two_pow (Nat.lt_of_lt_of_le HM.out (Nat.pow_le_pow_right (by omega) hU1))
              rw [bitsV_snoc, hfb]
              exact hown3
            have H3 := Lib.hid (And.intro hwd3 (And.intro hown4 hb3))
            clear hown3 hown4 hb3 hgrow hwd3
            go_wp2
            go_roundg (up8w T - (U + 1))
            case measure => omega
            case rel => exact ⟨U + 1, rfl, by omega, by omega, H3.out⟩
    · go_wp2_with fail
      refine (awake_any _).mono ?_
      rintro e w8 ⟨rfl, hb8⟩
      have HB := Lib.hid (HR.out.below.trans (hb8.mono hsw))
      clear hb8
      go_wp2
      go_ret
      exact ⟨rfl, HB.out⟩
end Go.Proofs.Ytaophopgmmjbeaa
