/- The walk of BitsBack. -/
import Derived.Test.YtaophopgmmjbeaaBitsAwake
import Derived.Test.YtaophopgmmjbeaaBitsBytesL
import Derived.Test.YtaophopgmmjbeaaBitsBackM
import Derived.StillTailTactics
namespace Go.Proofs.Ytaophopgmmjbeaa
open Go.RowKit

theorem infoOp : (Try.prog.info? 33).map (fun i => (i.zero, i.size, i.bytes)) = some (some (.agg #[.int .i64 0, .int .i64 0, .int .i64 0]), 3, 24) := by kernel_rfl
/-- What is known at the head of the first loop. -/
structure Back1 (w wr : World) (F : Nat → OpV) (i : Nat) (v vin : Value) : Prop where
  wd : WD wr w.heap.size w.heap.size v (packed (kept F i)) (sumN (kept F i))
  own : wr.ownsRow w.heap.size 33 3 vin (kept F i).length (cellsO (kept F i))
  below : Below w.heap.size w wr
theorem kept_yes {F : Nat → OpV} {i : Nat} (ho : (F i).ok = true) : kept F (i + 1) = kept F i ++ [F i] := by
  rw [show kept F (i + 1) = if (F i).ok then kept F i ++ [F i] else kept F i from rfl, if_pos ho]
theorem kept_no {F : Nat → OpV} {i : Nat} (ho : (F i).ok = false) : kept F (i + 1) = kept F i := by
  rw [show kept F (i + 1) = if (F i).ok then kept F i ++ [F i] else kept F i from rfl, if_neg (by rw [ho]; simp)]
theorem Back1.drew {w wr : World} {F : Nat → OpV} {i : Nat} {v vin : Value} (h : Back1 w wr F i v vin) : Back1 w wr.drew F i v vin :=
  ⟨h.wd.frame (Fr.drew (Fr.refl (fun _ => False) _)) (fun h => h) (fun _ _ h => h), h.own, h.below.drew⟩
/-- Behind a call that was taken. -/
def Put1 (w : World) (F : Nat → OpV) (i : Nat) (vin : Value) (e : Ending) (w' : World) : Prop :=
  e = .returned (.int .i64 0) ∧ ∃ v', WD w' w.heap.size w.heap.size v' (packed (kept F (i + 1))) (sumN (kept F (i + 1))) ∧ w'.ownsRow w.heap.size 33 3 vin (kept F i).length (cellsO (kept F i)) ∧ Below w.heap.size w w'
theorem put_ok {w wr : World} {F : Nat → OpV} {i : Nat} {v vin : Value} (h : Back1 w wr F i v vin) (ho : (F i).ok = true) (hi : i ≤ 200) :
    Calls Try.prog 21 #[.pointer (some ⟨w.heap.size, 0, none⟩), .int .i64 (F i).v, .int .i64 (F i).n] wr (Put1 w F i vin) := by
  obtain ⟨h1, h2, h3, h4⟩ := OpV.ok_iff.1 ho
  have hs := sumN_le _ (kept_ok F i)
  have hl := kept_len F i
  obtain ⟨k, hk⟩ : ∃ k : Nat, (F i).n = k := ⟨(F i).n.toNat, by omega⟩
  obtain ⟨V, hV⟩ : ∃ V : Nat, (F i).v = V := ⟨(F i).v.toNat, by omega⟩
  rw [hk, hV, Int.toNat_natCast] at h4
  rw [hk, hV]
  refine (put_any _ _ _ _ k V _ _ h.wd (by omega) (Int.ofNat_lt.1 h4) (by omega)).mono ?_
  rintro e w' ⟨rfl, v', hw, hf, hv⟩
  refine ⟨rfl, v', ?_, own_frame h.own hf ?_, h.below.trans (hf.below h.below.size ?_)⟩
  · have e : kept F (i + 1) = kept F i ++ [F i] := kept_yes ho
    rw [e, packed_append, sumN_append, hk, hV, Int.toNat_natCast, Int.toNat_natCast]
    exact hw
  · intro g hg e
    obtain ⟨_, _, cs, k1⟩ := own_lt h.own hg
    rcases e with e | e
    · obtain ⟨cs2, k2⟩ := h.wd.whole
      exact k1.apart k2 (by decide) e
    · obtain ⟨_, _, cs2, k2⟩ := h.wd.row e.symm
      exact k1.apart k2 (by decide) rfl
  · intro j hj e
    rcases e with e | e
    · omega
    · have := (h.wd.row e.symm).1; omega
theorem put_no {w wr : World} {F : Nat → OpV} {i : Nat} (ho : (F i).ok = false) :
    Calls Try.prog 21 #[.pointer (some ⟨w.heap.size, 0, none⟩), .int .i64 (F i).v, .int .i64 (F i).n] wr fun e w' => e = .returned (.int .i64 1) ∧ wr = w' := by
  refine put_bad _ _ _ _ ?_
  have : ¬ ((F i).ok = true) := by rw [ho]; simp
  rw [OpV.ok_iff] at this
  omega
/-- Behind a call that was read back. -/
def Read1 (B R : Nat) (l : List OpV) (j L : Nat) (x : OpV) (w : World) (e : Ending) (w' : World) : Prop :=
  e = .returned (.tuple #[.int .i64 x.v, .int .i64 0]) ∧ RD w' B R (packed (l.drop (j + 1))) (L - sumN (l.take (j + 1))) ∧ w.grownBy w' (some B)
theorem read_ok {w : World} {B R j L : Nat} {l : List OpV} {x : OpV} (h : RD w B R (packed (l.drop j)) (L - sumN (l.take j))) (hx : l[j]? = some x) (ho : x.ok = true) (hL : sumN l ≤ L) :
    Calls Try.prog 11 #[.pointer (some ⟨B, 0, none⟩), .int .i64 x.n] w (Read1 B R l j L x w) := by
  obtain ⟨h1, h2, h3, h4⟩ := OpV.ok_iff.1 ho
  obtain ⟨e1, e2⟩ := packed_drop hx ho
  have e3 := sumN_take hx
  have e4 := sumN_part l (j + 1)
  have := rbits_any B R _ _ x.n.toNat w h (by omega) (by omega)
  rw [Int.toNat_of_nonneg h1] at this
  refine this.mono ?_
  rintro e w' ⟨rfl, hr, hg⟩
  rw [e1, Int.toNat_of_nonneg h3]
  rw [e2, show L - sumN (l.take j) - x.n.toNat = L - sumN (l.take (j + 1)) by omega] at hr
  exact ⟨rfl, hr, hg⟩
set_option maxRecDepth 100000 in
set_option maxHeartbeats 4000000 in
theorem back_law (A : Option Addr) (n c : Nat) (F : Nat → OpV) (w : World) (h : Ops w A n c F) :
    Calls Try.prog 5 #[.slice A n c] w (True_ w) := by
  have hcap := h.cap
  have htop := h.top
  by_cases hn : 200 < n
  · clear h
    go_enter Try.func5, Try.ntmps5
    go_wp2_with fail
    refine (newWriter_any _).mono ?_
    rintro e w1 ⟨rfl, hw1, hb1⟩
    have H1 := Lib.hid hb1
    clear hb1 hw1
    go_wp2_with fail
    refine (awake_any _).mono ?_
    rintro e w2 ⟨rfl, hb2⟩
    have H2 := Lib.hid hb2
    clear hb2
    go_wp2
    go_ret
    exact ⟨rfl, H1.out.trans (H2.out.mono H1.out.size)⟩
  have hn : n ≤ 200 := by omega
  obtain ⟨i0, hi0, hz0, hz1, hz2⟩ := info_parts infoOp
  have H := Lib.hid h
  clear h
  go_enter Try.func5, Try.ntmps5
  go_wp2_with fail
  refine (newWriter_any _).mono ?_
  rintro e w1 ⟨rfl, hw1, hb1⟩
  have h0 : Back1 w w1 F 0 (.slice none 0 0) (.slice none 0 0) := ⟨⟨0, 0, [], hw1, by omega, rfl, rfl, hb1.size⟩, World.ownsRow_nil _ _ _ _, hb1⟩
  have H0 := Lib.hid h0
  clear hw1 hb1 h0
  go_wp2_with fail
  go_loopw [4, 5, 6] (fun x y z wr => ∃ (i : Nat) (v : Value), i ≤ n ∧ z = .int .i64 i ∧ y = .int .i64 (sumN (kept F i)) ∧ Back1 w wr F i v x) (fun _ _ z _ => n - (intOf z).toNat)
  case atStart => exact ⟨0, _, by omega, rfl, rfl, H0.out⟩
  case round =>
    obtain ⟨i, v, hi, rfl, rfl, hr⟩ := hrel
    have HR := Lib.hid hr
    have hkl := kept_len F i
    have hsum := sumN_le _ (kept_ok F i)
    obtain ⟨Ain, cin, rfl, hcin, -⟩ := own_ops hr.own
    clear hr
    by_cases hlt : i < n
    · obtain ⟨R, o, hA, hR, hcell⟩ := H.out.at_ (by omega)
      obtain ⟨k0, k1, k2⟩ := (hcell i hlt).below HR.out.below hR
      have hcell' : ∀ w2, Below w.heap.size w w2 → OAt w2 R (o + i * 3) (F i) := fun w2 hb => (hcell i hlt).below hb hR
      have HA := Lib.hid hA
      clear hcell hA
      obtain rfl := HA.out
      go_wp2_with fail
      go_still_tail 11, (by kernel_rfl)
      by_cases ho : (F i).ok = true
      · obtain ⟨o1, o2, o3, o4⟩ := OpV.ok_iff.1 ho
        have HO := Lib.hid ho
        clear ho o4
        go_wp2_with fail
        refine (put_ok HR.out.drew HO.out (by omega)).mono ?_
        rintro e w2 ⟨rfl, v', hw, hown, hb⟩
        obtain ⟨k0', k1', k2'⟩ := (hcell' w2 hb)
        have hsz := hb.size
        have H2 := Lib.hid (And.intro hw (And.intro hown hb))
        clear hw hown hb
        go_wp2_with (at_builtin; refine wpList_append_own _ rfl _ _ 23 rfl w.heap.size 33 i0 (.agg #[.int .i64 0, .int .i64 0, .int .i64 0]) 3 24 Try.underlying23 hi0 hz0 hz1 hz2 rfl (by decide) _ _ _ rfl (H2.out.2.1.alloc _) ⟨w2.heap.size, 0, none⟩ 1 1 [.int .i64 (F i).c, .int .i64 (F i).v, .int .i64 (F i).n] rfl rfl (World.news_of_block (cs := #[.int .i64 (F i).c, .int .i64 (F i).v, .int .i64 (F i).n]) (t := 33) (fr := (0, 0)) (heap_alloc_new w2 _)) (by simp [Value.oneCell']) ?c3 ?c4 ?c5 ?_)
        case c3 => unfold maxLen; omega
        case c4 => omega
        case c5 => simp; omega
        intro v'' w3 hown3 hgrow _
        have hb3 : Below w.heap.size w w3 := H2.out.2.2.trans (((Below.refl _ _).alloc hsz _).grown hgrow (by simp; omega) (fun k e => (own_lt H2.out.2.1 e).1))
        have hw3 : WD w3 w.heap.size w.heap.size v' (packed (kept F (i + 1))) (sumN (kept F (i + 1))) := by
          refine H2.out.1.frame (((Fr.refl (fun k => some k = (Value.slice Ain (kept F i).length cin).ownBlock) _).alloc _).grown hgrow (fun j e _ => e.symm)) ?_ ?_
          · intro e
            obtain ⟨_, _, cs, k1⟩ := own_lt H2.out.2.1 e.symm
            obtain ⟨cs2, k2⟩ := H2.out.1.whole
            exact k1.apart k2 (by decide) rfl
          · intro g hg e
            obtain ⟨_, _, cs, k1⟩ := own_lt H2.out.2.1 e.symm
            obtain ⟨_, _, cs2, k2⟩ := H2.out.1.row hg
            exact k1.apart k2 (by decide) rfl
        obtain ⟨k0'', k1'', k2''⟩ := hcell' w3 hb3
        have H3 := Lib.hid (And.intro hw3 (And.intro hown3 hb3))
        clear hw3 hown3 hb3 hgrow
        go_wp2
        go_roundw
        case rel =>
          have e := kept_yes HO.out
          refine ⟨i + 1, v', by omega, by go_num, ?_, ⟨H3.out.1, ?_, H3.out.2.2⟩⟩
          · rw [e, sumN_append]
            exact congrArg (Value.int .i64) (by omega)
          · rw [e, List.length_append, cellsO_append]; exact H3.out.2.1
        case measure => simp [intOf]; omega
      · have HO := Lib.hid (show (F i).ok = false by simpa using ho)
        clear ho
        go_wp2_with fail
        refine (put_no HO.out).mono ?_
        rintro e w2 ⟨rfl, rfl⟩
        go_wp2
        go_roundw
        case rel =>
          refine ⟨i + 1, v, by omega, by go_num, ?_, ?_⟩
          · rw [kept_no HO.out]
          · have hb := HR.out.drew
            exact ⟨by rw [kept_no HO.out]; exact hb.wd, by rw [kept_no HO.out]; exact hb.own, hb.below⟩
        case measure => simp [intOf]; omega
    · obtain rfl : i = n := by omega
      have hsz := HR.out.below.size
      go_wp2_with fail
      refine (wbytes_any _ _ _ _ _ _ HR.out.wd (by omega)).mono ?_
      rintro e w3 ⟨Ab, cb, Rb, bs, rfl, -, -, hrow, hnum, hlen, hf3⟩
      have hb3 : Below w.heap.size w w3 := HR.out.below.trans (hf3.below hsz (fun j hj e => by have := (HR.out.wd.row e.symm).1; omega))
      have hown3 := own_frame HR.out.own hf3 (fun g hg e => by
        obtain ⟨_, _, cs, k1⟩ := own_lt HR.out.own hg
        obtain ⟨_, _, cs2, k2⟩ := HR.out.wd.row e.symm
        exact k1.apart k2 (by decide) rfl)
      have hbl : bs.length ≤ 1000 := by omega
      have H3 := Lib.hid (And.intro hb3 (And.intro hown3 (And.intro hrow hnum)))
      have HL := Lib.hid hlen
      clear hb3 hown3 hrow hnum hf3 hlen
      go_wp2_with fail
      refine (newReader_any bs bs.length cb Ab _ H3.out.2.2.1.bytes (by omega)).mono ?_
      rintro e w4 ⟨B, R, rfl, a1, a2, a3, hr4, hb4⟩
      have hB4 := hr4.lt
      have hs3 := H3.out.1.size
      have hb4' : Below w.heap.size w w4 := H3.out.1.trans (hb4.mono H3.out.1.size)
      have hown4 := own_frame H3.out.2.1 (Fr.of_below hb4) (fun g hg e => by
        have := (own_lt H3.out.2.1 hg).2.1; omega)
      have hgl : ∀ g, (Value.slice Ain (kept F i).length cin).ownBlock = some g → g < w3.heap.size := fun g hg => (own_lt H3.out.2.1 hg).2.1
      rw [H3.out.2.2.2] at hr4
      have hlq : (bs.length : Int) = ((sumN (kept F i) : Int) + 7) / 8 := by rw [HL.out]; omega
      have H4 := Lib.hid (And.intro hr4 (And.intro hb4' (And.intro hown4 hgl)))
      clear hr4 hb4 hb4' hown4 hgl
      go_wp2_with fail
      go_loopw [9] (fun x wr => ∃ j : Nat, j ≤ (kept F i).length ∧ x = .int .i64 j ∧ RD wr B R (packed ((kept F i).drop j)) (8 * bs.length - sumN ((kept F i).take j)) ∧ Fr (fun k => k = B) w4 wr) (fun x _ => (kept F i).length - (intOf x).toNat)
      case atStart => exact ⟨0, by omega, rfl, by simpa [sumN] using H4.out.1, Fr.refl _ _⟩
      case round =>
        obtain ⟨j, hj, rfl, hr, hf⟩ := hrel
        have hsz4 := hf.size
        have H5 := Lib.hid (And.intro hr hf)
        clear hr hf
        by_cases hlt : j < (kept F i).length
        · obtain ⟨x, hx⟩ : ∃ x, (kept F i)[j]? = some x := ⟨(kept F i)[j], List.getElem?_eq_getElem hlt⟩
          have hxo := kept_ok F i x (List.mem_of_getElem? hx)
          obtain ⟨A', c', hv, -, hat⟩ := own_ops H4.out.2.2.1
          obtain ⟨g, rfl, hgo, hcells⟩ := hat (by omega)
          injection hv with hv1 hv2 hv3
          have hgB : g < B := Nat.lt_of_lt_of_le (H4.out.2.2.2 g (by rw [hv1]; rfl)) a1
          have hOA := (hcells j x hx).fr H5.out.2 (by omega) (by omega)
          obtain ⟨k0, k1, k2⟩ := hOA
          have HV := Lib.hid hv1
          have HX := Lib.hid (And.intro hx hxo)
          have HO := Lib.hid (hcells j x hx)
          clear hv1 hv2 hv3 hx hxo hcells hgo k0
          obtain rfl := HV.out
          go_wp2_with fail
          refine (read_ok H5.out.1 HX.out.1 HX.out.2 (by rw [HL.out]; omega)).mono ?_
          rintro e w6 ⟨rfl, hr6, hg6⟩
          have hf6 := H5.out.2.trans (Fr.of_grown hg6) (fun j hj e => by injection e)
          obtain ⟨-, k1', -⟩ := HO.out.fr hf6 (by omega) (by omega)
          have H6 := Lib.hid (And.intro hr6 hf6)
          clear hr6 hf6 hg6
          go_wp2
          go_roundw
          case rel => exact ⟨j + 1, by omega, by go_num, H6.out.1, H6.out.2⟩
          case measure => simp [intOf]; omega
        · obtain rfl : j = (kept F i).length := by omega
          go_wp2_with fail
          refine (awake_any _).mono ?_
          rintro e w6 ⟨rfl, hb6⟩
          have hr6 := H5.out.1.frame (Fr.of_below hb6) (by omega) (by omega)
          have hb7 : Below w.heap.size w w6 := H4.out.2.1.trans ((H5.out.2.below (by omega) (fun j hj e => by omega)).trans (hb6.mono (by omega)))
          have H6 := Lib.hid (And.intro hr6 hb7)
          clear hr6 hb6 hb7
          go_wp2_with fail
          refine (RD.left H6.out.1).mono ?_
          rintro e w7 ⟨rfl, q, rfl⟩
          have hfin : decide (((8 * bs.length - sumN (kept F i) : Nat) : Int) < 8) = true := by
            rw [decide_eq_true_iff, HL.out]; omega
          go_wp2
          go_ret
          exact ⟨rfl, below_drewN H6.out.2 _⟩
end Go.Proofs.Ytaophopgmmjbeaa
