/- The walk of the law HuffBack. -/
import Derived.Test.YtpcofdhhnfichaaHuffPrefix
import Derived.Test.YtpcofdhhnfichaaHuffPutsL
import Derived.Test.YtpcofdhhnfichaaHuffReadT
import Derived.Test.YtpcofdhhnfichaaHuffCodesL
import Derived.Test.YtpcofdhhnfichaaBitsNew
namespace Go.Proofs.Ytpcofdhhnfichaa
open Go.RowKit

/-- What is known in the loop that puts. -/
structure Bk1 (w2 wr : World) (l : List Int) (ins : List Nat) (v vin : Value) : Prop where
  wd : WD wr w2.heap.size w2.heap.size v (packN l ins) (packT l ins)
  own : wr.ownsRow w2.heap.size 3 1 vin ins.length (ivs ins)
  below : Below w2.heap.size w2 wr
theorem Bk1.later {w2 wr w' : World} {l : List Int} {ins : List Nat} {v vin : Value} (h : Bk1 w2 wr l ins v vin) (hf : Fr (fun _ => False) wr w') : Bk1 w2 w' l ins v vin :=
  ⟨h.wd.frame hf (fun h => h) (fun _ _ h => h), own_frame h.own hf (fun _ _ h => h), h.below.trans (hf.below h.below.size (fun _ _ h => h))⟩
theorem fr_below' {w0 w w' : World} {X : Nat} (h0 : Below w0.heap.size w0 w) (hX : w0.heap.size ≤ X) (hf : Fr (fun k => k = X) w w') : Below w0.heap.size w0 w' :=
  h0.trans (hf.below h0.size (fun j hj e => by omega))
theorem RD.lt' {w : World} {B R N L : Nat} (h : RD w B R N L) : B < w.heap.size := by
  obtain ⟨cs, k⟩ := h.whole
  exact k.lt
theorem own_ivs_at {w : World} {base : Nat} {v : Value} {ins : List Nat} (h : w.ownsRow base 3 1 v ins.length (ivs ins)) :
    ∃ A c, v = .slice A ins.length c ∧ ins.length ≤ c ∧ c ≤ 9223372036854775807 ∧ ∀ (i s : Nat), ins[i]? = some s → ∃ g, A = some ⟨g, 0, none⟩ ∧ g < w.heap.size ∧ w.cell? ⟨g, i, none⟩ = some (.int .i64 (s : Int)) := by
  obtain ⟨hl, h⟩ := h
  rcases h with ⟨rfl, e2⟩ | ⟨g, cap, cur, rfl, hg, hw, hnc, hc, hs, ht⟩
  · refine ⟨none, 0, by rw [e2], by omega, by omega, fun i s hi => ?_⟩
    have := (List.getElem?_eq_some_iff.1 hi).1
    omega
  · refine ⟨_, cap, rfl, hnc, by unfold maxLen at hc; omega, fun i s hi => ?_⟩
    have hil := (List.getElem?_eq_some_iff.1 hi).1
    have hw' : Whole w g 3 cur := hw
    refine ⟨g, rfl, hw'.lt, ?_⟩
    have e2 : (ivs ins)[i]? = some (.int .i64 (s : Int)) := by simp [ivs, hi]
    rw [← ht, List.getElem?_take, if_pos (by omega)] at e2
    rw [hw'.reads, ← e2, Array.getElem?_toList]
/-- A call of the writer leaves the row of symbols. -/
theorem wrote_ivs {w w1 w' : World} {M T M' T' U : Nat} {v lv : Value} {xs : List Value} (hwd : WD w1 w.heap.size w.heap.size v M T) (hown : w1.ownsRow w.heap.size 3 1 lv U xs) (hb : Below w.heap.size w w1) (h : Wrote w.heap.size w.heap.size v M' T' w1 w') :
    ∃ v', WD w' w.heap.size w.heap.size v' M' T' ∧ w'.ownsRow w.heap.size 3 1 lv U xs ∧ Below w.heap.size w w' := by
  obtain ⟨v', h1, h2, h3⟩ := h
  refine ⟨v', h1, own_frame hown h2 (fun g hg e => ?_), hb.trans (h2.below hb.size (fun j hj e => ?_))⟩
  · obtain ⟨_, _, cs, k1⟩ := own_lt hown hg
    rcases e with e | e
    · obtain ⟨cs2, k2⟩ := hwd.whole
      exact k1.apart k2 (by decide) e
    · obtain ⟨_, _, cs2, k2⟩ := hwd.row e.symm
      exact k1.apart k2 (by decide) rfl
  · rcases e with e | e
    · omega
    · have := (hwd.row e.symm).1; omega
/-- An append to the row of symbols leaves the writer. -/
theorem ins_append {w w1 w3 : World} {M T U : Nat} {v lv : Value} {xs : List Value} {t : TypeId} {u : Value} (hwd : WD w1 w.heap.size w.heap.size v M T) (hown : w1.ownsRow w.heap.size 3 1 lv U xs) (hb : Below w.heap.size w w1) (hgrow : (w1.alloc (.cells #[u] t)).grownBy w3 lv.ownBlock) :
    WD w3 w.heap.size w.heap.size v M T ∧ Below w.heap.size w w3 := by
  have hs := hb.size
  have hf : Fr (fun k => some k = lv.ownBlock) w1 w3 := ((Fr.refl _ _).alloc _).grown hgrow (fun j e _ => e.symm)
  refine ⟨hwd.frame hf (fun e => ?_) (fun g hg e => ?_), hb.trans (hf.below hs (fun j hj e => by have := (own_lt hown e.symm).1; omega))⟩
  · obtain ⟨_, _, cs, k1⟩ := own_lt hown e.symm
    obtain ⟨cs2, k2⟩ := hwd.whole
    exact k1.apart k2 (by decide) rfl
  · obtain ⟨_, _, cs, k1⟩ := own_lt hown e.symm
    obtain ⟨_, _, cs2, k2⟩ := hwd.row hg
    exact k1.apart k2 (by decide) rfl
theorem half_pow (c d : Nat) : c / 2 ^ d / 2 = c / 2 ^ (d + 1) := by rw [Nat.div_div_eq_div_mul, Nat.pow_succ]
/-- Is this a row of symbols that have words? -/
def InsOk (l : List Int) (ins : List Nat) : Prop := ∀ s ∈ ins, 0 < lenOf l s ∧ (natsOf l)[s]? = some (lenOf l s)
theorem InsOk.snoc {l : List Int} {ins : List Nat} {q x : Nat} (h : InsOk l ins) (hx : l[q]? = some (x : Int)) (h0 : 0 < x) : lenOf l q = x ∧ InsOk l (ins ++ [q]) := by
  have h1 : (natsOf l)[q]? = some x := by have := natsOf_at hx; simpa using this
  have h2 : lenOf l q = x := by unfold lenOf; rw [List.getD_eq_getElem?_getD, h1]; rfl
  refine ⟨h2, fun s hs => ?_⟩
  rcases List.mem_append.1 hs with e | e
  · exact h s e
  · obtain rfl := List.mem_singleton.1 e
    rw [h2]
    exact ⟨h0, h1⟩
set_option maxRecDepth 100000 in
set_option maxHeartbeats 8000000 in
theorem back_law (A : Option Addr) (n c : Nat) (l : List Int) (A2 : Option Addr) (n2 c2 : Nat) (ss : List Int) (w : World) (h : IntsAt w A n c l) (h2 : IntsAt w A2 n2 c2 ss) :
    Calls Try.prog 6 #[.slice A n c, .slice A2 n2 c2] w (True_ w) := by
  obtain ⟨i0, hi0, hz0, hz1, hz2⟩ := info_parts infoInt
  have hl := h.len
  subst hl
  have hl2 := h2.len
  subst hl2
  have hcap := h.cap
  have htop := h.top
  have hcap2 := h2.cap
  have htop2 := h2.top
  by_cases hn : 60 < l.length
  · clear h h2
    go_enter Try.func6, Try.ntmps6
    go_wp2
    go_ret
    exact ⟨rfl, Below.refl _ _⟩
  by_cases hn2 : 60 < ss.length
  · clear h h2
    go_enter Try.func6, Try.ntmps6
    go_wp2
    go_ret
    exact ⟨rfl, Below.refl _ _⟩
  have hn : l.length ≤ 60 := by omega
  have hn2 : ss.length ≤ 60 := by omega
  have H := Lib.hid h
  have H2 := Lib.hid h2
  clear h h2
  by_cases hk : lensOk l ∧ sumOk l
  · have hok := hk.1
    have hsum := hk.2
    have hshare : share (natsOf l) l.length ≤ 32768 := by rcases hsum with e | e | ⟨-, e⟩ <;> omega
    have HK := Lib.hid (And.intro hok (And.intro hsum hshare))
    clear hk hok hsum hshare
    go_enter Try.func6, Try.ntmps6
    go_wp2_with fail
    refine (make_ok A l.length c l w H.out HK.out.1 HK.out.2.1).mono ?_
    rintro e w1 ⟨hb1, B, G, v1, rfl, hB, hG, hT⟩
    have hs1 := hb1.size
    have H1 := Lib.hid (And.intro hb1 hT)
    clear hb1 hT hB hG
    go_wp2_with fail
    refine (codes_any A l.length c l w1 (H.out.below H1.out.1)).mono ?_
    rintro e w2 ⟨hb2, ⟨hno, -⟩ | ⟨-, hov, -⟩ | ⟨-, -, g, hg, hwg, rfl⟩⟩
    · exact absurd HK.out.1 hno
    · have := HK.out.2.2; omega
    have hs2 := hb2.size
    have H2' := Lib.hid (And.intro hb2 hwg)
    clear hb2 hwg
    go_wp2_with fail
    refine (newWriter_any w2).mono ?_
    rintro e w3 ⟨rfl, hws, hb3⟩
    have hs3 := hb3.size
    have hwd : WD w3 w2.heap.size w2.heap.size (.slice none 0 0) 0 0 := ⟨0, 0, [], hws, by omega, rfl, rfl, hb3.size⟩
    have hb03 : Below w.heap.size w w3 := (H1.out.1.trans (H2'.out.1.mono hs1)).trans (hb3.mono (by omega))
    have hg3 := H2'.out.2.here hb3
    have hI3 := H.out.below hb03
    have HW := Lib.hid (And.intro (show Bk1 w2 w3 l [] (.slice none 0 0) (.slice none 0 0) from ⟨hwd, World.ownsRow_nil _ _ _ _, hb3⟩) (And.intro hb03 (And.intro hg3 hI3)))
    clear hws hb3 hwd hb03 hg3 hI3
    go_wp2_with fail
    go_loopw [10] (fun x wr => ∃ i q : Nat, i ≤ l.length ∧ x = .int .i64 i ∧ wr = w3.drewN q) (fun x _ => l.length - (intOf x).toNat)
    case atStart => exact ⟨0, 0, by omega, rfl, rfl⟩
    case round =>
      obtain ⟨i, q, hi, rfl, rfl⟩ := hrel
      by_cases hlt : i < l.length
      · go_wp2_with fail
        go_loopw [11] (fun x ws => ∃ k q' : Nat, k ≤ l.length ∧ x = .int .i64 k ∧ ws = w3.drewN q') (fun x _ => l.length - (intOf x).toNat)
        case atStart => exact ⟨0, q, by omega, rfl, rfl⟩
        case round =>
          obtain ⟨k, q', hk, rfl, rfl⟩ := hrel
          by_cases hlk : k < l.length
          · obtain ⟨R0, o0, hA, hR0, hcell⟩ := HW.out.2.2.2.at_ (by omega)
            obtain ⟨xi, hxi⟩ : ∃ x, l[i]? = some x := ⟨l[i], List.getElem?_eq_getElem hlt⟩
            obtain ⟨xk, hxk⟩ : ∃ x, l[k]? = some x := ⟨l[k], List.getElem?_eq_getElem hlk⟩
            have hci := hcell i xi hxi
            have hck := hcell k xk hxk
            have hri := HK.out.1.2 xi (List.mem_of_getElem? hxi)
            have hrk := HK.out.1.2 xk (List.mem_of_getElem? hxk)
            obtain ⟨a, rfl⟩ : ∃ a : Nat, xi = a := ⟨xi.toNat, by omega⟩
            obtain ⟨b, rfl⟩ : ∃ b : Nat, xk = b := ⟨xk.toNat, by omega⟩
            have ha15 : a ≤ 15 := by omega
            have hb15 : b ≤ 15 := by omega
            have hni := natsOf_at hxi
            have hnk := natsOf_at hxk
            simp only [Int.toNat_natCast] at hni hnk
            have HX := Lib.hid (And.intro (And.intro hxi hxk) (And.intro hni hnk))
            have HA := Lib.hid hA
            clear hcell hA hxi hxk hri hrk hni hnk
            obtain rfl := HA.out
            have p0 : (0 : Int) ≤ (i : Int) := by omega
            have p1 : (i : Int) < (l.length : Int) := by omega
            have p2 : (0 : Int) ≤ (k : Int) := by omega
            have p3 : (k : Int) < (l.length : Int) := by omega
            by_cases hik : i = k
            · subst hik
              go_wp2_with fail
              go_quiet (fail)
              go_wp2_with fail
              exact ⟨⟨i + 1, _, by omega, by go_num, rfl⟩, by simp [intOf]; omega⟩
            have hikb : ((i : Int) == (k : Int)) = false := by rw [beq_eq_false_iff_ne]; omega
            by_cases ha0 : a = 0
            · subst ha0
              clear hik
              go_wp2_with fail
              go_quiet (fail)
              go_wp2_with fail
              exact ⟨⟨k + 1, _, by omega, by go_num, rfl⟩, by simp [intOf]; omega⟩
            have ha1 : 1 ≤ a := by omega
            have hab1 : decide ((a : Int) < 1) = false := by rw [decide_eq_false_iff_not]; omega
            by_cases hba : b < a
            · have hab : decide ((b : Int) < (a : Int)) = true := by rw [decide_eq_true_iff]; omega
              clear hik ha0
              go_wp2_with fail
              go_quiet (fail)
              go_wp2_with fail
              exact ⟨⟨k + 1, _, by omega, by go_num, rfl⟩, by simp [intOf]; omega⟩
            have hab : decide ((b : Int) < (a : Int)) = false := by rw [decide_eq_false_iff_not]; omega
            have hb15' : decide ((15 : Int) < (b : Int)) = false := by rw [decide_eq_false_iff_not]; omega
            have hpf := prefix_free HX.out.2.1 HX.out.2.2 (by omega) (show a ≤ b by omega) hik
            have hcc1 := codeIn_has l i a HX.out.1.1 (by omega) ha15
            have hcc2 := codeIn_has l k b HX.out.1.2 (by omega) hb15
            have gci : w3.cell? ⟨g, i, none⟩ = some (.int .i64 (codeOf (natsOf l) i a : Int)) := by rw [HW.out.2.2.1.reads, codesArr_at l 15 0 i hlt, hcc1]
            have gck : w3.cell? ⟨g, k, none⟩ = some (.int .i64 (codeOf (natsOf l) k b : Int)) := by rw [HW.out.2.2.1.reads, codesArr_at l 15 0 k hlk, hcc2]
            have lg3 := HW.out.2.2.1.lt
            have hfi := code_fits (natsOf l) (natsOf_15 HK.out.1) (by rw [natsOf_length']; exact HK.out.2.2) HX.out.2.1 (by omega)
            have hfk := code_fits (natsOf l) (natsOf_15 HK.out.1) (by rw [natsOf_length']; exact HK.out.2.2) HX.out.2.2 (by omega)
            have hpa : 2 ^ a ≤ 2 ^ 15 := Nat.pow_le_pow_right (by decide) ha15
            have hpb : 2 ^ b ≤ 2 ^ 15 := Nat.pow_le_pow_right (by decide) hb15
            generalize codeOf (natsOf l) i a = ca at *
            generalize codeOf (natsOf l) k b = cb at *
            have hca : ca < 32768 := by omega
            have hcb : cb < 32768 := by omega
            have HPF := Lib.hid hpf
            have hle : a ≤ b := by omega
            clear hik ha0 hba hpf hcc1 hcc2 hfi hfk hpa hpb
            go_wp2_with fail
            go_quiet (fail)
            go_wp2_with fail
            go_loop [12, 13] (fun y z => ∃ d : Nat, d ≤ b - a ∧ z = .int .i64 ((a + d : Nat) : Int) ∧ y = .int .i64 (cb / 2 ^ d : Nat)) (fun _ z => b - (intOf z).toNat)
            case atStart => exact ⟨0, by omega, rfl, by simp⟩
            case round =>
              obtain ⟨d, hd, rfl, rfl⟩ := hrel
              have hdl : cb / 2 ^ d ≤ cb := Nat.div_le_self _ _
              have hhp := half_pow cb d
              by_cases hdb : d < b - a
              · have HH := Lib.hid hhp
                clear hhp
                have hs1 : a + d < b := by omega
                generalize cb / 2 ^ d = y at *
                generalize hz : a + d = z at *
                go_wp2_with fail
                exact ⟨⟨d + 1, by omega, congrArg (Value.int .i64) (by omega), by rw [← HH.out]; rfl⟩, by simp [intOf]; omega⟩
              · obtain rfl : d = b - a := by omega
                have hneq : ((cb / 2 ^ (b - a) : Nat) : Int) ≠ (ca : Int) := fun e => HPF.out (by exact_mod_cast e)
                have hnb : (((cb / 2 ^ (b - a) : Nat) : Int) == (ca : Int)) = false := by rw [beq_eq_false_iff_ne]; exact hneq
                clear hhp hneq
                have hs1 : a + (b - a) = b := by omega
                rw [hs1]
                generalize cb / 2 ^ (b - a) = y at *
                go_wp2_with fail
                go_roundw
                case rel => exact ⟨k + 1, _, by omega, by go_num, rfl⟩
                case measure => simp [intOf]; omega
          · obtain rfl : k = l.length := by omega
            go_wp2_with fail
            go_roundw
            case rel => exact ⟨i + 1, _, by omega, by go_num, rfl⟩
            case measure => simp [intOf]; omega
      · obtain rfl : i = l.length := by omega
        go_wp2_with fail
        have hq3 : Bk1 w2 (w3.drewN q) l [] (.slice none 0 0) (.slice none 0 0) := HW.out.1.later ((Fr.refl _ _).drewN q)
        have HQ := Lib.hid hq3
        clear hq3
        generalize w3.drewN q = wq at *
        go_loopw [14, 15] (fun vin x wr => ∃ k ins v, k ≤ ss.length ∧ x = .int .i64 (k : Nat) ∧ Hid (InsOk l ins) ∧ packT l ins ≤ 15 * k ∧ ins.length ≤ k ∧ Bk1 w2 wr l ins v vin) (fun _ x _ => ss.length - (intOf x).toNat)
        case atStart => exact ⟨0, [], _, by omega, rfl, Lib.hid (fun s hs => by cases hs), by simp [packT], by simp, HQ.out⟩
        case round =>
          obtain ⟨k, ins, v, hkl, rfl, HIN, hT15, hil, hbk⟩ := hrel
          obtain ⟨al, cl, rfl⟩ := own_slice hbk.own
          have hszr := hbk.below.size
          have hb1r : Below w1.heap.size w1 wr := H2'.out.1.trans (hbk.below.mono hs2)
          have hbw : Below w.heap.size w wr := H1.out.1.trans (hb1r.mono hs1)
          have hTr := H1.out.2.below hb1r
          have HR := Lib.hid (And.intro hbk (And.intro hbw hTr))
          clear hbk hb1r hTr
          by_cases hlt : k < ss.length
          · obtain ⟨s, hs⟩ : ∃ s, ss[k]? = some s := ⟨_, List.getElem?_eq_getElem hlt⟩
            obtain ⟨R2, o2, rfl, hR2, hc2⟩ := H2.out.at_ (by omega)
            have gs : wr.cell? ⟨R2, o2 + k, none⟩ = some (.int .i64 s) := (hbw.cell (p := ⟨R2, o2 + k, none⟩) hR2).trans (hc2 k s hs)
            have lR2 : R2 < wr.heap.size := Nat.lt_of_lt_of_le hR2 hbw.size
            have HG0 := Lib.hid (hc2 k s hs)
            clear hs hc2 hbw
            by_cases hno : s < 0 ∨ (l.length : Int) ≤ s ∨ l[s.toNat]? = some 0
            · have HNO := Lib.hid hno
              clear hno
              have hput : Calls Try.prog 24 #[.pointer (some ⟨B, 0, none⟩), .pointer (some ⟨w2.heap.size, 0, none⟩), .int .i64 s] wr fun e w' => e = .returned (.int .i64 8) ∧ w' = wr := by
                by_cases hout : s < 0 ∨ (l.length : Int) ≤ s
                · exact tput_out _ _ _ _ _ _ _ _ _ _ _ HR.out.2.2 hout
                · obtain ⟨q, rfl⟩ : ∃ q : Nat, s = q := ⟨s.toNat, by omega⟩
                  have hz : l[q]? = some ((0 : Nat) : Int) := by
                    rcases HNO.out with e | e | e
                    · omega
                    · omega
                    · simpa using e
                  exact tput_none _ _ _ _ _ q _ _ _ _ _ HR.out.2.2 (by omega) (words_of l q 0 hz (by omega)).2
              have HPT := Lib.hid hput
              clear hput
              go_wp2_with fail
              refine HPT.out.mono ?_
              rintro e w4 ⟨rfl, rfl⟩
              go_wp2_with fail
              exact ⟨⟨k + 1, ins, v, by omega, by go_num, HIN, by omega, by omega, HR.out.1⟩, by simp [intOf]; omega⟩
            · obtain ⟨q, rfl⟩ : ∃ q : Nat, s = q := ⟨s.toNat, by omega⟩
              have hql : q < l.length := by omega
              obtain ⟨x', hx'⟩ : ∃ x, l[q]? = some x := ⟨_, List.getElem?_eq_getElem hql⟩
              have hx15 := HK.out.1.2 x' (List.mem_of_getElem? hx')
              obtain ⟨x, rfl⟩ : ∃ x : Nat, x' = x := ⟨x'.toNat, by omega⟩
              have hx0 : 0 < x := by
                rcases Nat.eq_zero_or_pos x with e | e
                · subst e; exact absurd (.inr (.inr (by simpa using hx'))) hno
                · exact e
              have hx15' : x ≤ 15 := by omega
              have hwo := words_of l q x hx' hx15'
              rw [if_pos hx0] at hwo
              have hsn := InsOk.snoc HIN.out hx' hx0
              have hrl := revB_lt (codeOf (natsOf l) q x) x
              have hput := tput_some B w.heap.size G l.length w2.heap.size w2.heap.size (packN l ins) (packT l ins) q (revB (codeOf (natsOf l) q x) x) x _ v1 v _ _ wr HR.out.2.2 hql hwo.1 hwo.2 hx0 hx15' hrl HR.out.1.wd (by omega)
              have hwq : wordOf l q = revB (codeOf (natsOf l) q x) x := by unfold wordOf; rw [hsn.1]
              rw [← hwq] at hput
              have hN := packN_snoc l ins q
              have hTT := packT_snoc l ins q
              rw [hsn.1] at hTT
              rw [← hN, ← hTT] at hput
              have HPT := Lib.hid hput
              have HSN := Lib.hid (And.intro hsn.2 hTT)
              clear hwo hsn hrl hput hwq hN hTT hno hx' hx15
              go_wp2_with fail
              refine HPT.out.mono ?_
              rintro e w4 ⟨rfl, hw4⟩
              obtain ⟨v5, k5a, k5b, k5c⟩ := wrote_ivs HR.out.1.wd HR.out.1.own HR.out.1.below hw4
              have hb4 : Below w.heap.size w w4 := (H1.out.1.trans (H2'.out.1.mono hs1)).trans (k5c.mono (by omega))
              have gs4 : w4.cell? ⟨R2, o2 + k, none⟩ = some (.int .i64 (q : Int)) := (hb4.cell (p := ⟨R2, o2 + k, none⟩) hR2).trans HG0.out
              have hsz4 := k5c.size
              have hs4 := hb4.size
              have lR4 : R2 < w4.heap.size := by omega
              have H4 := Lib.hid (And.intro k5a (And.intro k5b k5c))
              clear hw4 k5a k5b k5c hb4 gs
              go_wp2_with (at_builtin; refine wpList_append_own _ rfl _ _ 22 rfl w2.heap.size 3 i0 (.int .i64 0) 1 8 Try.underlying22 hi0 hz0 hz1 hz2 rfl (by decide) _ _ _ rfl (H4.out.2.1.alloc _) ⟨w4.heap.size, 0, none⟩ 1 1 [.int .i64 (q : Int)] rfl rfl (World.news_of_block (cs := #[.int .i64 (q : Int)]) (t := 3) (fr := (0, 0)) (heap_alloc_new w4 _)) ?c2 ?c3 ?c4 ?c5 ?_)
              case c2 => simp [Value.oneCell']
              case c3 => unfold maxLen; omega
              case c4 => omega
              case c5 => first | omega | (simp; omega)
              intro v' w5 hown' hgrow _
              have hpa := ins_append H4.out.1 H4.out.2.1 H4.out.2.2 hgrow
              have hown2 : w5.ownsRow w2.heap.size 3 1 v' (ins ++ [q]).length (ivs (ins ++ [q])) := by
                rw [ivs_append, List.length_append]
                exact hown'
              have H5 := Lib.hid (show Bk1 w2 w5 l (ins ++ [q]) v5 v' from ⟨hpa.1, hown2, hpa.2⟩)
              obtain ⟨a5, c5, rfl⟩ := own_slice hown'
              clear hown' hgrow hpa hown2
              go_wp2_with fail
              go_roundw
              case rel => exact ⟨k + 1, ins ++ [q], v5, by omega, by go_num, Lib.hid HSN.out.1, by rw [HSN.out.2]; omega, by simp; omega, H5.out⟩
              case measure => simp [intOf]; omega
          · obtain rfl : k = ss.length := by omega
            clear hbw
            have hTle : packT l ins ≤ 900 := by omega
            go_wp2_with fail
            refine (wbytes_keep _ _ _ _ _ _ HR.out.1.wd (by omega)).mono ?_
            rintro e w5 ⟨Ab, cb, Rb, bs, rfl, hnew, hrow, hnum, hlen, hwd5, hf5⟩
            have hown5 := own_frame HR.out.1.own hf5 (fun g hg e => by
              obtain ⟨_, _, cs, k1⟩ := own_lt HR.out.1.own hg
              obtain ⟨_, _, cs2, k2⟩ := HR.out.1.wd.row e.symm
              exact k1.apart k2 (by decide) rfl)
            have hbel5 : Below w2.heap.size w2 w5 := HR.out.1.below.trans (hf5.below HR.out.1.below.size (fun j hj e => by have := (HR.out.1.wd.row e.symm).1; omega))
            have hsz5 := hbel5.size
            have hcapb := hrow.cap
            have htopb := hrow.top
            have H5 := Lib.hid (And.intro hown5 (And.intro hbel5 (And.intro hrow (And.intro hnum hlen))))
            have hbl : bs.length ≤ 1000000 := by omega
            clear hnew hrow hwd5 hf5 hown5 hbel5 hnum hlen
            go_wp2_with fail
            refine (newReader_any bs bs.length cb Ab w5 H5.out.2.2.1.bytes (by omega)).mono ?_
            rintro e w6 ⟨BR, R, rfl, q1, q2, q3, hr6, hb6⟩
            have hs6 := hb6.size
            have hown6 := own_frame H5.out.1 (Fr.of_below hb6) (fun g hg e => by have := (own_lt H5.out.1 hg).2.1; omega)
            have hrow6 := own_ivs_at hown6
            obtain ⟨A6, c6, e6, hc6, hc6', hat6⟩ := hrow6
            injection e6 with e61 e62 e63
            subst e61
            subst e63
            have hins : ∀ (j s : Nat), ins[j]? = some s → ∃ g, al = some ⟨g, 0, none⟩ ∧ g < w6.heap.size ∧ g ≠ BR ∧ w6.cell? ⟨g, j, none⟩ = some (.int .i64 (s : Int)) := fun j s hj => by
              obtain ⟨g, e1, e2, e3⟩ := hat6 j s hj
              refine ⟨g, e1, e2, ?_, e3⟩
              have := (own_lt H5.out.1 (g := g) (by rw [e1]; rfl)).2.1
              omega
            have hb16 : Below w1.heap.size w1 w6 := (H2'.out.1.trans (H5.out.2.1.mono hs2)).trans (hb6.mono (by omega))
            have hT6 := H1.out.2.below hb16
            have hb06 : Below w.heap.size w w6 := H1.out.1.trans (hb16.mono hs1)
            obtain ⟨pad, hpad⟩ : ∃ pad, 8 * bs.length = packT l ins + pad := ⟨8 * bs.length - packT l ins, by have := H5.out.2.2.2.2; omega⟩
            have hpad8 : pad < 8 := by have := H5.out.2.2.2.2; omega
            have hr60 : RD w6 BR R (packN l (ins.drop 0)) (packT l (ins.drop 0) + pad) := by
              rw [List.drop_zero, ← hpad, ← H5.out.2.2.2.1]
              exact hr6
            have H6 := Lib.hid (And.intro hr60 (And.intro hins (And.intro hb16 hb06)))
            clear hr6 hb6 hown6 hat6 hins hb16 hb06 hr60 hT6 hpad
            go_wp2_with fail
            go_loopw [17] (fun x ws => ∃ i : Nat, i ≤ ins.length ∧ x = .int .i64 i ∧ RD ws BR R (packN l (ins.drop i)) (packT l (ins.drop i) + pad) ∧ Fr (fun k => k = BR) w6 ws) (fun x _ => ins.length - (intOf x).toNat)
            case atStart => exact ⟨0, by omega, rfl, H6.out.1, Fr.refl _ _⟩
            case round =>
              obtain ⟨i, hi, rfl, hrd, hfr⟩ := hrel
              have hb1w : Below w1.heap.size w1 wr := fr_below' H6.out.2.2.1 (by omega) hfr
              have hTw := H1.out.2.below hb1w
              have hbw0 : Below w.heap.size w wr := H1.out.1.trans (hb1w.mono hs1)
              have HV := Lib.hid (And.intro hrd (And.intro hfr (And.intro hTw hbw0)))
              clear hrd hfr hb1w hTw hbw0
              by_cases hli : i < ins.length
              · obtain ⟨q, hq⟩ : ∃ q, ins[i]? = some q := ⟨_, List.getElem?_eq_getElem hli⟩
                obtain ⟨hq0, hqx⟩ := HIN.out q (List.mem_of_getElem? hq)
                obtain ⟨g6, rfl, hg6, hgne, hgc⟩ := H6.out.2.1 i q hq
                have hdrop : ins.drop i = q :: ins.drop (i + 1) := by
                  rw [List.drop_eq_getElem_cons hli]
                  congr 1
                  have := List.getElem?_eq_getElem hli
                  rw [hq] at this
                  exact (Option.some.inj this).symm
                have hN := packN_mod l q (ins.drop (i + 1))
                have hD := packN_div l q (ins.drop (i + 1))
                rw [← hdrop] at hN hD
                have hTd : packT l (ins.drop i) = lenOf l q + packT l (ins.drop (i + 1)) := by rw [hdrop]; rfl
                have hread := read_word HK.out.1 HK.out.2.2 hqx hq0 hN (show lenOf l q ≤ packT l (ins.drop i) + pad by omega)
                have HRW := Lib.hid (And.intro hread (And.intro hD hTd))
                have HGC := Lib.hid hgc
                clear hq hq0 hqx hdrop hN hD hTd hread hgc
                go_wp2_with fail
                refine (tread_any B w.heap.size G BR R _ _ v1 l _ wr HV.out.2.2.1 HV.out.1 (HK.out.1.1)).mono ?_
                rintro e w7 ⟨s, E, u, rfl, hres, hr7, hf7⟩
                obtain ⟨rfl, rfl, rfl⟩ := RES.eq HRW.out.1 hres
                rw [HRW.out.2.1, HRW.out.2.2, show lenOf l s + packT l (ins.drop (i + 1)) + pad - lenOf l s = packT l (ins.drop (i + 1)) + pad by omega] at hr7
                have hf67 := HV.out.2.1.trans hf7 (fun _ _ e => e)
                have gc7 : w7.cell? ⟨g6, i, none⟩ = some (.int .i64 (s : Int)) := (hf67.cell' (p := ⟨g6, i, none⟩) hgne hg6).trans HGC.out
                have hsz7 := hf67.size
                have lg7 : g6 < w7.heap.size := by omega
                have H7 := Lib.hid (And.intro hr7 hf67)
                clear hr7 hf67 hf7 hres
                go_wp2_with fail
                go_roundw
                case rel => exact ⟨i + 1, by omega, by go_num, H7.out.1, H7.out.2⟩
                case measure => simp [intOf]; omega
              · obtain rfl : i = ins.length := by omega
                have hlast : RD wr BR R 0 pad := by
                  have := HV.out.1
                  rw [List.drop_length] at this
                  simpa [packN, packT] using this
                have HL := Lib.hid hlast
                clear hlast
                go_wp2_with fail
                refine (awake_any _).mono ?_
                rintro e w8 ⟨rfl, hb8⟩
                have hBRl := HL.out.lt'
                have hszw := HV.out.2.1.size
                have hr8 := HL.out.frame (Fr.of_below hb8) (by omega) (by omega)
                have H8 := Lib.hid (And.intro hr8 (HV.out.2.2.2.trans (hb8.mono HV.out.2.2.2.size)))
                clear hr8 hb8
                go_wp2_with fail
                refine (H8.out.1.left).mono ?_
                rintro e w9 ⟨rfl, j, rfl⟩
                have hp8 : decide ((pad : Int) < 8) = true := by rw [decide_eq_true_iff]; omega
                go_wp2_with fail
                go_ret
                exact ⟨rfl, below_drewN H8.out.2 j⟩
  · have HK := Lib.hid hk
    clear hk
    have hmk := make_any A l.length c l w H.out
    have HMK := Lib.hid hmk
    clear hmk
    go_enter Try.func6, Try.ntmps6
    go_wp2_with fail
    refine HMK.out.mono ?_
    rintro e w1 ⟨hb1, q, E, rfl, hE, ⟨rfl, hE0⟩ | ⟨-, rfl⟩⟩
    · have hs1 := hb1.size
      have H1 := Lib.hid hb1
      have hEb : (E != 0) = true := by rw [bne_iff_ne]; exact hE0
      clear hb1 hE hE0
      go_wp2_with fail
      refine (codes_any A l.length c l w1 (H.out.below H1.out)).mono ?_
      intro e w2 q2
      obtain ⟨hb2, A2', c2', rfl, h2'⟩ := codes_is q2 (by omega)
      have H2'' := Lib.hid (H1.out.trans (hb2.mono hs1))
      clear q2 hb2 h2'
      go_wp2_with fail
      refine (newWriter_any w2).mono ?_
      rintro e w3 ⟨rfl, -, hb3⟩
      have H3 := Lib.hid (H2''.out.trans (hb3.mono H2''.out.size))
      clear hb3
      go_wp2_with fail
      refine (awake_any _).mono ?_
      rintro e w4 ⟨rfl, hb4⟩
      have H4 := Lib.hid (H3.out.trans (hb4.mono H3.out.size))
      clear hb4
      go_wp2_with fail
      go_ret
      exact ⟨rfl, H4.out⟩
    · rcases hE with ⟨-, e⟩ | ⟨-, -, e⟩ | ⟨a, b, -⟩
      · cases e
      · cases e
      · exact absurd ⟨a, b⟩ HK.out
end Go.Proofs.Ytpcofdhhnfichaa
