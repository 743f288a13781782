/- A table's Read. -/
import Derived.Test.YtnjdnldoopgcpaaDoorHuffFind
import Derived.Test.YtnjdnldoopgcpaaDoorHuffInts
import Derived.Test.YtnjdnldoopgcpaaDoorHuffPut
import Derived.Test.YtnjdnldoopgcpaaDoorBitsAlign
import Derived.Test.YtnjdnldoopgcpaaDoorBitsWords
namespace Go.Proofs.YtnjdnldoopgcpaaDoor
open Go.RowKit

theorem or_bit (c b : Nat) (hc : c < 1099511627776) (hb : b < 2) : bits .or .i64 ((c : Int) * 2) (b : Int) = ((2 * c + b : Nat) : Int) := by
  have e2 : (c : Int) * 2 = ((c * 2 : Nat) : Int) := by push_cast; rfl
  rw [e2, i64_or _ _ (by omega) (by omega)]
  have e3 := or_above b c 1 (by omega)
  rw [Nat.or_comm, show c * 2 = c * 2 ^ 1 from rfl, e3, Nat.pow_one]
  rw [Nat.mul_comm, Nat.add_comm]
theorem rbits_one (B R N L : Nat) (w : World) (h : RD w B R N L) (hL : 1 ≤ L) :
    Calls Tryd.prog 69 #[.pointer (some ⟨B, 0, none⟩), .int .i64 1] w fun e w' => e = .returned (.tuple #[.int .i64 (N % 2 : Nat), .int .i64 0]) ∧ RD w' B R (N / 2) (L - 1) ∧ Fr (fun k => k = B) w w' := by
  refine Calls.mono (rbits_any B R N L 1 w h (by omega) hL) ?_
  rintro e w' ⟨rfl, h1, h2⟩
  exact ⟨rfl, h1, (Fr.of_grown h2).more (fun j _ e => by injection e)⟩
theorem rbits_none (B R N L : Nat) (w : World) (h : RD w B R N L) (hL : L < 1) :
    Calls Tryd.prog 69 #[.pointer (some ⟨B, 0, none⟩), .int .i64 1] w fun e w' => e = .returned (.tuple #[.int .i64 0, .int .i64 6]) ∧ ∃ j, w' = w.drewN j := rbits_more B R N L 1 w h (by omega) hL
theorem Fr.cell' {w w' : World} {X : Nat} (h : Fr (fun k => k = X) w w') {p : Addr} (hp : p.block ≠ X) (hl : p.block < w.heap.size) : w'.cell? p = w.cell? p := by
  have := h.block p.block hl hp
  unfold World.cell?
  rw [this]
theorem ivs_iiv (l : List Nat) : ivs l = iiv (l.map Int.ofNat) := by simp [ivs, iiv]
/-- What Read answers. -/
def ReadIs (l : List Int) (BR R N av : Nat) (w : World) (e : Ending) (w' : World) : Prop :=
  ∃ (s : Nat) (E : Int) (u : Nat), e = .returned (.tuple #[.int .i64 s, .int .i64 E]) ∧ RES l N av s E u ∧ RD w' BR R (N / 2 ^ u) (av - u) ∧ Fr (fun k => k = BR) w w'
set_option maxRecDepth 100000 in
set_option maxHeartbeats 4000000 in
theorem tread_any (B base G BR R N av : Nat) (v : Value) (l : List Int) (ws : Array Value) (w : World) (h : TB w B base G (cntArr (natsOf l) l.length) v (symsAt l 15 0) ws l.length) (hr : RD w BR R N av) (hn : l.length ≤ 320) :
    Calls Tryd.prog 76 #[.pointer (some ⟨B, 0, none⟩), .pointer (some ⟨BR, 0, none⟩)] w (ReadIs l BR R N av w) := by
  have lB := h.whole.lt
  obtain ⟨rcs, hrw⟩ := hr.whole
  have hne : B ≠ BR := h.whole.apart hrw (by decide)
  have hown := h.own
  rw [ivs_iiv] at hown
  obtain ⟨a0, cc, rfl, hI⟩ := IntsAt.of_own hown
  have hIcap := hI.cap
  have hItop := hI.top
  have hsl : (symsAt l 15 0).length ≤ 4800 := by
    rw [← symsAt_next l 14]
    exact symsAt_le l hn 14 l.length (by omega) (Nat.le_refl _)
  have hs0 : ∀ g, (Value.slice a0 (symsAt l 15 0).length cc).ownBlock = some g → g ≠ BR := fun g hg => by
    obtain ⟨_, _, cs, k1⟩ := own_lt h.own hg
    exact k1.apart hrw (by decide)
  have hat : ∀ i (x : Nat), (symsAt l 15 0)[i]? = some x → ∃ Rs, a0 = some ⟨Rs, 0, none⟩ ∧ Rs < w.heap.size ∧ Rs ≠ BR ∧ w.cell? ⟨Rs, i, none⟩ = some (.int .i64 (x : Int)) := fun i x hx => by
    have hi := (List.getElem?_eq_some_iff.1 hx).1
    rcases hown.2 with ⟨e1, e2⟩ | ⟨g, cap, cur, e1, -, hw, -, -, -, ht⟩
    · injection e1 with _ e; omega
    · injection e1 with e1 _ _
      subst e1
      have hw' : Whole w g 3 cur := hw
      refine ⟨g, rfl, hw'.lt, hs0 g rfl, ?_⟩
      have e2 : (iiv ((symsAt l 15 0).map Int.ofNat))[i]? = some (.int .i64 (x : Int)) := by simp [iiv, hx]
      rw [← ht, List.getElem?_take, if_pos (by omega)] at e2
      rw [hw'.reads, ← e2, Array.getElem?_toList]
  have hcnt : ∀ i, i < 16 → w.cell? ⟨B, i, none⟩ = some (.int .i64 (cnt (natsOf l) i l.length : Int)) := fun i hi => by
    rw [h.whole.reads, Array.getElem?_append_left (by rw [cntArr_size]; exact hi)]
    exact cntArr_at _ _ _ hi
  have c16 := (h.cells).1
  have HS := Lib.hid (And.intro hat hcnt)
  have HR := Lib.hid hr
  have HN := Lib.hid (symsAt_all l)
  clear h hr hrw hown hI hs0 hat hcnt
  generalize symsAt l 15 0 = Sy at *
  go_enter Tryd.func76, Tryd.ntmps76
  go_wp2_with fail
  go_loopw [6, 7, 23] (fun x y z wr => ∃ L cd : Nat, L ≤ 15 ∧ L ≤ av ∧ z = .int .i64 L ∧ x = .int .i64 cd ∧ cd + endC (natsOf l) L = revB N L ∧ y = .int .i64 (symsTo l L).length ∧ Hid (∀ j, j < L → hit l N j = none) ∧ RD wr BR R (N / 2 ^ L) (av - L) ∧ Fr (fun k => k = BR) w wr) (fun _ _ z _ => 16 - (intOf z).toNat)
  case atStart => exact ⟨0, 0, by omega, by omega, rfl, rfl, by simp [endC, revB], rfl, Lib.hid (fun j hj => absurd hj (by omega)), by simpa using HR.out, Fr.refl _ _⟩
  case round =>
    obtain ⟨L, cd, hL, hLav, rfl, rfl, hcd, rfl, HH, hrd, hfr⟩ := hrel
    have hrv := revB_le N L hL
    have hwr := hfr.size
    have HF := Lib.hid (And.intro hrd hfr)
    clear hrd
    by_cases hlt : L < 15
    · have gc : wr.cell? ⟨B, 1 + L, none⟩ = some (.int .i64 (cnt (natsOf l) (L + 1) l.length : Int)) := by
        rw [hfr.cell' (p := ⟨B, 1 + L, none⟩) hne lB, Nat.add_comm 1 L]
        exact HS.out.2 (L + 1) (by omega)
      have g16 : wr.cell? ⟨B, 16, none⟩ = some (.slice a0 Sy.length cc) := (hfr.cell' (p := ⟨B, 16, none⟩) hne lB).trans c16
      clear hfr
      by_cases hav : av ≤ L
      · obtain rfl : L = av := by omega
        go_wp2_with fail
        refine (rbits_none BR R _ _ wr HF.out.1 (by omega)).mono ?_
        rintro e w2 ⟨rfl, j, rfl⟩
        go_wp2_with fail
        go_ret2
        exact ⟨0, 6, L, rfl, .inr (.inl ⟨hlt, HH.out, rfl, rfl, rfl⟩), RS.drewN' HF.out.1 j, HF.out.2.drewN j⟩
      · go_wp2_with fail
        refine (rbits_one BR R _ _ wr HF.out.1 (by omega)).mono ?_
        rintro e w2 ⟨rfl, hr2, hf2⟩
        have hb2 : N / 2 ^ L % 2 < 2 := Nat.mod_lt _ (by decide)
        have hnx : revB N (L + 1) = 2 * revB N L + N / 2 ^ L % 2 := rfl
        have hdv : N / 2 ^ L / 2 = N / 2 ^ (L + 1) := by rw [Nat.div_div_eq_div_mul, Nat.pow_succ]
        rw [hdv] at hr2
        have hf02 := HF.out.2.trans hf2 (fun _ _ e => e)
        have g16' : w2.cell? ⟨B, 16, none⟩ = some (.slice a0 Sy.length cc) := (hf02.cell' (p := ⟨B, 16, none⟩) hne lB).trans c16
        have hsz2 := hf02.size
        have lB2 : B < w2.heap.size := by omega
        have lB1 : B < wr.heap.size := by omega
        have H2 := Lib.hid (And.intro hr2 hf02)
        have hor := or_bit cd (N / 2 ^ L % 2) (by omega) hb2
        have hcode : 2 * cd + N / 2 ^ L % 2 + 2 * endC (natsOf l) L = revB N (L + 1) := by omega
        have hcode' : revB N (L + 1) - 2 * endC (natsOf l) L = 2 * cd + N / 2 ^ L % 2 := by omega
        have hrv2 := revB_le N (L + 1) (by omega)
        have hle : 2 * endC (natsOf l) L ≤ revB N (L + 1) := by omega
        have hhit : hit l N L = (ofLen (natsOf l) (L + 1) l.length)[2 * cd + N / 2 ^ L % 2]? := by unfold hit; rw [if_pos hle, hcode']
        have hol := ofLen_len (natsOf l) (L + 1) l.length (Nat.le_of_eq (natsOf_length' l).symm)
        have hsl2 := symsTo_len l L
        have hcn := cnt_le (natsOf l) (L + 1) l.length
        have hend : endC (natsOf l) (L + 1) = 2 * endC (natsOf l) L + cnt (natsOf l) (L + 1) l.length := by rw [endC, natsOf_length']
        have hstl := symsTo_le l L
        have hmul : L * l.length ≤ 14 * 320 := Nat.mul_le_mul (by omega) hn
        clear hr2 hf2 hf02 hdv hle hnx hcode'
        generalize N / 2 ^ L % 2 = bt at *
        have HC := Lib.hid (And.intro hhit (And.intro hcode (And.intro hol (And.intro hsl2 hend))))
        clear hhit hcode hol hsl2 hend
        by_cases hin : 2 * cd + bt < cnt (natsOf l) (L + 1) l.length
        · obtain ⟨s, hs⟩ : ∃ s, (ofLen (natsOf l) (L + 1) l.length)[2 * cd + bt]? = some s := ⟨_, List.getElem?_eq_getElem (by rw [HC.out.2.2.1]; exact hin)⟩
          have hsy : Sy[(symsTo l L).length + (2 * cd + bt)]? = some s := by
            rw [HN.out, symsTo_at l L 15 _ (by omega) (by rw [HC.out.2.2.1]; exact hin)]
            exact hs
          have hil := (List.getElem?_eq_some_iff.1 hsy).1
          obtain ⟨Rs, rfl, hRs, hRsne, hcs⟩ := HS.out.1 _ _ hsy
          have gs : w2.cell? ⟨Rs, (symsTo l L).length + (2 * cd + bt), none⟩ = some (.int .i64 s) := (H2.out.2.cell' (p := ⟨Rs, (symsTo l L).length + (2 * cd + bt), none⟩) hRsne hRs).trans hcs
          have HE := Lib.hid (HC.out.1.trans hs)
          clear hs hsy hcs HC
          go_wp2_with fail
          go_ret2
          exact ⟨s, 0, L + 1, rfl, .inl ⟨L, hlt, by omega, HH.out, HE.out, rfl, rfl⟩, H2.out.1, H2.out.2⟩
        · have hno : hit l N L = none := HC.out.1.trans (List.getElem?_eq_none (by rw [HC.out.2.2.1]; omega))
          have hnone : ∀ j, j < L + 1 → hit l N j = none := fun j hj => by
            rcases Nat.lt_or_ge j L with e | e
            · exact HH.out j e
            · obtain rfl : j = L := by omega
              exact hno
          have HNN := Lib.hid hnone
          clear hno hnone
          go_wp2_with fail
          refine ⟨⟨L + 1, 2 * cd + bt - cnt (natsOf l) (L + 1) l.length, by omega, by omega, by go_num, congrArg (Value.int .i64) (by omega), ?_, congrArg (Value.int .i64) (by rw [HC.out.2.2.2.1]; omega), HNN, ?_, H2.out.2⟩, by simp [intOf]; omega⟩
          · have e1 := HC.out.2.1
            have e2 := HC.out.2.2.2.2
            omega
          · have e : av - (L + 1) = av - L - 1 := by omega
            rw [e]
            exact H2.out.1
    · obtain rfl : L = 15 := by omega
      clear hfr
      go_wp2_with fail
      go_ret2
      exact ⟨0, 4, 15, rfl, .inr (.inr ⟨hLav, HH.out, rfl, rfl, rfl⟩), HF.out.1, HF.out.2⟩
end Go.Proofs.YtnjdnldoopgcpaaDoor
