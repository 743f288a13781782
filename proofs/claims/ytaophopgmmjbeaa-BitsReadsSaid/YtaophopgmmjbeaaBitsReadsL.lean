/- The walk of BitsReads. -/
import Derived.Test.YtaophopgmmjbeaaBitsReadsC
import Derived.Test.YtaophopgmmjbeaaLaidOps
import Derived.Test.YtaophopgmmjbeaaBitsBackM
import Derived.StillTailTactics
namespace Go.Proofs.Ytaophopgmmjbeaa
open Go.RowKit

/-- What is known at the head of the loop. -/
structure Rd1 (w4 wr : World) (B R X RX N L p c : Nat) (A : Option Addr) : Prop where
  rd : RD wr B R (N / 2 ^ p) (L - p)
  xr : XR wr X RX N L p A c
  fr : Fr (fun k => k = B ∨ k = X) w4 wr
theorem left_is {w : World} {B R N L : Nat} (h : RD w B R N L) (x : Int) (hx : x = (L : Int)) : Calls Try.prog 17 #[.pointer (some ⟨B, 0, none⟩)] w fun e w' => e = .returned (.int .i64 x) ∧ ∃ k, w' = w.drewN k := by
  subst hx
  exact h.left
theorem xr_start {w : World} {B n c N : Nat} {A : Option Addr} (hc : n ≤ c) (hc2 : c ≤ 9223372036854775807) (hn : n ≤ 1000000000) (hB : ∃ cs, Whole w B 55 cs)
    (hrow : (A = none ∧ n = 0 ∧ c = 0) ∨ ∃ R cur, A = some ⟨R, 0, none⟩ ∧ Whole w R 4 cur ∧ ∀ i, i < n → cur[i]? = some (.bool (N.testBit i))) :
    ∃ R, R ≠ B ∧ R < w.heap.size + 1 ∧ XR (w.alloc (.cells #[.slice A n c, .int .i64 0] 31)) w.heap.size R N n 0 A c := by
  obtain ⟨cs, hB⟩ := hB
  have hBl := hB.lt
  rcases hrow with h | ⟨R, cur, rfl, hw, hcur⟩
  · exact ⟨w.heap.size, by omega, by omega, ⟨Whole.made _ _ _, by omega, hc, ⟨hc2, hn⟩, .inl h⟩⟩
  · have hne := hw.apart hB (by decide)
    have hlt := hw.lt
    exact ⟨R, hne, by omega, ⟨Whole.made _ _ _, by omega, hc, ⟨hc2, hn⟩, .inr ⟨rfl, cur, hw.old _, hcur⟩⟩⟩
set_option maxRecDepth 100000 in
set_option maxHeartbeats 8000000 in
theorem reads_law (A0 : Option Addr) (n0 c0 : Nat) (bs : List Nat) (A1 : Option Addr) (n1 c1 : Nat) (F : Nat → OpV) (w : World) (h : Bytes w A0 n0 c0 bs) (h' : Ops w A1 n1 c1 F) :
    Calls Try.prog 3 #[.slice A0 n0 c0, .slice A1 n1 c1] w (True_ w) := by
  have hl := h.len
  subst hl
  have hcap := h'.cap
  by_cases hn : 500 < bs.length
  · go_enter Try.func3, Try.ntmps3
    go_wp2
    go_ret
    exact ⟨rfl, Below.refl _ _⟩
  by_cases hn1 : 100 < n1
  · go_enter Try.func3, Try.ntmps3
    go_wp2
    go_ret
    exact ⟨rfl, Below.refl _ _⟩
  have hn : bs.length ≤ 500 := by omega
  have hn1 : n1 ≤ 100 := by omega
  have H := Lib.hid h
  have H' := Lib.hid h'
  clear h h'
  go_enter Try.func3, Try.ntmps3
  go_wp2_with fail
  refine (own_any bs _ _ _ _ H.out (by omega)).mono ?_
  rintro e w1 ⟨vo, rfl, ho1, hb1⟩
  obtain ⟨Ao, co, rfl, hbo⟩ := own_bytes ho1 H.out.byte
  have hs1 := hb1.size
  have H1 := Lib.hid (And.intro ho1 (And.intro hb1 hbo))
  clear ho1 hb1 hbo
  go_wp2_with fail
  refine (newReader_any bs bs.length co Ao _ H1.out.2.2 (by omega)).mono ?_
  rintro e w2 ⟨B, R, rfl, a1, a2, a3, hr2, hb2⟩
  have hB2 := hr2.lt
  have hs2 := hb2.size
  have H2 := Lib.hid (And.intro hr2 hb2)
  clear hr2 hb2
  go_wp2_with fail
  refine (of_any bs _ _ _ _ (H.out.below (H1.out.2.1.trans (H2.out.2.mono hs1))) (by omega)).mono ?_
  rintro e w3 ⟨vx, rfl, hx3, hb3⟩
  obtain ⟨AX, cX, rfl, hcX, hcX2, hrow⟩ := own_bits hx3
  have hs3 := hb3.size
  have hr3 := H2.out.1.frame (Fr.of_below hb3) (by omega) (by omega)
  have hrow3 : (AX = none ∧ 8 * bs.length = 0 ∧ cX = 0) ∨ ∃ R cur, AX = some ⟨R, 0, none⟩ ∧ Whole w3 R 4 cur ∧ ∀ i, i < 8 * bs.length → cur[i]? = some (.bool ((num bs).testBit i)) := by
    rcases hrow with e | ⟨R, cur, e, -, e2, e3⟩
    · exact .inl e
    · exact .inr ⟨R, cur, e, e2, e3⟩
  obtain ⟨RX, hRX1, hRX2, hxr⟩ := xr_start (N := num bs) hcX hcX2 (by omega) hr3.whole hrow3
  have hr4 : RD (w3.alloc (.cells #[.slice AX (8 * bs.length) cX, .int .i64 0] 31)) B R (num bs / 2 ^ 0) (8 * bs.length - 0) := by
    have := hr3.frame (Fr.alloc (Fr.refl (fun _ => False) w3) (.cells #[.slice AX (8 * bs.length) cX, .int .i64 0] 31)) (fun h => h) (fun h => h)
    simpa using this
  have hb4 : Below w1.heap.size w1 (w3.alloc (.cells #[.slice AX (8 * bs.length) cX, .int .i64 0] 31)) := (H2.out.2.trans (hb3.mono (by omega))).alloc (by omega) _
  have h0 : Rd1 (w3.alloc (.cells #[.slice AX (8 * bs.length) cX, .int .i64 0] 31)) (w3.alloc (.cells #[.slice AX (8 * bs.length) cX, .int .i64 0] 31)) B R w3.heap.size RX (num bs) (8 * bs.length) 0 cX AX := ⟨hr4, hxr, Fr.refl _ _⟩
  have H4 := Lib.hid (And.intro h0 hb4)
  clear hx3 hb3 hrow hr3 hrow3 hxr hr4 hb4 h0
  go_wp2_with fail
  obtain ⟨w4, hw4⟩ : ∃ w4, w3.alloc (.cells #[.slice AX (8 * bs.length) cX, .int .i64 0] 31) = w4 := ⟨_, rfl⟩
  have hs4 : w3.heap.size < w4.heap.size := by rw [← hw4]; simp
  rw [hw4] at H4 ⊢
  clear hw4
  go_loopw [8] (fun x wr => ∃ i p : Nat, i ≤ n1 ∧ p ≤ 8 * bs.length ∧ x = .int .i64 i ∧ Rd1 w4 wr B R w3.heap.size RX (num bs) (8 * bs.length) p cX AX) (fun x _ => n1 - (intOf x).toNat)
  case atStart => exact ⟨0, 0, by omega, by omega, rfl, H4.out.1⟩
  case round =>
    obtain ⟨i, p, hi, hp, rfl, hr⟩ := hrel
    have hs5 := hr.fr.size
    have hbw : Below w.heap.size w wr := H1.out.2.1.trans ((H4.out.2.mono hs1).trans (hr.fr.below (by omega) (fun j hj e => by omega)))
    have HR := Lib.hid (And.intro hr hbw)
    clear hr hbw
    by_cases hlt : i < n1
    · obtain ⟨RO, oo, hA, hRO, hcell⟩ := H'.out.at_ (by omega)
      obtain ⟨k0, k1, k2⟩ := (hcell i hlt).below HR.out.2 hRO
      have HA := Lib.hid hA
      clear hcell hA
      obtain rfl := HA.out
      have hwr1 := HR.out.1.fr.size
      obtain ⟨w5, hw5⟩ : ∃ w5, wr.alloc (.cells #[.int .i64 (F i).c, .int .i64 (F i).v, .int .i64 (F i).n] 33) = w5 := ⟨_, rfl⟩
      have hO5 : Whole w5 wr.heap.size 33 #[.int .i64 (F i).c, .int .i64 (F i).v, .int .i64 (F i).n] := by rw [← hw5]; exact Whole.made _ _ _
      have hf5 : Fr (fun _ => False) wr w5 := by rw [← hw5]; exact (Fr.refl _ _).alloc _
      have hs6 : w5.heap.size = wr.heap.size + 1 := by rw [← hw5]; simp
      have H5 := Lib.hid (And.intro (HR.out.1.rd.frame hf5 (fun h => h) (fun h => h)) (And.intro (HR.out.1.xr.frame hf5 (fun h => h) (fun h => h)) (And.intro (HR.out.1.fr.trans hf5 (fun _ _ e => e.elim)) hO5)))
      have HW5 := Lib.hid hw5
      clear hO5 hf5 hw5
      by_cases hc0 : (F i).c = 0
      · have e0 : ((F i).c == 0) = true := by rw [beq_iff_eq]; exact hc0
        clear hc0
        go_wp2_with fail
        rw [HW5.out]
        refine (rbits_all B R (num bs) (8 * bs.length) p _ _ H5.out.1 hp).mono ?_
        rintro e w6 ⟨rfl, hr6, hf6, hle6⟩
        have hO6 := H5.out.2.2.2.frame hf6 (by omega)
        have k6 : w6.cell? ⟨wr.heap.size, 2, none⟩ = some (.int .i64 (F i).n) := by rw [hO6.reads 2]; rfl
        have hX6 := H5.out.2.1.frame hf6 (by omega) hRX1
        have H6 := Lib.hid (And.intro hr6 (And.intro hX6 (H5.out.2.2.1.trans hf6 (fun _ _ e => .inl e))))
        clear hr6 hX6 hf6 hO6
        go_wp2_with fail
        refine (xbits_all _ RX (num bs) (8 * bs.length) p cX AX _ _ H6.out.2.1).mono ?_
        rintro e w7 ⟨rfl, hx7, hf7⟩
        have HE := Lib.hid (And.intro (H6.out.1.frame hf7 (by omega) (by omega)) (And.intro hx7 (H6.out.2.2.trans hf7 (fun _ _ e => .inr e))))
        clear hx7 hf7
        generalize ansB (num bs) (8 * bs.length) p (F i).n = t at *
        obtain ⟨ta, tb, p'⟩ := t
        simp only at HE hle6
        have hp0 : (0 : Int) ≤ (p' : Int) := by omega
        have hp1 : (p' : Int) ≤ 8 * (bs.length : Int) := by omega
        have hp2 : IntKind.i64.wrap (8 * (bs.length : Int) - (p' : Int)) = 8 * (bs.length : Int) - p' := IntWalk.i64_in _ (by omega)
        obtain ⟨d0, d1, -⟩ := HE.out.2.1.cells
        go_wp2_with fail
        go_quiet ((go_at_call 17; exact Calls.quiet_of (left_is (RS.drewN' HE.out.1 _) (8 * (bs.length : Int) - p') (by omega))))
        go_wp2
        go_roundw
        case rel => exact ⟨i + 1, p', by omega, by omega, by go_num, RS.drewN' HE.out.1 _, HE.out.2.1.drewN _, HE.out.2.2.drewN _⟩
        case measure => simp [intOf]; omega
      · have e0 : ((F i).c == 0) = false := by rw [beq_eq_false_iff_ne]; exact hc0
        by_cases hc1 : (F i).c = 1
        · have e1 : ((F i).c == 1) = true := by rw [beq_iff_eq]; exact hc1
          clear hc0 hc1
          go_wp2_with fail
          rw [HW5.out]
          refine (ralign_all B R (num bs) (8 * bs.length) p _ H5.out.1 hp (by omega) (by omega)).mono ?_
          rintro e w6 ⟨rfl, hr6, hf6⟩
          have hX6 := H5.out.2.1.frame hf6 (by omega) hRX1
          have H6 := Lib.hid (And.intro hr6 (And.intro hX6 (H5.out.2.2.1.trans hf6 (fun _ _ e => .inl e))))
          clear hr6 hX6 hf6
          go_wp2_with fail
          refine (xalign_any _ RX (num bs) (8 * bs.length) p cX AX _ H6.out.2.1 (by omega)).mono ?_
          rintro e w7 ⟨rfl, hx7, hf7⟩
          have HE := Lib.hid (And.intro (H6.out.1.frame hf7 (by omega) (by omega)) (And.intro hx7 (H6.out.2.2.trans hf7 (fun _ _ e => .inr e))))
          clear hx7 hf7
          have hup := (up8_skip hp (by omega)).2
          generalize up8 p = p' at *
          have hp0 : (0 : Int) ≤ (p' : Int) := by omega
          have hp1 : (p' : Int) ≤ 8 * (bs.length : Int) := by omega
          have hp2 : IntKind.i64.wrap (8 * (bs.length : Int) - (p' : Int)) = 8 * (bs.length : Int) - p' := IntWalk.i64_in _ (by omega)
          obtain ⟨d0, d1, -⟩ := HE.out.2.1.cells
          go_wp2_with fail
          go_quiet ((go_at_call 17; exact Calls.quiet_of (left_is (RS.drewN' HE.out.1 _) (8 * (bs.length : Int) - p') (by omega))))
          go_wp2
          go_roundw
          case rel => exact ⟨i + 1, p', by omega, by omega, by go_num, RS.drewN' HE.out.1 _, HE.out.2.1.drewN _, HE.out.2.2.drewN _⟩
          case measure => simp [intOf]; omega
        · have e1 : ((F i).c == 1) = false := by rw [beq_eq_false_iff_ne]; exact hc1
          clear hc0 hc1
          go_wp2_with fail
          rw [HW5.out]
          refine (rbytes_all B R (num bs) (8 * bs.length) p _ _ H5.out.1 hp (by omega) (by omega) (by omega)).mono ?_
          rintro e w6 ⟨A6, c6, rfl, hb6, hn6, hr6, hf6, hle6⟩
          have hs7 := hf6.size
          have hO6 := H5.out.2.2.2.frame hf6 (by omega)
          have k6 : w6.cell? ⟨wr.heap.size, 2, none⟩ = some (.int .i64 (F i).n) := by rw [hO6.reads 2]; rfl
          have hX6 := H5.out.2.1.frame hf6 (by omega) hRX1
          have H6 := Lib.hid (And.intro hr6 (And.intro hX6 (And.intro (H5.out.2.2.1.trans hf6 (fun _ _ e => .inl e)) (And.intro hb6 hn6))))
          clear hr6 hX6 hf6 hO6 hb6 hn6
          go_wp2_with fail
          refine (xbytes_all _ RX (num bs) (8 * bs.length) p cX AX _ _ H6.out.2.1 (by omega) (by omega) (by omega) (by omega)).mono ?_
          rintro e w7 ⟨A7, c7, rfl, hb7, hx7, hf7⟩
          have hs8 := hf7.size
          obtain ⟨g, hg, hgn⟩ : ∃ g, w5.heap.size ≤ g ∧ (0 < (ansY (8 * bs.length) p (F i).n).1 → A6 = some ⟨g, 0, none⟩ ∧ (ansY (8 * bs.length) p (F i).n).1 = c6 ∧ ∃ cs, Whole w7 g 5 cs ∧ cs.size = (ansY (8 * bs.length) p (F i).n).1) := by
            rcases H6.out.2.2.2.2 with e | ⟨g, cs, e, ec, hg, hw, hcs⟩
            · exact ⟨w5.heap.size, Nat.le_refl _, fun h => absurd h (by omega)⟩
            · exact ⟨g, hg, fun _ => ⟨e, ec, cs, hw.frame hf7 (by omega), hcs⟩⟩
          have hcv7 := hb7.str
          have hcv6 := (H6.out.2.2.2.1.fr hf7 (fun h0 R o e _ e2 => by
            obtain ⟨e3, -, -⟩ := hgn h0
            rw [e3] at e
            injection e with e
            injection e with e
            omega)).str
          have HE := Lib.hid (And.intro (H6.out.1.frame hf7 (by omega) (by omega)) (And.intro hx7 (And.intro (H6.out.2.2.1.trans hf7 (fun _ _ e => .inr e)) hgn)))
          have hcap6 := H6.out.2.2.2.1.cap
          have htop6 := H6.out.2.2.2.1.top
          clear hb7 hx7 hf7 hgn
          generalize bytesY (num bs) p (ansY (8 * bs.length) p (F i).n).1 = bl at *
          generalize ansY (8 * bs.length) p (F i).n = t at *
          obtain ⟨tn, te, p'⟩ := t
          simp only at HE hle6 hcap6 hcv6 hcv7
          go_wp2_with fail
          go_loopw [18] (fun x wl => ∃ k : Nat, k ≤ tn ∧ x = .int .i64 k ∧ (0 < tn → ∃ cs, Whole wl g 5 cs ∧ cs.size = tn) ∧ Fr (fun j => j = g) w7 wl) (fun x _ => tn - (intOf x).toNat)
          case atStart => exact ⟨0, by omega, rfl, fun h => (HE.out.2.2.2 h).2.2, Fr.refl _ _⟩
          case round =>
            obtain ⟨k, hk, rfl, hwl, hfl⟩ := hrel
            have hs9 := hfl.size
            have HL := Lib.hid (And.intro hwl hfl)
            by_cases hkt : k < tn
            · obtain ⟨e6, ec6, -⟩ := HE.out.2.2.2 (by omega)
              obtain ⟨cs, hw, hcs⟩ := hwl (by omega)
              obtain ⟨u0, hu0⟩ : ∃ u0, cs[k]? = some u0 := ⟨cs[k], Array.getElem?_eq_getElem (by omega)⟩
              have q1 : wr.cell? ⟨g, k, none⟩ = some u0 := by rw [hw.reads]; exact hu0
              have q2 := hw.thawed k
              have HC := Lib.hid (And.intro hw hcs)
              have HA6 := Lib.hid e6
              have HC6 := Lib.hid ec6
              clear hwl hfl hw hcs e6 ec6 hu0
              obtain rfl := HA6.out
              obtain rfl := HC6.out
              go_wp2
              go_roundw
              case rel => exact ⟨k + 1, by omega, by go_num, fun _ => ⟨_, HC.out.1.set k _, by simpa using HC.out.2⟩, HL.out.2.setB _ _⟩
              case measure => simp [intOf]; omega
            · obtain rfl : k = tn := by omega
              clear hwl hfl
              have HZ := Lib.hid (And.intro (HE.out.1.frame HL.out.2 (by omega) (by omega)) (And.intro (HE.out.2.1.frame HL.out.2 (by omega) (by omega)) (HE.out.2.2.1.trans HL.out.2 (fun j hj e => absurd hj (by omega)))))
              have hp0 : (0 : Int) ≤ (p' : Int) := by omega
              have hp1 : (p' : Int) ≤ 8 * (bs.length : Int) := by omega
              have hp2 : IntKind.i64.wrap (8 * (bs.length : Int) - (p' : Int)) = 8 * (bs.length : Int) - p' := IntWalk.i64_in _ (by omega)
              obtain ⟨d0, d1, -⟩ := HZ.out.2.1.cells
              go_wp2_with fail
              go_quiet ((go_at_call 17; exact Calls.quiet_of (left_is (RS.drewN' HZ.out.1 _) (8 * (bs.length : Int) - p') (by omega))))
              go_wp2
              go_roundw
              case rel => exact ⟨i + 1, p', by omega, by omega, by go_num, RS.drewN' HZ.out.1 _, HZ.out.2.1.drewN _, HZ.out.2.2.drewN _⟩
              case measure => simp [intOf]; omega
    · obtain rfl : i = n1 := by omega
      go_wp2_with fail
      refine (awake_any _).mono ?_
      rintro e w8 ⟨rfl, hb8⟩
      have hb1 : Below w1.heap.size w1 w8 := H4.out.2.trans ((HR.out.1.fr.below (by omega) (fun j hj e => by omega)).trans (hb8.mono (by omega)))
      have hbz : Below w.heap.size w w8 := H1.out.2.1.trans (hb1.mono hs1)
      have hcv1 := (H1.out.2.2.below hb1).str
      have hcv2 := (H.out.below hbz).str
      have HB := Lib.hid hbz
      clear hb8 hb1 hbz
      go_wp2
      go_ret
      exact ⟨rfl, HB.out⟩
end Go.Proofs.Ytaophopgmmjbeaa
