/- The walk of the law HuffReads. -/
import Derived.Test.YtpcofdhhnfichaaHuffReadR
import Derived.Test.YtpcofdhhnfichaaHuffPutsL
import Derived.Test.YtpcofdhhnfichaaHuffCodesL
namespace Go.Proofs.Ytpcofdhhnfichaa
open Go.RowKit

/-- What is known at the head of the loop. -/
structure Rd1 (w4 wr : World) (B R X RX N L p c : Nat) (A : Option Addr) : Prop where
  rd : RD wr B R (N / 2 ^ p) (L - p)
  xr : XR wr X RX N L p A c
  fr : Fr (fun k => k = B ∨ k = X) w4 wr
theorem left_is {w : World} {B R N L : Nat} (h : RD w B R N L) (x : Int) (hx : x = (L : Int)) : Calls Try.prog 21 #[.pointer (some ⟨B, 0, none⟩)] w fun e w' => e = .returned (.int .i64 x) ∧ ∃ k, w' = w.drewN k := by
  subst hx
  exact h.left
theorem xr_start {w : World} {B n c N : Nat} {A : Option Addr} (hc : n ≤ c) (hc2 : c ≤ 9223372036854775807) (hn : n ≤ 1000000000) (hB : ∃ cs, Whole w B 73 cs)
    (hrow : (A = none ∧ n = 0 ∧ c = 0) ∨ ∃ R cur, A = some ⟨R, 0, none⟩ ∧ Whole w R 4 cur ∧ ∀ i, i < n → cur[i]? = some (.bool (N.testBit i))) :
    ∃ R, R ≠ B ∧ R < w.heap.size + 1 ∧ XR (w.alloc (.cells #[.slice A n c, .int .i64 0] 42)) w.heap.size R N n 0 A c := by
  obtain ⟨cs, hB⟩ := hB
  have hBl := hB.lt
  rcases hrow with h | ⟨R, cur, rfl, hw, hcur⟩
  · exact ⟨w.heap.size, by omega, by omega, ⟨Whole.made _ _ _, by omega, hc, ⟨hc2, hn⟩, .inl h⟩⟩
  · have hne := hw.apart hB (by decide)
    have hlt := hw.lt
    exact ⟨R, hne, by omega, ⟨Whole.made _ _ _, by omega, hc, ⟨hc2, hn⟩, .inr ⟨rfl, cur, hw.old _, hcur⟩⟩⟩
set_option maxRecDepth 100000 in
set_option maxHeartbeats 8000000 in
theorem hreads_law (A : Option Addr) (n c : Nat) (l : List Int) (A0 : Option Addr) (n0 c0 : Nat) (bs : List Nat) (w : World) (h : IntsAt w A n c l) (h0 : Bytes w A0 n0 c0 bs) :
    Calls Try.prog 4 #[.slice A n c, .slice A0 n0 c0] w (True_ w) := by
  have hl := h.len
  subst hl
  have hl0 := h0.len
  subst hl0
  have hcap := h.cap
  have htop := h.top
  have hcap0 := h0.cap
  have htop0 := h0.top
  by_cases hn : 400 < l.length
  · clear h h0
    go_enter Try.func4, Try.ntmps4
    go_wp2
    go_ret
    exact ⟨rfl, Below.refl _ _⟩
  by_cases hn0 : 60 < bs.length
  · clear h h0
    go_enter Try.func4, Try.ntmps4
    go_wp2
    go_ret
    exact ⟨rfl, Below.refl _ _⟩
  have hn : l.length ≤ 400 := by omega
  have hn0 : bs.length ≤ 60 := by omega
  have H := Lib.hid h
  have H0 := Lib.hid h0
  clear h h0
  by_cases hk : lensOk l ∧ sumOk l
  · have hok := hk.1
    have hsum := hk.2
    have hshare : share (natsOf l) l.length ≤ 32768 := by rcases hsum with e | e | ⟨-, e⟩ <;> omega
    have HK := Lib.hid (And.intro hok (And.intro hsum hshare))
    clear hk hok hsum hshare
    go_enter Try.func4, Try.ntmps4
    go_wp2_with fail
    refine (make_ok A l.length c l w H.out HK.out.1 HK.out.2.1).mono ?_
    rintro e w1 ⟨hb1, B, G, v1, rfl, hB, hG, hT⟩
    have hs1 := hb1.size
    have H1 := Lib.hid (And.intro hb1 hT)
    clear hb1 hT hB hG
    go_wp2_with fail
    refine (newReader_any bs bs.length c0 A0 w1 (H0.out.below (H1.out.1)) (by omega)).mono ?_
    rintro e w2 ⟨BR, R, rfl, a1, a2, a3, hr2, hb2⟩
    have hB2 := hr2.lt
    have hs2 := hb2.size
    have H2 := Lib.hid (And.intro hr2 hb2)
    clear hr2 hb2
    go_wp2_with fail
    refine (of_any bs _ _ _ w2 (H0.out.below (H1.out.1.trans (H2.out.2.mono hs1))) (by omega)).mono ?_
    rintro e w3 ⟨vx, rfl, hx3, hb3⟩
    obtain ⟨AX, cX, rfl, hcX, hcX2, hrow⟩ := own_bits hx3
    have hs3 := hb3.size
    have hr3 := H2.out.1.frame (Fr.of_below hb3) (by omega) (by omega)
    have hrow3 : (AX = none ∧ 8 * bs.length = 0 ∧ cX = 0) ∨ ∃ R cur, AX = some ⟨R, 0, none⟩ ∧ Whole w3 R 4 cur ∧ ∀ i, i < 8 * bs.length → cur[i]? = some (.bool ((num bs).testBit i)) := by
      rcases hrow with e | ⟨R, cur, e, -, e2, e3⟩
      · exact .inl e
      · exact .inr ⟨R, cur, e, e2, e3⟩
    obtain ⟨RX, hRX1, hRX2, hxr⟩ := xr_start (N := num bs) hcX hcX2 (by omega) hr3.whole hrow3
    have hr4 : RD (w3.alloc (.cells #[.slice AX (8 * bs.length) cX, .int .i64 0] 42)) BR R (num bs / 2 ^ 0) (8 * bs.length - 0) := by
      have := hr3.frame (Fr.alloc (Fr.refl (fun _ => False) w3) (.cells #[.slice AX (8 * bs.length) cX, .int .i64 0] 42)) (fun h => h) (fun h => h)
      simpa using this
    have hb4 : Below w1.heap.size w1 (w3.alloc (.cells #[.slice AX (8 * bs.length) cX, .int .i64 0] 42)) := (H2.out.2.trans (hb3.mono (by omega))).alloc (by omega) _
    have hd0 : Rd1 (w3.alloc (.cells #[.slice AX (8 * bs.length) cX, .int .i64 0] 42)) (w3.alloc (.cells #[.slice AX (8 * bs.length) cX, .int .i64 0] 42)) BR R w3.heap.size RX (num bs) (8 * bs.length) 0 cX AX := ⟨hr4, hxr, Fr.refl _ _⟩
    have H4 := Lib.hid (And.intro hd0 hb4)
    clear hx3 hb3 hrow hr3 hrow3 hxr hr4 hb4 hd0
    go_wp2_with fail
    obtain ⟨w4, hw4⟩ : ∃ w4, w3.alloc (.cells #[.slice AX (8 * bs.length) cX, .int .i64 0] 42) = w4 := ⟨_, rfl⟩
    have hs4 : w4.heap.size = w3.heap.size + 1 := by rw [← hw4]; simp
    rw [hw4] at H4 ⊢
    clear hw4
    go_loopw [9] (fun x wr => ∃ i p : Nat, i ≤ p ∧ p ≤ 8 * bs.length ∧ x = .int .i64 i ∧ Rd1 w4 wr BR R w3.heap.size RX (num bs) (8 * bs.length) p cX AX) (fun x _ => 8 * bs.length + 1 - (intOf x).toNat)
    case atStart => exact ⟨0, 0, by omega, by omega, rfl, H4.out.1⟩
    case round =>
      obtain ⟨i, p, hi, hp, rfl, hr⟩ := hrel
      have hs5 := hr.fr.size
      have hbw1 : Below w1.heap.size w1 wr := H4.out.2.trans (hr.fr.below (by omega) (fun j hj e => by omega))
      have hbw : Below w.heap.size w wr := H1.out.1.trans (hbw1.mono hs1)
      have hTr := H1.out.2.below hbw1
      have HR := Lib.hid (And.intro hr (And.intro hbw hTr))
      clear hr hbw hbw1 hTr
      go_wp2_with fail
      refine (tread_any B w.heap.size G BR R _ _ v1 l _ wr HR.out.2.2 HR.out.1.rd (HK.out.1.1)).mono ?_
      rintro e w6 ⟨s, E, u, rfl, hres, hr6, hf6⟩
      have hu := hres.used
      have hs6 := hf6.size
      have hx6 := HR.out.1.xr.frame hf6 (by omega) hRX1
      have hf46 := HR.out.1.fr.trans hf6 (fun _ _ e => .inl e)
      have hb06 : Below w.heap.size w w6 := HR.out.2.1.trans (hf6.below (by omega) (fun j hj e => by omega))
      have H6 := Lib.hid (And.intro hr6 (And.intro hx6 (And.intro hf46 (And.intro hb06 hres))))
      clear hr6 hx6 hf6 hf46 hb06 hres
      go_wp2_with fail
      refine (xread_any w3.heap.size RX (num bs) (8 * bs.length) p cX AX A l.length c l w w6 H.out H6.out.2.2.2.1 (by omega) H6.out.2.1 (by omega) HK.out.1 HK.out.2.2).mono ?_
      rintro e w7 ⟨s', E', u', rfl, hres', hx7, hf7⟩
      obtain ⟨rfl, rfl, rfl⟩ := RES.eq H6.out.2.2.2.2 hres'
      have hr7 := H6.out.1.frame hf7 (by omega) (by omega)
      rw [Nat.div_div_eq_div_mul, ← Nat.pow_add, Nat.sub_sub] at hr7
      have hf47 := H6.out.2.2.1.trans hf7 (fun _ _ e => .inr e)
      have hb07 : Below w.heap.size w w7 := H6.out.2.2.2.1.trans (hf7.below (by omega) (fun j hj e => by omega))
      have HE := Lib.hid (And.intro (show Rd1 w4 w7 BR R w3.heap.size RX (num bs) (8 * bs.length) (p + u') cX AX from ⟨hr7, hx7, hf47⟩) hb07)
      clear hr7 hx7 hf7 hf47 hb07 hres' H6
      have hpu : p + u' ≤ 8 * bs.length := by omega
      have hpu2 : E' ≠ 6 → i + 1 ≤ p + u' := fun h => by have := hu.2 h; omega
      have HPU := Lib.hid hpu2
      clear hu hpu2
      generalize p + u' = p' at *
      have hp0 : (0 : Int) ≤ (p' : Int) := by omega
      have hp1 : (p' : Int) ≤ 8 * (bs.length : Int) := by omega
      have hp2 : IntKind.i64.wrap (8 * (bs.length : Int) - (p' : Int)) = 8 * (bs.length : Int) - p' := IntWalk.i64_in _ (by omega)
      obtain ⟨d0, d1, -⟩ := HE.out.1.xr.cells
      have lX := HE.out.1.xr.whole.lt
      go_wp2_with fail
      go_quiet ((go_at_call 21; exact Calls.quiet_of (left_is (RS.drewN' HE.out.1.rd _) (8 * (bs.length : Int) - p') (by omega))))
      by_cases hE : E' = 6
      · subst hE
        go_wp2_with fail
        refine (awake_any _).mono ?_
        rintro e w8 ⟨rfl, hb8⟩
        have HB8 := Lib.hid hb8
        clear hb8
        go_wp2_with fail
        go_ret
        have hbq := below_drewN HE.out.2 nq
        exact ⟨rfl, hbq.trans (HB8.out.mono hbq.size)⟩
      · have hE0 : (E' == 6) = false := by rw [beq_eq_false_iff_ne]; exact hE
        have hip := HPU.out hE
        clear hE
        go_wp2_with fail
        go_roundw
        case rel => exact ⟨i + 1, p', hip, by omega, by go_num, RS.drewN' HE.out.1.rd _, HE.out.1.xr.drewN _, HE.out.1.fr.drewN _⟩
        case measure => simp [intOf]; omega
  · have HK := Lib.hid hk
    clear hk
    have hmk := make_any A l.length c l w H.out
    have HMK := Lib.hid hmk
    clear hmk
    go_enter Try.func4, Try.ntmps4
    go_wp2_with fail
    refine HMK.out.mono ?_
    rintro e w1 ⟨hb1, q, E, rfl, hE, ⟨rfl, hE0⟩ | ⟨-, rfl⟩⟩
    · have hs1 := hb1.size
      have H1 := Lib.hid (And.intro hb1 hE)
      have hEb : (E != 0) = true := by rw [bne_iff_ne]; exact hE0
      clear hb1 hE hE0
      go_wp2_with fail
      refine (newReader_any bs bs.length c0 A0 w1 (H0.out.below (H1.out.1)) (by omega)).mono ?_
      rintro e w2 ⟨BR, R, rfl, a1, a2, a3, hr2, hb2⟩
      have H2 := Lib.hid (H1.out.1.trans (hb2.mono hs1))
      clear hr2 hb2
      go_wp2_with fail
      refine (awake_any _).mono ?_
      rintro e w3 ⟨rfl, hb3⟩
      have H3 := Lib.hid (H2.out.trans (hb3.mono H2.out.size))
      clear hb3
      go_wp2_with fail
      refine (refMake_any A l.length c l _ (H.out.below H3.out)).mono ?_
      rintro e w4 ⟨hb4, E4, rfl, hE4⟩
      obtain rfl := MakeErr.eq H1.out.2 hE4
      have H4 := Lib.hid (H3.out.trans (hb4.mono H3.out.size))
      clear hb4 hE4
      go_wp2_with fail
      go_ret
      exact ⟨rfl, H4.out⟩
    · rcases hE with ⟨-, e⟩ | ⟨-, -, e⟩ | ⟨a, b, -⟩
      · cases e
      · cases e
      · exact absurd ⟨a, b⟩ HK.out
end Go.Proofs.Ytpcofdhhnfichaa
