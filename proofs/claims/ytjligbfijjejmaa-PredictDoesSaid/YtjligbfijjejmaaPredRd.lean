/- The reference's Do: a row, and the rows. -/
import Derived.Test.YtjligbfijjejmaaPredRb
namespace Go.Proofs.Ytjligbfijjejmaa
open Go.RowKit

theorem Bytes.part {w : World} {R q n c : Nat} {bs : List Nat} (h : Bytes w (some ⟨R, q, none⟩) n c bs) (M k : Nat) (hMk : M + k ≤ n) : Bytes w (some ⟨R, q + M, none⟩) k (c - M) ((bs.drop M).take k) := by
  have hl := h.len
  have hc := h.cap
  have ht := h.top
  refine ⟨by rw [List.length_take, List.length_drop]; omega, by omega, by omega, fun b hb => h.byte b (List.mem_of_mem_drop (List.mem_of_mem_take hb)), fun h0 => ?_⟩
  obtain ⟨R', o', e, hR, hcell⟩ := h.at_ (by omega)
  injection e with e
  injection e with e1 e2
  subst e1 e2
  refine ⟨_, _, rfl, hR, fun i b hb => ?_⟩
  have hi : i < k := by
    have := (List.getElem?_eq_some_iff.1 hb).1
    rw [List.length_take] at this
    omega
  rw [List.getElem?_take_of_lt hi, List.getElem?_drop] at hb
  have := hcell (M + i) b hb
  rwa [← Nat.add_assoc] at this
theorem doN_byte {h n s T : Nat} {b : List Nat} (hT : T ≤ 4) : ∀ m, ∀ x ∈ doN h n s T b m, x < 256
  | 0, x, hx => by simp [doN] at hx
  | m + 1, x, hx => by
    rw [doN] at hx
    rcases List.mem_append.1 hx with h1 | h1
    · exact doN_byte hT m x h1
    · rcases List.mem_append.1 h1 with h2 | h2
      · have := List.eq_of_mem_replicate h2; omega
      · exact dRow_byte _ _ _ _ _ x h2
theorem own_stepd {B : Nat} {w wr w1 : World} {k : Nat} {a : Option Addr} {c : Nat} {xs : List Value} {o : Obj} (hown : wr.ownsRow B 5 1 (.slice a k c) k xs) (hb : Below B w wr) (hB : B ≤ wr.heap.size)
    (hg : ((wr.alloc o).drew).grownBy w1 (Value.slice a k c).ownBlock) : Below B w w1 :=
  ((hb.alloc hB o).drew).grown hg (by simp; omega) (fun j e => (own_lt hown e).1)
theorem bytes_b1 (w : World) (x : Nat) (hx : x < 256) : Bytes (w.alloc (.cells #[.int .u8 (x : Int)] 5)) (some ⟨w.heap.size, 0, none⟩) 1 1 [x] :=
  bytes_lit w [x] (by simpa using hx) (by simp)
set_option maxRecDepth 100000 in
set_option maxHeartbeats 4000000 in
set_option pp.deepTerms true in
set_option pp.maxSteps 1000000 in
theorem refdo_ok (p : PaV) (h T : Nat) (tag : Int) (A : Option Addr) (c K : Nat) (bs : List Nat) (w : World) (HB : Hid (Bytes w A bs.length c bs)) (hE : p.E = 0) (ht0 : 0 ≤ tag) (ht4 : tag ≤ 4) (hp : (h = 1 ∧ 10 ≤ p.pr ∧ tag = T) ∨ (h = 0 ∧ p.pr = 2 ∧ T = 1)) (hl : bs.length ≤ 1048576) (hK : bs.length = K * p.n) :
    Calls Try.prog 11 #[p.val, .int .i64 tag, .slice A bs.length c] w
      (AnsIs (0, doN h p.n p.s T bs K) w) := by
  obtain ⟨hok, -⟩ := PaV.E_zero hE
  obtain ⟨RR, hRR⟩ : ∃ R, doN h p.n p.s T bs K = R := ⟨_, rfl⟩
  rw [hRR]
  have hnn := hok.n_is.2
  have hss := hok.s_is.2
  obtain ⟨n, hn⟩ : ∃ n, p.n = n := ⟨_, rfl⟩
  obtain ⟨s, hs⟩ : ∃ s, p.s = s := ⟨_, rfl⟩
  have HE := Lib.hid (And.intro hE (And.intro hok (And.intro hn hs)))
  rw [hn] at hK hnn
  rw [hs] at hss
  rw [hn, hs] at hRR
  have HR := Lib.hid hRR
  clear hRR
  have HK := Lib.hid hK
  have g1 : (p.pr == 1) = false := by simp; omega
  have hm0 : ((bs.length : Int) % (n : Int) != 0) = false := by
    rw [hK, ← Int.natCast_emod, Nat.mul_mod_left]
    rfl
  have HP := Lib.hid hp
  have d01 : decide (tag < 0) = false := by simp; omega
  have d02 : decide (4 < tag) = false := by simp; omega
  have hT4 : T ≤ 4 := by omega
  have hh1 : h ≤ 1 := by omega
  clear hE hok hn hs hK hp
  go_enter Try.func11, Try.ntmps11
  go_wp2_with fail
  refine (refcheck_any p _).mono ?_
  rintro e w1 ⟨rfl, hb1⟩
  rw [HE.out.1]
  have HX1 := Lib.hid (p_cells hb1)
  obtain ⟨c0, c1, c2, c3⟩ := HX1.out.1
  have lx := HX1.out.2.1
  clear hb1
  go_wp2_with fail
  refine (refrow_ok p _ HE.out.2.1).mono ?_
  rintro e w2 ⟨rfl, hb2⟩
  rw [HE.out.2.2.1]
  have HX2 := Lib.hid (And.intro (C4.later HX1.out.1 HX1.out.2.1 hb2) (And.intro (Nat.lt_of_lt_of_le HX1.out.2.1 hb2.size) (HX1.out.2.2.trans (hb2.mono HX1.out.2.2.size))))
  clear hb2 c0 c1 c2 c3 lx
  obtain ⟨c0, c1, c2, c3⟩ := HX2.out.1
  have lx := HX2.out.2.1
  go_wp2_with fail
  refine (refstep9_any p _ HE.out.2.1).mono ?_
  rintro e w3 ⟨rfl, hb3⟩
  rw [HE.out.2.2.2]
  have HX3 := Lib.hid (And.intro (C4.later HX2.out.1 HX2.out.2.1 hb3) (And.intro (Nat.lt_of_lt_of_le HX2.out.2.1 hb3.size) (HX2.out.2.2.trans (hb3.mono HX2.out.2.2.size))))
  clear hb3 c0 c1 c2 c3 lx HX1 HX2
  have hs3 := HX3.out.2.1
  have HC4 := Lib.hid HX3.out.1
  have HW := Lib.hid HX3.out.2.2
  clear HX3
  obtain ⟨i0, hi, hz0, hz1, hz2⟩ := info_parts info8
  obtain ⟨N, hN⟩ : ∃ N, w.heap.size + 1 = N := ⟨_, rfl⟩
  go_wp2_with fail
  go_loopg [11, 12, 13] K (fun g v u x wr => ∃ (m nu cu : Nat) (Au : Option Addr) (o : List Nat), g + m = K ∧ x = .int .i64 ((m * n : Nat) : Int) ∧ u = .slice Au nu cu ∧ doN h n s T bs m = o ∧ wr.ownsRow N 5 1 v o.length (bvs o) ∧ Bytes w Au nu cu (upD bs n m) ∧ Below N w3 wr)
  case atStart => exact ⟨0, 0, 0, none, [], by omega, by simp, rfl, rfl, ⟨rfl, .inl ⟨rfl, rfl⟩⟩, nil_bytes _, Below.refl _ _⟩
  case round =>
    obtain ⟨m, nu, cu, Au, o, hgm, rfl, rfl, ho, hown, hup, hbel⟩ := hrel
    obtain ⟨a0, ca, rfl⟩ := own_slice hown
    have hol : o.length = m * (h + n) := by rw [← ho]; exact doN_len _ _ _ _ _ _
    have hob : ∀ x ∈ o, x < 256 := by rw [← ho]; exact doN_byte hT4 m
    have hszN := hbel.size
    have hC := HC4.out
    have hcell0 : wr.cell? ⟨w.heap.size, 0, none⟩ = some (.int .i64 p.pr) := (hbel.cell (p := ⟨w.heap.size, 0, none⟩) (by simp; omega)).trans hC.1
    have hlp : w.heap.size < wr.heap.size := by omega
    clear hC
    have HX := Lib.hid (And.intro hown (And.intro hup (And.intro hbel (And.intro ho hob))))
    clear hown hup hbel ho hob
    obtain ⟨W, rfl⟩ : ∃ W, W = wr := ⟨_, rfl⟩
    by_cases hlt : m < K
    · have hmK : (m + 1) * n ≤ bs.length := by rw [HK.out]; exact Nat.mul_le_mul_right _ (by omega)
      have hmm : (m + 1) * n = m * n + n := by rw [Nat.add_mul, Nat.one_mul]
      have hmn : m * (h + n) ≤ 2 * (m * n) := by
        rw [← Nat.mul_assoc, Nat.mul_comm 2 m, Nat.mul_assoc]
        exact Nat.mul_le_mul_left _ (by omega)
      have hol2 : o.length ≤ 2097152 := by omega
      obtain ⟨M, hM⟩ : ∃ M, m * n = M := ⟨_, rfl⟩
      rw [hM] at hmm hmn ⊢
      have HM := Lib.hid hM
      have HOL := Lib.hid hol
      clear hM hol hmn
      obtain ⟨R, q, rfl, hR, hcell⟩ := HB.out.at_ (by omega)
      have hB0 := HB.out
      have hcap0 := hB0.cap
      have htop0 := hB0.top
      obtain ⟨rw_, hrw⟩ : ∃ r, rowM bs n m = r := ⟨_, rfl⟩
      have hrow : Bytes w (some ⟨R, q + M, none⟩) n (c - M) rw_ := by
        have := hB0.part M n (by omega)
        rw [← hrw]
        unfold rowM
        rw [HM.out]
        exact this
      have HROW := Lib.hid hrow
      have HRW := Lib.hid hrw
      have d1 : decide ((M : Int) < (bs.length : Int)) = true := by simp; omega
      have hw1 : IntKind.i64.wrap ((M : Int) + (n : Int)) = (M : Int) + (n : Int) := IntWalk.i64_in _ (by omega)
      clear hB0 hrw hrow hcell
      obtain ⟨b3, hb3⟩ : ∃ b, decide (2 < p.pr) = b := ⟨_, rfl⟩
      go_upto_if 60 with fail
      have HB3 := Lib.hid hb3
      clear hb3
      rw [show M + n - M = n from by omega]
      go_cut [11, 15] from 45 to 99 (fun v x wx => x = .int .i64 (T : Int) ∧ Hid (wx.ownsRow N 5 1 v (o.length + h) (bvs (o ++ List.replicate h T)) ∧ Below N w3 wx))
      case first =>
        clear d1 hlt
        rcases HP.out with ⟨e1, e2, e3⟩ | ⟨e1, e2, e3⟩
        · obtain rfl : true = b3 := by rw [← HB3.out]; simp; omega
          have HE1 := Lib.hid (And.intro e1 e3)
          have hw2 : IntKind.u8.wrap tag = tag := by show _ % 256 = _; omega
          clear e1 e2 e3
          go_wp2_with (refine wpList_app (o := ⟨some 65, _, _, _, _, _⟩) rfl (.tmp 61) (.tmp 64) rfl N o.length 1 1 (.slice a0 o.length ca) o [T] (some ⟨W.heap.size, 0, none⟩) ?p1 ?p2 ?p3 ?p4 ?p5 ?p6 ?p7)
          case p1 => rfl
          case p2 => rfl
          case p3 => exact HX.out.1.alloc _
          case p4 => rw [HE1.out.2]; exact bytes_b1 W T (by omega)
          case p5 => omega
          case p6 => simp; omega
          intro v4 w4 hown4 hgrow4
          have hb4 : Below N w3 w4 := (HX.out.2.2.1.alloc (by omega) _).grown hgrow4 (by simp; omega) (fun j e => (own_lt HX.out.1 e).1)
          have H4 := Lib.hid (And.intro hown4 hb4)
          clear hown4 hgrow4 hb4
          go_wp2_with fail
          go_meet
          exact ⟨by rw [HE1.out.2], Lib.hid ⟨by rw [HE1.out.1]; exact H4.out.1, H4.out.2⟩⟩
        · obtain rfl : false = b3 := by rw [← HB3.out]; simp; omega
          have HE1 := Lib.hid (And.intro e1 e3)
          clear e1 e2 e3
          go_wp2_with fail
          go_meet
          exact ⟨by rw [HE1.out.2]; rfl, Lib.hid ⟨by rw [HE1.out.1]; simpa using HX.out.1, HX.out.2.2.1⟩⟩
      case rest =>
        obtain ⟨rfl, HH⟩ := hcut
        obtain ⟨O, hO⟩ : ∃ O, o ++ List.replicate h T = O := ⟨_, rfl⟩
        have HHO := Lib.hid hO
        obtain ⟨L, hL⟩ : ∃ L, o.length + h = L := ⟨_, rfl⟩
        have HL := Lib.hid hL
        have hL9 : L ≤ 2097153 := by omega
        rw [hO, hL] at HH
        obtain ⟨U, hU⟩ : ∃ U, upD bs n m = U := ⟨_, rfl⟩
        have HU := Lib.hid hU
        have HUB := Lib.hid (show Bytes w Au nu cu U from hU ▸ HX.out.2.1)
        clear hO hL hU hcell0 hlp
        go_wp2_with fail
        go_loopg [11, 16] n (fun g v x wx => ∃ k : Nat, g + k = n ∧ x = .int .i64 (k : Int) ∧ wx.ownsRow N 5 1 v (L + k) (bvs (O ++ dRow T s U rw_ k)) ∧ Below N w3 wx)
        case atStart => exact ⟨0, by omega, rfl, by simpa [dRow] using HH.out.1, HH.out.2⟩
        case round =>
          obtain ⟨k, hgk, rfl, hrow, hbk⟩ := hrel
          obtain ⟨a1, ck, rfl⟩ := own_slice hrow
          have hszk := hbk.size
          have HY := Lib.hid (And.intro hrow hbk)
          clear hrow hbk
          by_cases hkn : k < n
          · have hbw := HW.out.trans (HY.out.2.mono (by omega))
            have hrb := HROW.out.below hbw
            have hub := HUB.out.below hbw
            have hx := hrb.byte_at rfl (i := k) (by omega)
            obtain ⟨v1, v2, v3, f, hf, HF, C1, C2, C3, C4_⟩ := four_any T s k _ U _ Au n (c - M) nu cu wr.drew (by omega) (hrb.drewN 1) (hub.drewN 1)
            have f4 := getD_lt hrb.byte k
            obtain ⟨z, hz⟩ : ∃ z, (rw_.getD k 0 + 256 - f) % 256 = z := ⟨_, rfl⟩
            have HZ := Lib.hid (show dRow T s U rw_ (k + 1) = dRow T s U rw_ k ++ [z] by rw [← hz, HF.out]; rfl)
            obtain ⟨v0, hv0⟩ : ∃ x, rw_.getD k 0 = x := ⟨_, rfl⟩
            rw [hv0] at hx f4 hz
            have hw4 : IntKind.i64.wrap ((k : Int) - (s : Int)) = (k : Int) - (s : Int) := IntWalk.i64_in _ (by omega)
            have HZ9 : Hid ((IntKind.u8.wrap ((IntKind.i64.wrap (IntKind.i64.wrap (IntKind.i64.wrap (v0 : Int) + 256) - (f : Int))).tmod 256)) = (z : Int)) := by
              show _ = _
              rw [show IntKind.i64.wrap (v0 : Int) = v0 from IntWalk.i64_in _ (by omega), show IntKind.i64.wrap ((v0 : Int) + 256) = (v0 : Int) + 256 from IntWalk.i64_in _ (by omega), show IntKind.i64.wrap ((v0 : Int) + 256 - (f : Int)) = (v0 : Int) + 256 - (f : Int) from IntWalk.i64_in _ (by omega), Int.tmod_eq_emod_of_nonneg (by omega)]
              show ((_ : Int) % 256) = _
              omega
            have hz256 : z < 256 := by omega
            have HXY := Lib.hid (And.intro hv0 hz)
            clear hv0 hz hbw hrb hub
            go_upto_region 27 with fail
            go_region_law (first
              | (go_simp; go_at_call 21; (first | (with_reducible refine C1.out.mono ?_) | (with_reducible refine C2.out.mono ?_) | (with_reducible refine C3.out.mono ?_)); rintro e v ⟨rfl, rfl⟩)
              | (go_simp; go_at_call 20; (with_reducible refine C4_.out.mono ?_); rintro e v ⟨rfl, rfl⟩)
              | (refine step_append_lies _ (by rfl) _ _ _ (by rfl) N 5 i0 (.int .u8 0) 1 1 Try.underlying24 hi hz0 hz1 hz2 rfl (by omega) (.slice a1 (L + k) ck) (L + k) (bvs (O ++ dRow T s U rw_ k)) (by rfl) ((HY.out.1.alloc _).drew) ⟨wr.heap.size, 0, none⟩ 1 1 [.int .u8 (IntKind.u8.wrap ((IntKind.i64.wrap (IntKind.i64.wrap (IntKind.i64.wrap (v0 : Int) + 256) - (f : Int))).tmod 256))] (by rfl) (by rfl) (World.news_of_block (cs := #[.int .u8 (IntKind.u8.wrap ((IntKind.i64.wrap (IntKind.i64.wrap (IntKind.i64.wrap (v0 : Int) + 256) - (f : Int))).tmod 256))]) (t := 5) (fr := (0, 0)) (heap_alloc_new wr _)) (by simp [Value.oneCell']) (by omega) (by unfold maxLen; omega) (by omega) (by simp; omega) (wr.heap.size + 1) (by simp) ?_; intro g1 cap1 w1 hown1 hgrow1 hat1 hlt1; rw [HZ9.out] at hown1; have HG := Lib.hid (And.intro hown1 (own_stepd HY.out.1 HY.out.2 (Nat.le_trans (by omega) hszk) hgrow1)); clear hown1 hgrow1 hat1 hlt1))
            all_goals
              go_wp2_with fail
              go_roundg (n - (k + 1))
              case measure => omega
              case rel => exact ⟨k + 1, by omega, by go_num, by rw [HZ.out, ← List.append_assoc, bvs_append]; exact HG.out.1, HG.out.2⟩
          · obtain rfl : k = n := by omega
            have d3 : decide ((k : Int) < (k : Int)) = false := by simp
            go_wp2_with fail
            go_roundg (K - (m + 1))
            case measure => omega
            case rel =>
              refine ⟨m + 1, k, c - M, _, O ++ dRow T s U rw_ k, by omega, ?_, rfl, ?_, ?_, ?_, HY.out.2⟩
              · rw [Nat.add_mul, HM.out, Nat.one_mul]; congr 1
              · rw [doN, HX.out.2.2.2.1, HU.out, HRW.out, ← HHO.out, List.append_assoc]
              · rw [List.length_append, dRow_len, ← HHO.out, List.length_append, List.length_replicate, HL.out, HHO.out]; exact HY.out.1
              · rw [upD, HRW.out]; exact HROW.out
    · obtain rfl : m = K := by omega
      have e1 : (((m * n : Nat) : Int)) = (bs.length : Int) := by rw [HK.out]
      rw [e1]
      have d1 : decide ((bs.length : Int) < (bs.length : Int)) = false := by simp
      have hb := own_read HX.out.1 HX.out.2.2.2.2
      have HRR := Lib.hid (show RR = o by rw [← HR.out, HX.out.2.2.2.1])
      have HF := Lib.hid (And.intro hb (HW.out.trans (HX.out.2.2.1.mono (by omega))))
      clear hb
      go_wp2_with fail
      go_ret2
      rw [HRR.out]
      exact ⟨a0, ca, rfl, HF.out.1, HF.out.2⟩
end Go.Proofs.Ytjligbfijjejmaa
