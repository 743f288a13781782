/- DeflateLong, walked. -/
import Derived.Test.YtnjdnldoopgcpaaDefR
import Derived.Test.YtnjdnldoopgcpaaDefBl
namespace Go.Proofs.Ytnjdnldoopgcpaa
open Go.RowKit

/-- What a token and its place tell of every row that stands ahead. -/
def NoLonger (bs : List Nat) (pos L B : Nat) : Prop := ∀ j, 1 ≤ j → j ≤ min pos 1024 → comD bs (pos - j) pos (mostD bs pos) ≤ max L 2 ∧ (comD bs (pos - j) pos (mostD bs pos) = L → 0 < L → B ≤ j)
theorem no_longer_match {bs : List Nat} {pos : Nat} (h : 3 ≤ (foundD bs pos).1) : NoLonger bs pos (foundD bs pos).1 (foundD bs pos).2 := by
  intro j h1 h2
  obtain ⟨g1, g2⟩ := bestD_max (b := bs) (i := pos) (min pos 1024) j h1 h2
  refine ⟨?_, fun e h0 => g2 e h0⟩
  unfold foundD at h ⊢
  omega
theorem bestD_zero {b : List Nat} {i : Nat} : ∀ k, (bestD b i k).1 < 3 → (bestD b i k).1 = 0
  | 0, _ => rfl
  | k + 1, h => by
    unfold bestD at h ⊢
    by_cases hc : 3 ≤ comD b (i - (k + 1)) i (mostD b i) ∧ (bestD b i k).1 < comD b (i - (k + 1)) i (mostD b i)
    · rw [if_pos hc] at h
      have h' : comD b (i - (k + 1)) i (mostD b i) < 3 := h
      omega
    · rw [if_neg hc] at h ⊢
      exact bestD_zero k h
theorem no_longer_byte {bs : List Nat} {pos : Nat} (h : (foundD bs pos).1 < 3) : NoLonger bs pos 0 0 := by
  intro j h1 h2
  obtain ⟨g1, -⟩ := bestD_max (b := bs) (i := pos) (min pos 1024) j h1 h2
  have h0 := bestD_zero _ h
  refine ⟨?_, fun _ h9 => absurd h9 (by omega)⟩
  omega
set_option maxRecDepth 100000 in
set_option maxHeartbeats 16000000 in
theorem long_law (A : Option Addr) (n c : Nat) (bs : List Nat) (w : World) (h : Bytes w A n c bs) :
    Calls Try.prog 4 #[.slice A n c] w (True_ w) := by
  have hl := h.len
  have H0 := Lib.hid h
  clear h
  go_enter Try.func4, Try.ntmps4
  by_cases g1 : 300 < n
  · have d1 : decide ((n : Int) > 300) = true := decide_eq_true (by omega)
    go_wp2_with fail
    go_ret
    exact ⟨rfl, Below.refl _ _⟩
  have d1 : decide ((n : Int) > 300) = false := decide_eq_false (by omega)
  have HT := Lib.hid (dtokens_any A n c bs w H0.out)
  go_wp2_with fail
  refine HT.out.mono ?_
  rintro e w2 (⟨-, A2, c2, rfl, htk, htl, hb⟩ | ⟨hgt, -, -⟩)
  rotate_left
  · omega
  obtain ⟨l, hll⟩ : ∃ l, tokD bs = l := ⟨_, rfl⟩
  rw [hll] at htk htl ⊢
  obtain ⟨len, hlen⟩ : ∃ len, l.length = len := ⟨_, rfl⟩
  rw [hlen] at htk htl ⊢
  have H2 := Lib.hid (And.intro htk hb)
  have HL := Lib.hid (And.intro hll hlen)
  clear htk hb HT hll hlen
  go_wp2_with fail
  go_loopw [5, 6] (fun s5 s6 wr => ∃ (k f pos : Nat), s6 = .int .i64 (k : Int) ∧ s5 = .int .i64 (pos : Int) ∧ pos ≤ n ∧ k ≤ len ∧ n ≤ pos + f ∧ Hid (l.drop k = tokGoD bs f pos) ∧ Hid (Below w.heap.size w wr ∧ TksAt wr A2 len c2 l)) (fun _ s6 _ => len - (intOf s6).toNat)
  case atStart => exact ⟨0, n, 0, rfl, rfl, by omega, by omega, by omega, Lib.hid (by rw [List.drop_zero, ← HL.out.1]; unfold tokD; rw [hl]), Lib.hid ⟨H2.out.2, H2.out.1⟩⟩
  case round =>
    obtain ⟨k, f, pos, rfl, rfl, hpi, hkl, hif, HD, HK⟩ := hrel
    by_cases hlt2 : k < len
    · have d4 : decide ((k : Int) < (len : Int)) = true := decide_eq_true (by omega)
      have hst := tok_step HD.out (by rw [HL.out.2]; exact hlt2) (by rw [hl]; exact hif)
      rw [hl] at hst
      obtain ⟨hpl, f', rfl, hst⟩ := hst
      obtain ⟨t, L, B, ht, htL, htB, hrest, HNL, hLn, hBp, hL03⟩ : ∃ (t : Tk) (L B : Nat), l[k]? = some t ∧ t.len = (L : Int) ∧ t.back = (B : Int) ∧ l.drop (k + 1) = tokGoD bs f' (pos + max L 1) ∧ NoLonger bs pos L B ∧ L ≤ n - pos ∧ B ≤ pos ∧ (L = 0 ∨ 3 ≤ L) := by
        rcases hst with ⟨h1, h2, h3⟩ | ⟨h1, h2, h3⟩
        · exact ⟨_, 0, 0, h2, rfl, rfl, h3, no_longer_byte h1, by omega, by omega, .inl rfl⟩
        · have hin := foundD_in h1
          exact ⟨_, _, _, h2, rfl, rfl, by rw [show max (foundD bs pos).1 1 = (foundD bs pos).1 by omega]; exact h3, no_longer_match h1, by omega, by omega, .inr h1⟩
      rcases hL03 with rfl | hL3
      · have HNL2 := Lib.hid HNL
        obtain ⟨R, o, rfl, hR, k0, k1, k2⟩ := HK.out.2.get ht
        rw [htL] at k1
        rw [htB] at k2
        have b3 : (0 : Int) ≤ (k : Int) := by omega
        have b4 : (k : Int) < (len : Int) := by omega
        obtain ⟨M, hM⟩ : ∃ M, n - pos = M := ⟨_, rfl⟩
        have ewM : IntKind.i64.wrap ((n : Int) - (pos : Int)) = (M : Int) := by rw [IntKind.wrap_i64]; omega
        rw [hM] at hLn
        have e2 : decide ((0 : Int) > (M : Int)) = false := decide_eq_false (by omega)
        have e3 : decide ((B : Int) > (pos : Int)) = false := decide_eq_false (by omega)
        have e4 : decide ((pos : Int) ≥ (n : Int)) = false := decide_eq_false (by omega)
        have hmx1 : max (0 : Int) 1 = 1 := rfl
        have hmx2 : max (0 : Int) 2 = 2 := rfl
        rw [show max 0 1 = 1 by omega] at hrest
        obtain ⟨po, hpo⟩ : ∃ po, pos + 1 = po := ⟨_, rfl⟩
        rw [hpo] at hrest
        have ewz : IntKind.i64.wrap ((pos : Int) + 1) = (po : Int) := by rw [IntKind.wrap_i64]; omega
        have hpon : po ≤ n := by omega
        have hpof : n ≤ po + f' := by omega
        have HPO := Lib.hid hpo
        have HM := Lib.hid hM
        have HRS := Lib.hid hrest
        have HTK := Lib.hid (And.intro ht (And.intro htL htB))
        clear hst HNL ht htL htB hrest k0 hpo
        go_wp2_with fail
        rename World => wo
        go_loopw [8] (fun s8 wr => ∃ j : Nat, s8 = .int .i64 (j : Int) ∧ 1 ≤ j ∧ j ≤ min pos 1024 + 1 ∧ Hid (Below w.heap.size w wr ∧ TksAt wr (some ⟨R, o, none⟩) len c2 l)) (fun s8 _ => 1100 - (intOf s8).toNat)
        case atStart => exact ⟨1, rfl, by omega, by omega, Lib.hid HK.out⟩
        case round =>
          obtain ⟨j, rfl, hj1, hj2, HJ⟩ := hrel
          by_cases hjp : j ≤ pos
          · by_cases hj9 : j ≤ 1024
            · have f1 : decide ((j : Int) ≤ (pos : Int)) = true := decide_eq_true (by omega)
              have f2 : decide ((j : Int) ≤ 1024) = true := decide_eq_true (by omega)
              obtain ⟨q, hq⟩ : ∃ q, pos - j = q := ⟨_, rfl⟩
              obtain ⟨hc1, hc2⟩ := HNL2.out j hj1 (by omega)
              rw [hq] at hc1 hc2
              obtain ⟨C, hC⟩ : ∃ C, comD bs q pos (mostD bs pos) = C := ⟨_, rfl⟩
              rw [hC] at hc1 hc2
              have hC2 := comD_le bs q pos (mostD bs pos)
              rw [hC] at hC2
              have hmo2 : mostD bs pos = min 258 M := by unfold mostD; rw [hl]; have := HM.out; omega
              rw [hmo2] at hC hC2
              have HC := Lib.hid hC
              have HCC := Lib.hid (And.intro hc1 hc2)
              clear hC hc1 hc2 hmo2
              go_wp2_with fail
              rename World => wi
              go_loopw [9] (fun s9 wr => ∃ m : Nat, s9 = .int .i64 (m : Int) ∧ m ≤ C ∧ Hid (Below w.heap.size w wr ∧ TksAt wr (some ⟨R, o, none⟩) len c2 l)) (fun s9 _ => C - (intOf s9).toNat)
              case atStart => exact ⟨0, rfl, by omega, Lib.hid HJ.out⟩
              case round =>
                obtain ⟨m, rfl, hmC, HI⟩ := hrel
                have hMn := HM.out
                obtain ⟨p, hp⟩ : ∃ p, pos + m = p := ⟨_, rfl⟩
                obtain ⟨r, hr⟩ : ∃ r, q + m = r := ⟨_, rfl⟩
                have ewp : IntKind.i64.wrap ((pos : Int) + (m : Int)) = (p : Int) := by rw [IntKind.wrap_i64]; omega
                have ewq : IntKind.i64.wrap ((p : Int) - (j : Int)) = (r : Int) := by rw [IntKind.wrap_i64]; omega
                obtain ⟨RB, ob, rfl, hRB, hcb⟩ := (H0.out.below HI.out.1).at_ (by omega)
                have r1 : (0 : Int) ≤ (p : Int) := by omega
                have r3 : (0 : Int) ≤ (r : Int) := by omega
                by_cases hlm : m < C
                · have g3 : decide ((m : Int) < 258) = true := decide_eq_true (by omega)
                  have g4 : decide ((p : Int) < (n : Int)) = true := decide_eq_true (by omega)
                  obtain ⟨x, hx⟩ : ∃ x, bs[p]? = some x := ⟨_, List.getElem?_eq_getElem (by omega)⟩
                  have hy : bs[r]? = some x := by
                    have := comD_eq bs q pos (min 258 M) m (by rw [HC.out]; exact hlm)
                    rw [hp, hr, List.getD_eq_getElem?_getD, List.getD_eq_getElem?_getD, hx, List.getElem?_eq_getElem (by omega)] at this
                    rw [List.getElem?_eq_getElem (by omega)]
                    exact congrArg some this
                  have y0 := hcb p x hx
                  have y1 := hcb r x hy
                  have r2 : (p : Int) < (n : Int) := by omega
                  have r4 : (r : Int) < (n : Int) := by omega
                  have dxx : ((x : Int) == (x : Int)) = true := by simp
                  clear hx hy hcb hp hr
                  go_wp2_with fail
                  go_quiet (fail)
                  go_wp2_with fail
                  go_roundw
                  case rel => exact ⟨m + 1, by go_num, by omega, Lib.hid ⟨below_drewN HI.out.1 _, HI.out.2.later (below_drewN (Below.refl _ _) _)⟩⟩
                  case measure => simp [intOf]; omega
                · obtain rfl : m = C := by omega
                  have kk1 : wr.cell? ⟨R, o + k * 3 + 1, none⟩ = some (.int .i64 0) := by
                    obtain ⟨R', o', e', -, -, h1, -⟩ := HI.out.2.get HTK.out.1
                    injection e' with e'
                    injection e' with e1' e2'
                    subst e1' e2'
                    rw [h1, HTK.out.2.1]; rfl
                  have kk2 : wr.cell? ⟨R, o + k * 3 + 2, none⟩ = some (.int .i64 (B : Int)) := by
                    obtain ⟨R', o', e', -, -, -, h1⟩ := HI.out.2.get HTK.out.1
                    injection e' with e'
                    injection e' with e1' e2'
                    subst e1' e2'
                    rw [h1, HTK.out.2.2]
                  by_cases h258 : m = 258
                  · exact absurd h258 (by have := HCC.out.1; omega)
                  have g3 : decide ((m : Int) < 258) = true := decide_eq_true (by omega)
                  by_cases hpn : p < n
                  · have g4 : decide ((p : Int) < (n : Int)) = true := decide_eq_true (by omega)
                    obtain ⟨x, hx⟩ : ∃ x, bs[p]? = some x := ⟨_, List.getElem?_eq_getElem (by omega)⟩
                    obtain ⟨y, hy⟩ : ∃ y, bs[r]? = some y := ⟨_, List.getElem?_eq_getElem (by omega)⟩
                    have hxy : x ≠ y := by
                      have := comD_stop bs q pos (min 258 M) (by rw [HC.out]; omega)
                      rw [HC.out, hp, hr, List.getD_eq_getElem?_getD, List.getD_eq_getElem?_getD, hx, hy] at this
                      exact fun e => this e.symm
                    have y0 := hcb p x hx
                    have y1 := hcb r y hy
                    have r2 : (p : Int) < (n : Int) := by omega
                    have r4 : (r : Int) < (n : Int) := by omega
                    have dxx : ((x : Int) == (y : Int)) = false := by simp; omega
                    clear hx hy hcb hp hr hxy
                    by_cases hC0 : m = 0
                    · have x1 : decide ((m : Int) > 2) = false := decide_eq_false (by omega)
                      have x2 : ((m : Int) == 0) = true := by simp; omega
                      clear hC0
                      go_wp2_with fail
                      go_quiet (fail)
                      go_wp2_with fail
                      go_roundw
                      case rel => exact ⟨j + 1, by go_num, by omega, by omega, Lib.hid ⟨below_drewN HI.out.1 _, HI.out.2.later (below_drewN (Below.refl _ _) _)⟩⟩
                      case measure => simp [intOf]; omega
                    · have x1 : decide ((m : Int) > 2) = false := decide_eq_false (by have := HCC.out.1; omega)
                      have x2 : ((m : Int) == 0) = false := by simp; omega
                      clear hC0
                      go_wp2_with fail
                      go_quiet (fail)
                      go_wp2_with fail
                      go_roundw
                      case rel => exact ⟨j + 1, by go_num, by omega, by omega, Lib.hid ⟨below_drewN HI.out.1 _, HI.out.2.later (below_drewN (Below.refl _ _) _)⟩⟩
                      case measure => simp [intOf]; omega
                  · have g4 : decide ((p : Int) < (n : Int)) = false := decide_eq_false (by omega)
                    clear hcb hp hr
                    by_cases hC0 : m = 0
                    · have x1 : decide ((m : Int) > 2) = false := decide_eq_false (by omega)
                      have x2 : ((m : Int) == 0) = true := by simp; omega
                      clear hC0
                      go_wp2_with fail
                      go_quiet (fail)
                      go_wp2_with fail
                      go_roundw
                      case rel => exact ⟨j + 1, by go_num, by omega, by omega, Lib.hid ⟨below_drewN HI.out.1 _, HI.out.2.later (below_drewN (Below.refl _ _) _)⟩⟩
                      case measure => simp [intOf]; omega
                    · have x1 : decide ((m : Int) > 2) = false := decide_eq_false (by have := HCC.out.1; omega)
                      have x2 : ((m : Int) == 0) = false := by simp; omega
                      clear hC0
                      go_wp2_with fail
                      go_quiet (fail)
                      go_wp2_with fail
                      go_roundw
                      case rel => exact ⟨j + 1, by go_num, by omega, by omega, Lib.hid ⟨below_drewN HI.out.1 _, HI.out.2.later (below_drewN (Below.refl _ _) _)⟩⟩
                      case measure => simp [intOf]; omega
            · have f1 : decide ((j : Int) ≤ (pos : Int)) = true := decide_eq_true (by omega)
              have f2 : decide ((j : Int) ≤ 1024) = false := decide_eq_false (by omega)
              go_wp2_with fail
              go_roundw
              case rel => exact ⟨k + 1, f', po, by go_num, (by have := HPO.out; first | rfl | (congr 1; omega)), hpon, by omega, hpof, HRS, Lib.hid HJ.out⟩
              case measure => simp [intOf]; omega
          · have f1 : decide ((j : Int) ≤ (pos : Int)) = false := decide_eq_false (by omega)
            go_wp2_with fail
            go_roundw
            case rel => exact ⟨k + 1, f', po, by go_num, (by have := HPO.out; first | rfl | (congr 1; omega)), hpon, by omega, hpof, HRS, Lib.hid HJ.out⟩
            case measure => simp [intOf]; omega
      · have HNL2 := Lib.hid HNL
        obtain ⟨R, o, rfl, hR, k0, k1, k2⟩ := HK.out.2.get ht
        rw [htL] at k1
        rw [htB] at k2
        have b3 : (0 : Int) ≤ (k : Int) := by omega
        have b4 : (k : Int) < (len : Int) := by omega
        obtain ⟨M, hM⟩ : ∃ M, n - pos = M := ⟨_, rfl⟩
        have ewM : IntKind.i64.wrap ((n : Int) - (pos : Int)) = (M : Int) := by rw [IntKind.wrap_i64]; omega
        rw [hM] at hLn
        have e1 : decide ((L : Int) < 0) = false := decide_eq_false (by omega)
        have e2n : ¬ M < L := by omega
        have e3n : ¬ pos < B := by omega
        have e4n : ¬ n ≤ pos := by omega
        have e2 : decide ((L : Int) > (M : Int)) = false := decide_eq_false (by omega)
        have hmx2 : max (L : Int) 2 = (L : Int) := by omega
        have hmx1 : max (L : Int) 1 = (L : Int) := by omega
        have e3 : decide ((B : Int) > (pos : Int)) = false := decide_eq_false (by omega)
        have e4 : decide ((pos : Int) ≥ (n : Int)) = false := decide_eq_false (by omega)
        rw [show max L 1 = L by omega] at hrest
        obtain ⟨po, hpo⟩ : ∃ po, pos + L = po := ⟨_, rfl⟩
        rw [hpo] at hrest
        have ewz : IntKind.i64.wrap ((pos : Int) + (L : Int)) = (po : Int) := by rw [IntKind.wrap_i64]; omega
        have hpon : po ≤ n := by omega
        have hpof : n ≤ po + f' := by omega
        have HPO := Lib.hid hpo
        have HM := Lib.hid hM
        have HRS := Lib.hid hrest
        have HTK := Lib.hid (And.intro ht (And.intro htL htB))
        clear hst HNL ht htL htB hrest k0 hpo
        go_wp2_with fail
        rename World => wo
        go_loopw [8] (fun s8 wr => ∃ j : Nat, s8 = .int .i64 (j : Int) ∧ 1 ≤ j ∧ j ≤ min pos 1024 + 1 ∧ Hid (Below w.heap.size w wr ∧ TksAt wr (some ⟨R, o, none⟩) len c2 l)) (fun s8 _ => 1100 - (intOf s8).toNat)
        case atStart => exact ⟨1, rfl, by omega, by omega, Lib.hid HK.out⟩
        case round =>
          obtain ⟨j, rfl, hj1, hj2, HJ⟩ := hrel
          by_cases hjp : j ≤ pos
          · by_cases hj9 : j ≤ 1024
            · have f1 : decide ((j : Int) ≤ (pos : Int)) = true := decide_eq_true (by omega)
              have f2 : decide ((j : Int) ≤ 1024) = true := decide_eq_true (by omega)
              obtain ⟨q, hq⟩ : ∃ q, pos - j = q := ⟨_, rfl⟩
              obtain ⟨hc1, hc2⟩ := HNL2.out j hj1 (by omega)
              rw [hq] at hc1 hc2
              obtain ⟨C, hC⟩ : ∃ C, comD bs q pos (mostD bs pos) = C := ⟨_, rfl⟩
              rw [hC] at hc1 hc2
              have hC2 := comD_le bs q pos (mostD bs pos)
              rw [hC] at hC2
              have hmo2 : mostD bs pos = min 258 M := by unfold mostD; rw [hl]; have := HM.out; omega
              rw [hmo2] at hC hC2
              have HC := Lib.hid hC
              have HCC := Lib.hid (And.intro hc1 hc2)
              clear hC hc1 hc2 hmo2
              go_wp2_with fail
              rename World => wi
              go_loopw [9] (fun s9 wr => ∃ m : Nat, s9 = .int .i64 (m : Int) ∧ m ≤ C ∧ Hid (Below w.heap.size w wr ∧ TksAt wr (some ⟨R, o, none⟩) len c2 l)) (fun s9 _ => C - (intOf s9).toNat)
              case atStart => exact ⟨0, rfl, by omega, Lib.hid HJ.out⟩
              case round =>
                obtain ⟨m, rfl, hmC, HI⟩ := hrel
                have hMn := HM.out
                obtain ⟨p, hp⟩ : ∃ p, pos + m = p := ⟨_, rfl⟩
                obtain ⟨r, hr⟩ : ∃ r, q + m = r := ⟨_, rfl⟩
                have ewp : IntKind.i64.wrap ((pos : Int) + (m : Int)) = (p : Int) := by rw [IntKind.wrap_i64]; omega
                have ewq : IntKind.i64.wrap ((p : Int) - (j : Int)) = (r : Int) := by rw [IntKind.wrap_i64]; omega
                obtain ⟨RB, ob, rfl, hRB, hcb⟩ := (H0.out.below HI.out.1).at_ (by omega)
                have r1 : (0 : Int) ≤ (p : Int) := by omega
                have r3 : (0 : Int) ≤ (r : Int) := by omega
                by_cases hlm : m < C
                · have g3 : decide ((m : Int) < 258) = true := decide_eq_true (by omega)
                  have g4 : decide ((p : Int) < (n : Int)) = true := decide_eq_true (by omega)
                  obtain ⟨x, hx⟩ : ∃ x, bs[p]? = some x := ⟨_, List.getElem?_eq_getElem (by omega)⟩
                  have hy : bs[r]? = some x := by
                    have := comD_eq bs q pos (min 258 M) m (by rw [HC.out]; exact hlm)
                    rw [hp, hr, List.getD_eq_getElem?_getD, List.getD_eq_getElem?_getD, hx, List.getElem?_eq_getElem (by omega)] at this
                    rw [List.getElem?_eq_getElem (by omega)]
                    exact congrArg some this
                  have y0 := hcb p x hx
                  have y1 := hcb r x hy
                  have r2 : (p : Int) < (n : Int) := by omega
                  have r4 : (r : Int) < (n : Int) := by omega
                  have dxx : ((x : Int) == (x : Int)) = true := by simp
                  clear hx hy hcb hp hr
                  go_wp2_with fail
                  go_quiet (fail)
                  go_wp2_with fail
                  go_roundw
                  case rel => exact ⟨m + 1, by go_num, by omega, Lib.hid ⟨below_drewN HI.out.1 _, HI.out.2.later (below_drewN (Below.refl _ _) _)⟩⟩
                  case measure => simp [intOf]; omega
                · obtain rfl : m = C := by omega
                  have kk1 : wr.cell? ⟨R, o + k * 3 + 1, none⟩ = some (.int .i64 (L : Int)) := by
                    obtain ⟨R', o', e', -, -, h1, -⟩ := HI.out.2.get HTK.out.1
                    injection e' with e'
                    injection e' with e1' e2'
                    subst e1' e2'
                    rw [h1, HTK.out.2.1]
                  have kk2 : wr.cell? ⟨R, o + k * 3 + 2, none⟩ = some (.int .i64 (B : Int)) := by
                    obtain ⟨R', o', e', -, -, -, h1⟩ := HI.out.2.get HTK.out.1
                    injection e' with e'
                    injection e' with e1' e2'
                    subst e1' e2'
                    rw [h1, HTK.out.2.2]
                  by_cases h258 : m = 258
                  · have g3 : decide ((m : Int) < 258) = false := decide_eq_false (by omega)
                    clear hcb hp hr h258
                    by_cases hC0 : m = L
                    · have x1n : ¬ L < m := by omega
                      have x1 : decide ((m : Int) > (L : Int)) = false := decide_eq_false (by omega)
                      have x2 : ((m : Int) == (L : Int)) = true := by simp; omega
                      have x3 : decide ((L : Int) > 0) = true := decide_eq_true (by omega)
                      have x4n : ¬ j < B := by have := HCC.out.2 hC0 (by omega); omega
                      have x4 : decide ((j : Int) < (B : Int)) = false := decide_eq_false (by omega)
                      clear hC0
                      go_wp2_with fail
                      go_quiet (fail)
                      go_wp2_with fail
                      go_roundw
                      case rel => exact ⟨j + 1, by go_num, by omega, by omega, Lib.hid ⟨below_drewN HI.out.1 _, HI.out.2.later (below_drewN (Below.refl _ _) _)⟩⟩
                      case measure => simp [intOf]; omega
                    · have x1n : ¬ L < m := by have := HCC.out.1; omega
                      have x1 : decide ((m : Int) > (L : Int)) = false := decide_eq_false (by omega)
                      have x2 : ((m : Int) == (L : Int)) = false := by simp; omega
                      clear hC0
                      go_wp2_with fail
                      go_quiet (fail)
                      go_wp2_with fail
                      go_roundw
                      case rel => exact ⟨j + 1, by go_num, by omega, by omega, Lib.hid ⟨below_drewN HI.out.1 _, HI.out.2.later (below_drewN (Below.refl _ _) _)⟩⟩
                      case measure => simp [intOf]; omega
                  have g3 : decide ((m : Int) < 258) = true := decide_eq_true (by omega)
                  by_cases hpn : p < n
                  · have g4 : decide ((p : Int) < (n : Int)) = true := decide_eq_true (by omega)
                    obtain ⟨x, hx⟩ : ∃ x, bs[p]? = some x := ⟨_, List.getElem?_eq_getElem (by omega)⟩
                    obtain ⟨y, hy⟩ : ∃ y, bs[r]? = some y := ⟨_, List.getElem?_eq_getElem (by omega)⟩
                    have hxy : x ≠ y := by
                      have := comD_stop bs q pos (min 258 M) (by rw [HC.out]; omega)
                      rw [HC.out, hp, hr, List.getD_eq_getElem?_getD, List.getD_eq_getElem?_getD, hx, hy] at this
                      exact fun e => this e.symm
                    have y0 := hcb p x hx
                    have y1 := hcb r y hy
                    have r2 : (p : Int) < (n : Int) := by omega
                    have r4 : (r : Int) < (n : Int) := by omega
                    have dxx : ((x : Int) == (y : Int)) = false := by simp; omega
                    clear hx hy hcb hp hr hxy
                    by_cases hC0 : m = L
                    · have x1n : ¬ L < m := by omega
                      have x1 : decide ((m : Int) > (L : Int)) = false := decide_eq_false (by omega)
                      have x2 : ((m : Int) == (L : Int)) = true := by simp; omega
                      have x3 : decide ((L : Int) > 0) = true := decide_eq_true (by omega)
                      have x4n : ¬ j < B := by have := HCC.out.2 hC0 (by omega); omega
                      have x4 : decide ((j : Int) < (B : Int)) = false := decide_eq_false (by omega)
                      clear hC0
                      go_wp2_with fail
                      go_quiet (fail)
                      go_wp2_with fail
                      go_roundw
                      case rel => exact ⟨j + 1, by go_num, by omega, by omega, Lib.hid ⟨below_drewN HI.out.1 _, HI.out.2.later (below_drewN (Below.refl _ _) _)⟩⟩
                      case measure => simp [intOf]; omega
                    · have x1n : ¬ L < m := by have := HCC.out.1; omega
                      have x1 : decide ((m : Int) > (L : Int)) = false := decide_eq_false (by omega)
                      have x2 : ((m : Int) == (L : Int)) = false := by simp; omega
                      clear hC0
                      go_wp2_with fail
                      go_quiet (fail)
                      go_wp2_with fail
                      go_roundw
                      case rel => exact ⟨j + 1, by go_num, by omega, by omega, Lib.hid ⟨below_drewN HI.out.1 _, HI.out.2.later (below_drewN (Below.refl _ _) _)⟩⟩
                      case measure => simp [intOf]; omega
                  · have g4 : decide ((p : Int) < (n : Int)) = false := decide_eq_false (by omega)
                    clear hcb hp hr
                    by_cases hC0 : m = L
                    · have x1n : ¬ L < m := by omega
                      have x1 : decide ((m : Int) > (L : Int)) = false := decide_eq_false (by omega)
                      have x2 : ((m : Int) == (L : Int)) = true := by simp; omega
                      have x3 : decide ((L : Int) > 0) = true := decide_eq_true (by omega)
                      have x4n : ¬ j < B := by have := HCC.out.2 hC0 (by omega); omega
                      have x4 : decide ((j : Int) < (B : Int)) = false := decide_eq_false (by omega)
                      clear hC0
                      go_wp2_with fail
                      go_quiet (fail)
                      go_wp2_with fail
                      go_roundw
                      case rel => exact ⟨j + 1, by go_num, by omega, by omega, Lib.hid ⟨below_drewN HI.out.1 _, HI.out.2.later (below_drewN (Below.refl _ _) _)⟩⟩
                      case measure => simp [intOf]; omega
                    · have x1n : ¬ L < m := by have := HCC.out.1; omega
                      have x1 : decide ((m : Int) > (L : Int)) = false := decide_eq_false (by omega)
                      have x2 : ((m : Int) == (L : Int)) = false := by simp; omega
                      clear hC0
                      go_wp2_with fail
                      go_quiet (fail)
                      go_wp2_with fail
                      go_roundw
                      case rel => exact ⟨j + 1, by go_num, by omega, by omega, Lib.hid ⟨below_drewN HI.out.1 _, HI.out.2.later (below_drewN (Below.refl _ _) _)⟩⟩
                      case measure => simp [intOf]; omega
            · have f1 : decide ((j : Int) ≤ (pos : Int)) = true := decide_eq_true (by omega)
              have f2 : decide ((j : Int) ≤ 1024) = false := decide_eq_false (by omega)
              go_wp2_with fail
              go_roundw
              case rel => exact ⟨k + 1, f', po, by go_num, (by have := HPO.out; first | rfl | (congr 1; omega)), hpon, by omega, hpof, HRS, Lib.hid HJ.out⟩
              case measure => simp [intOf]; omega
          · have f1 : decide ((j : Int) ≤ (pos : Int)) = false := decide_eq_false (by omega)
            go_wp2_with fail
            go_roundw
            case rel => exact ⟨k + 1, f', po, by go_num, (by have := HPO.out; first | rfl | (congr 1; omega)), hpon, by omega, hpof, HRS, Lib.hid HJ.out⟩
            case measure => simp [intOf]; omega
    · obtain rfl : k = len := by omega
      have d4 : decide ((k : Int) < (k : Int)) = false := by simp
      have hpe := tok_end HD.out (by rw [HL.out.2]; exact Nat.le_refl _) (by rw [hl]; exact hif) (by rw [hl]; exact hpi)
      rw [hl] at hpe
      subst hpe
      have e0 : ((pos : Int) == (pos : Int)) = true := by simp
      go_wp2_with fail
      refine (awake07 _).mono ?_
      rintro e w5 ⟨rfl, hb⟩
      have H5 := Lib.hid (HK.out.1.trans (hb.mono HK.out.1.size))
      clear hb
      go_wp2_with fail
      go_ret
      exact ⟨rfl, H5.out⟩
end Go.Proofs.Ytnjdnldoopgcpaa
