/- The reference's Undo: a row, and the rows. -/
import Derived.Test.YtjligbfijjejmaaPredRa
import Derived.Test.YtjligbfijjejmaaPredW
import Derived.Deep.RegionLaw
import Derived.Deep.AppendLies
import Derived.Deep.RegionWith
namespace Go.Proofs.Ytjligbfijjejmaa
open Go.RowKit

theorem row_at {b : List Nat} {N m j : Nat} (hj : j < N) : (rowM b N m).getD j 0 = b.getD (m * N + j) 0 := by
  unfold rowM
  rw [getD_take hj, List.getD_eq_getElem?_getD, List.getElem?_drop, ← List.getD_eq_getElem?_getD]
theorem told_at {b : List Nat} {h n m k : Nat} (hk : k < n) : ((rowM b (h + n) m).drop h).getD k 0 = b.getD (m * (h + n) + h + k) 0 := by
  rw [List.getD_eq_getElem?_getD, List.getElem?_drop, ← List.getD_eq_getElem?_getD, row_at (by omega), Nat.add_assoc]
theorem undoN_len {h n s : Nat} {b : List Nat} : ∀ m o, undoN h n s b m = some o → o.length = m * n
  | 0, o, e => by injection e with e; subst e; simp
  | m + 1, o, e => by
    rw [undoN] at e
    cases hu : undoN h n s b m with
    | none => rw [hu] at e; cases e
    | some q =>
      rw [hu] at e
      simp only at e
      split at e
      · cases e
      · injection e with e
        subst e
        rw [List.length_append, uRow_len, undoN_len m q hu, Nat.add_mul, Nat.one_mul]
theorem undoN_next {h n s : Nat} {b o : List Nat} {m : Nat} (hu : undoN h n s b m = some o) : undoN h n s b (m + 1) = if 4 < tagM h (rowM b (h + n) m) then none else some (o ++ uRow (tagM h (rowM b (h + n) m)) s (upU o n m) ((rowM b (h + n) m).drop h) n) := by
  rw [undoN, hu]
theorem upU_next {h n s : Nat} {b o r : List Nat} {m : Nat} (hu : undoN h n s b m = some o) : upU (o ++ r) n (m + 1) = r := by
  rw [upU, List.drop_append, undoN_len m o hu, Nat.sub_self, List.drop_zero, List.drop_of_length_le (by rw [undoN_len m o hu]; exact Nat.le_refl _), List.nil_append]
theorem undoN_byte {h n s : Nat} {b : List Nat} : ∀ m o, undoN h n s b m = some o → ∀ x ∈ o, x < 256
  | 0, o, e => by injection e with e; subst e; simp
  | m + 1, o, e => by
    cases hu : undoN h n s b m with
    | none => rw [undoN, hu] at e; cases e
    | some q =>
      rw [undoN_next hu] at e
      split at e
      · cases e
      · injection e with e
        subst e
        intro x hx
        rcases List.mem_append.1 hx with h1 | h1
        · exact undoN_byte m q hu x h1
        · exact uRow_byte _ _ _ _ _ x h1
/-- The bytes of a row of one's own. -/
theorem own_read {W : World} {base : Nat} {a : Option Addr} {c n : Nat} {bs : List Nat} (h : W.ownsRow base 5 1 (.slice a n c) n (bvs bs)) (hb : ∀ b ∈ bs, b < 256) : Bytes W a n c bs := by
  obtain ⟨A, c', e, h'⟩ := own_bytes h hb
  injection e with e1 e2 e3
  subst e1 e3
  exact h'
theorem own_step {W wr w1 : World} {k : Nat} {a : Option Addr} {c : Nat} {xs : List Value} {o : Obj} (hown : wr.ownsRow W.heap.size 5 1 (.slice a k c) k xs) (hb : Below W.heap.size W wr)
    (hg : ((wr.alloc o).drew).grownBy w1 (Value.slice a k c).ownBlock) : Below W.heap.size W w1 :=
  ((hb.alloc hb.size o).drew).grown hg (by have := hb.size; simp; omega) (fun j e => (own_lt hown e).1)
/-- What the document's four calls for a byte answer. -/
theorem four_any (T s k : Nat) (r U : List Nat) (a1 Au : Option Addr) (n1 c1 nu cu : Nat) (w : World) (hT : T ≤ 4) (h1 : Bytes w a1 n1 c1 r) (h2 : Bytes w Au nu cu U) :
    ∃ v1 v2 v3 f : Nat, f < 256 ∧ Hid (f = foreM T (backM r k s) (U.getD k 0) (backM U k s)) ∧
      Hid (Calls Try.prog 21 #[.slice a1 n1 c1, .int .i64 ((k : Int) - (s : Int))] w fun e w' => e = .returned (.int .i64 (v1 : Int)) ∧ w = w') ∧
      Hid (Calls Try.prog 21 #[.slice Au nu cu, .int .i64 (k : Int)] w fun e w' => e = .returned (.int .i64 (v2 : Int)) ∧ w = w') ∧
      Hid (Calls Try.prog 21 #[.slice Au nu cu, .int .i64 ((k : Int) - (s : Int))] w fun e w' => e = .returned (.int .i64 (v3 : Int)) ∧ w = w') ∧
      Hid (Calls Try.prog 20 #[.int .i64 T, .int .i64 v1, .int .i64 v2, .int .i64 v3] w fun e w' => e = .returned (.int .i64 (f : Int)) ∧ w = w') := by
  have A1 := at_any a1 n1 c1 r ((k : Int) - s) w h1
  have A2 := at_any Au nu cu U (k : Int) w h2
  have A3 := at_any Au nu cu U ((k : Int) - s) w h2
  rw [atM_back] at A1 A3
  rw [atM_nat] at A2
  have f1 := backM_lt h1.byte k s
  have f2 := getD_lt h2.byte k
  have f3 := backM_lt h2.byte k s
  exact ⟨_, _, _, _, foreM_lt (tag := T) f1 f2 f3, rfl, A1, A2, A3, tells_any T _ _ _ w hT f1 f2 f3⟩
set_option maxRecDepth 100000 in
set_option maxHeartbeats 4000000 in
set_option pp.deepTerms true in
set_option pp.maxSteps 1000000 in
theorem refundo_ok (p : PaV) (h : Nat) (A : Option Addr) (c K : Nat) (bs : List Nat) (w : World) (HB : Hid (Bytes w A bs.length c bs)) (hE : p.E = 0) (hp : (h = 1 ∧ 10 ≤ p.pr) ∨ (h = 0 ∧ p.pr = 2)) (hl : bs.length ≤ 1048576) (hK : bs.length = K * (h + p.n)) :
    Calls Try.prog 9 #[p.val, .slice A bs.length c] w
      (AnsIs (match undoN h p.n p.s bs K with | none => (4, []) | some o => (0, o)) w) := by
  obtain ⟨hok, -⟩ := PaV.E_zero hE
  obtain ⟨RR, hRR⟩ : ∃ R, (match undoN h p.n p.s bs K with | none => ((4, []) : Int × List Nat) | some o => (0, o)) = R := ⟨_, rfl⟩
  rw [hRR]
  have hnn := hok.n_is.2
  have hss := hok.s_is.2
  obtain ⟨n, hn⟩ : ∃ n, p.n = n := ⟨_, rfl⟩
  obtain ⟨s, hs⟩ : ∃ s, p.s = s := ⟨_, rfl⟩
  have HE := Lib.hid (And.intro hE (And.intro hok (And.intro hn hs)))
  rw [hn] at hK hnn
  rw [hs] at hss
  rw [hn, hs] at hRR
  have HR := Lib.hid hRR
  clear hRR
  have HK := Lib.hid hK
  have g1 : (p.pr == 1) = false := by simp; omega
  have hw1 : IntKind.i64.wrap ((n : Int) + (h : Int)) = (n : Int) + (h : Int) := by exact IntWalk.i64_in _ (by omega)
  have hm0 : ((bs.length : Int) % ((n : Int) + (h : Int)) != 0) = false := by
    rw [hK, ← Int.natCast_add, ← Int.natCast_emod, Nat.add_comm n h, Nat.mul_mod_left]
    rfl
  have HP := Lib.hid hp
  clear hE hok hn hs hK hp
  go_enter Try.func9, Try.ntmps9
  go_wp2_with fail
  refine (refcheck_any p _).mono ?_
  rintro e w1 ⟨rfl, hb1⟩
  rw [HE.out.1]
  have HX1 := Lib.hid (p_cells hb1)
  obtain ⟨c0, c1, c2, c3⟩ := HX1.out.1
  have lx := HX1.out.2.1
  clear hb1
  go_wp2_with fail
  refine (refrow_ok p _ HE.out.2.1).mono ?_
  rintro e w2 ⟨rfl, hb2⟩
  rw [HE.out.2.2.1]
  have HX2 := Lib.hid (And.intro (C4.later HX1.out.1 HX1.out.2.1 hb2) (And.intro (Nat.lt_of_lt_of_le HX1.out.2.1 hb2.size) (HX1.out.2.2.trans (hb2.mono HX1.out.2.2.size))))
  clear hb2 c0 c1 c2 c3 lx
  obtain ⟨c0, c1, c2, c3⟩ := HX2.out.1
  have lx := HX2.out.2.1
  go_wp2_with fail
  refine (refstep9_any p _ HE.out.2.1).mono ?_
  rintro e w3 ⟨rfl, hb3⟩
  rw [HE.out.2.2.2]
  have HX3 := Lib.hid (And.intro (C4.later HX2.out.1 HX2.out.2.1 hb3) (And.intro (Nat.lt_of_lt_of_le HX2.out.2.1 hb3.size) (HX2.out.2.2.trans (hb3.mono HX2.out.2.2.size))))
  clear hb3 c0 c1 c2 c3 lx
  obtain ⟨c0, c1, c2, c3⟩ := HX3.out.1
  have lx := HX3.out.2.1
  obtain ⟨b2, hb2⟩ : ∃ b, (p.pr == 2) = b := ⟨_, rfl⟩
  have HFR : Hid ((if b2 then (0 : Int) else 1) = (h : Int)) := by
    rcases HP.out with ⟨e1, e2⟩ | ⟨e1, e2⟩
    · obtain rfl : b2 = false := by rw [← hb2]; simp; omega
      rw [e1]; rfl
    · obtain rfl : b2 = true := by rw [← hb2]; simp [e2]
      rw [e1]; rfl
  go_upto_if 35 with fail
  go_cut [9] from 33 to 36 (fun v wx => wx = w3 ∧ v = .int .i64 (h : Int))
  case first =>
    cases b2
    · have hh : Hid ((h : Int) = 1) := HFR.out.symm
      clear HFR
      go_wp2_with fail
      go_meet
      exact ⟨rfl, by rw [hh.out]⟩
    · have hh : Hid ((h : Int) = 0) := HFR.out.symm
      clear HFR
      go_wp2_with fail
      go_meet
      exact ⟨rfl, by rw [hh.out]⟩
  case rest =>
    obtain ⟨rfl, rfl⟩ := hcut
    clear hb2 HFR
    have hh1 : h ≤ 1 := by rcases HP.out with ⟨e1, _⟩ | ⟨e1, _⟩ <;> omega
    have HSZ := Lib.hid (And.intro HX3.out.1 HX3.out.2.2)
    clear c0 c1 c2 c3 lx HX1 HX2 HX3
    obtain ⟨i0, hi, hz0, hz1, hz2⟩ := info_parts info8
    go_wp2_with fail
    go_loopg [10, 11, 12] K (fun g v u x wr => ∃ (m nu cu : Nat) (Au : Option Addr) (o : List Nat), g + m = K ∧ x = .int .i64 ((m * (h + n) : Nat) : Int) ∧ u = .slice Au nu cu ∧ undoN h n s bs m = some o ∧ wr.ownsRow w.heap.size 5 1 v o.length (bvs o) ∧ Bytes wr Au nu cu (upU o n m) ∧ Below w.heap.size w wr)
    case atStart => exact ⟨0, 0, 0, none, [], by omega, by simp, rfl, rfl, ⟨rfl, .inl ⟨rfl, rfl⟩⟩, nil_bytes _, HSZ.out.2⟩
    case round =>
      obtain ⟨m, nu, cu, Au, o, hgm, rfl, rfl, hu, hown, hup, hbel⟩ := hrel
      obtain ⟨a0, ca, rfl⟩ := own_slice hown
      have hol := undoN_len m o hu
      have hsz0 := hbel.size
      have HX := Lib.hid (And.intro hown (And.intro hup (And.intro hbel hu)))
      clear hown hup hbel hu
      obtain ⟨W, rfl⟩ : ∃ W, W = wr := ⟨_, rfl⟩
      by_cases hlt : m < K
      · have hmK : (m + 1) * (h + n) ≤ bs.length := by rw [HK.out]; exact Nat.mul_le_mul_right _ (by omega)
        have hmm : (m + 1) * (h + n) = m * (h + n) + (h + n) := by rw [Nat.add_mul, Nat.one_mul]
        have hmn : m * n ≤ m * (h + n) := Nat.mul_le_mul_left _ (by omega)
        have HU := Lib.hid hol
        have hol2 : o.length ≤ 1048576 := by omega
        obtain ⟨M, hM⟩ : ∃ M, m * (h + n) = M := ⟨_, rfl⟩
        rw [hM] at hmm hmn ⊢
        have HM := Lib.hid hM
        clear hM hol
        obtain ⟨R, q, rfl, hR, hcell⟩ := HB.out.at_ (by omega)
        have hB0 := HB.out.below HX.out.2.2.1
        obtain ⟨T, hT⟩ : ∃ T, tagM h (rowM bs (h + n) m) = T := ⟨_, rfl⟩
        have HT := Lib.hid hT
        clear hT
        have d1 : decide ((M : Int) < (bs.length : Int)) = true := by simp; omega
        go_upto_if 53 with fail
        go_cut [13] from 43 to 99 (fun v wx => wx = W ∧ v = .int .i64 (T : Int))
        case first =>
          clear d1
          rcases HP.out with ⟨e1, -⟩ | ⟨e1, -⟩
          · have hf1 : ((h : Int) == 1) = true := by rw [e1]; rfl
            have hx := hB0.byte_at rfl (i := M) (by omega)
            have hx9 : bs.getD M 0 < 256 := getD_lt hB0.byte _
            have hTx : Hid ((bs.getD M 0 : Nat) = T) := by
              show _ = _
              rw [← HT.out]
              unfold tagM
              rw [if_neg (by omega), row_at (by omega), HM.out, Nat.add_zero]
            generalize bs.getD M 0 = x at *
            clear hcell e1 hlt
            have hML := Lib.hid hmm
            clear hmm
            go_wp2_with fail
            go_meet
            exact ⟨rfl, by rw [hTx.out]⟩
          · have hf1 : ((h : Int) == 1) = false := by rw [e1]; rfl
            have hTx : Hid (T = 1) := by show _ = _; rw [← HT.out]; unfold tagM; rw [if_pos e1]
            clear hcell e1 hlt
            go_wp2_with fail
            go_meet
            exact ⟨rfl, by rw [hTx.out]; rfl⟩
        case rest =>
          obtain ⟨rfl, rfl⟩ := hcut
          obtain ⟨W, rfl⟩ : ∃ W, W = wc := ⟨_, rfl⟩
          by_cases hT4 : 4 < T
          · have d2 : decide (4 < (T : Int)) = true := by simp; omega
            have HN := Lib.hid (show undoN h n s bs K = none from undoN_none (m := m + 1) (by rw [undoN_next HX.out.2.2.2, HT.out, if_pos hT4]) K (by omega))
            go_wp2_with fail
            go_ret2
            have : RR = (4, []) := by rw [← HR.out, HN.out]
            rw [this]
            exact AnsIs.err HX.out.2.2.1
          · have d2 : decide (4 < (T : Int)) = false := by simp; omega
            obtain ⟨U, hU⟩ : ∃ U, upU o n m = U := ⟨_, rfl⟩
            obtain ⟨D, hD⟩ : ∃ D, (rowM bs (h + n) m).drop h = D := ⟨_, rfl⟩
            have HUD := Lib.hid (And.intro hU hD)
            have hUb : Bytes W Au nu cu U := hU ▸ HX.out.2.1
            have HUB := Lib.hid hUb
            have HTOLD := Lib.hid (show ∀ k, k < n → bs.getD (M + h + k) 0 = D.getD k 0 from fun k hk => by rw [← hD, told_at hk, HM.out])
            clear hU hD hUb
            go_wp2_with fail
            go_loopg [14, 15] n (fun g rv x wx => ∃ k : Nat, g + k = n ∧ x = .int .i64 (k : Int) ∧ wx.ownsRow W.heap.size 5 1 rv k (bvs (uRow T s U D k)) ∧ Below W.heap.size W wx)
            case atStart => exact ⟨0, by omega, rfl, ⟨rfl, .inl ⟨rfl, rfl⟩⟩, Below.refl _ _⟩
            case round =>
              obtain ⟨k, hgk, rfl, hrow, hbk⟩ := hrel
              obtain ⟨a1, ck, rfl⟩ := own_slice hrow
              have hszk := hbk.size
              have HY := Lib.hid (And.intro hrow hbk)
              clear hrow hbk
              by_cases hkn : k < n
              · have hq : bs.getD (M + h + k) 0 = D.getD k 0 := HTOLD.out k hkn
                have hbb := (HB.out.below HX.out.2.2.1).below (HY.out.2.mono (Nat.le_refl _))
                have hx := hbb.byte_at rfl (i := M + h + k) (by omega)
                rw [hq] at hx
                have hrb := uRow_byte T s U D k
                have hrd := own_read HY.out.1 hrb
                have hub := HUB.out.below HY.out.2
                obtain ⟨v1, v2, v3, f, hf, HF, C1, C2, C3, C4⟩ := four_any T s k _ U a1 Au k ck nu cu wr.drew (by omega) (hrd.drewN 1) (hub.drewN 1)
                have f4 := getD_lt hbb.byte (M + h + k)
                rw [hq] at f4
                obtain ⟨z, hz⟩ : ∃ z, (D.getD k 0 + f) % 256 = z := ⟨_, rfl⟩
                have HZ := Lib.hid (show uRow T s U D (k + 1) = uRow T s U D k ++ [z] by rw [← hz, HF.out]; rfl)
                obtain ⟨v0, hv0⟩ : ∃ x, D.getD k 0 = x := ⟨_, rfl⟩
                rw [hv0] at hx f4 hz
                obtain ⟨Y, hY⟩ : ∃ Y, M + h = Y := ⟨_, rfl⟩
                rw [hY] at hx
                have hw2 : IntKind.i64.wrap ((M : Int) + (h : Int)) = (Y : Int) := by rw [← hY, Int.natCast_add]; exact IntWalk.i64_in _ (by omega)
                obtain ⟨X, hX⟩ : ∃ X, Y + k = X := ⟨_, rfl⟩
                rw [hX] at hx
                have hw3 : IntKind.i64.wrap ((Y : Int) + (k : Int)) = (X : Int) := by rw [← hX, Int.natCast_add]; exact IntWalk.i64_in _ (by omega)
                have hw4 : IntKind.i64.wrap ((k : Int) - (s : Int)) = (k : Int) - (s : Int) := IntWalk.i64_in _ (by omega)
                have hw5 : IntKind.i64.wrap ((v0 : Int) + (f : Int)) = (v0 : Int) + (f : Int) := IntWalk.i64_in _ (by omega)
                have HZ9 : Hid ((IntKind.u8.wrap ((IntKind.i64.wrap (IntKind.i64.wrap (v0 : Int) + (f : Int))).tmod 256)) = (z : Int)) := by
                  show _ = _
                  rw [show IntKind.i64.wrap (v0 : Int) = v0 from IntWalk.i64_in _ (by omega), hw5, Int.tmod_eq_emod_of_nonneg (by omega)]
                  show ((_ : Int) % 256) = _
                  omega
                have hz256 : z < 256 := by omega
                have hXl : (X : Int) < (bs.length : Int) := by omega
                have HXY := Lib.hid (And.intro hX (And.intro hY (And.intro hv0 hz)))
                clear hX hY hv0 hz hq hbb hrb hrd hub
                go_upto_region 29 with fail
                go_region_law? (first
                    | (go_simp; go_at_call 21; (first | (with_reducible refine C1.out.mono ?_) | (with_reducible refine C2.out.mono ?_) | (with_reducible refine C3.out.mono ?_)); rintro e v ⟨rfl, rfl⟩)
                    | (go_simp; go_at_call 20; (with_reducible refine C4.out.mono ?_); rintro e v ⟨rfl, rfl⟩)
                    | (refine step_append_lies _ (by rfl) _ _ _ (by rfl) W.heap.size 5 i0 (.int .u8 0) 1 1 Try.underlying24 hi hz0 hz1 hz2 rfl (by omega) (.slice a1 k ck) k (bvs (uRow T s U D k)) (by rfl) ((HY.out.1.alloc _).drew) ⟨wr.heap.size, 0, none⟩ 1 1 [.int .u8 (IntKind.u8.wrap ((IntKind.i64.wrap (IntKind.i64.wrap (v0 : Int) + (f : Int))).tmod 256))] (by rfl) (by rfl) (World.news_of_block (cs := #[.int .u8 (IntKind.u8.wrap ((IntKind.i64.wrap (IntKind.i64.wrap (v0 : Int) + (f : Int))).tmod 256))]) (t := 5) (fr := (0, 0)) (heap_alloc_new wr _)) (by simp [Value.oneCell']) (by omega) (by unfold maxLen; omega) (by omega) (by simp; omega) (wr.heap.size + 1) (by simp) ?_; intro g1 cap1 w1 hown1 hgrow1 hat1 hlt1; rw [HZ9.out] at hown1; have HG := Lib.hid (And.intro hown1 (own_step HY.out.1 HY.out.2 hgrow1)); clear hown1 hgrow1 hat1 hlt1))
                all_goals
                  go_wp2_with fail
                  go_roundg (n - (k + 1))
                  case measure => omega
                  case rel => exact ⟨k + 1, by omega, by go_num, by rw [HZ.out, bvs_append]; exact HG.out.1, HG.out.2⟩
              · obtain rfl : k = n := by omega
                have d3 : decide ((k : Int) < (k : Int)) = false := by simp
                have hrb := uRow_byte T s U D k
                have hrd := own_read HY.out.1 hrb
                have hbb := HX.out.2.2.1.trans (HY.out.2.mono HX.out.2.2.1.size)
                have hown2 : wr.ownsRow w.heap.size 5 1 (.slice a0 o.length ca) o.length (bvs o) := own_frame HX.out.1 (Fr.of_below HY.out.2) (fun g e => by have := (own_lt HX.out.1 e).2.1; omega)
                have HZ := Lib.hid (And.intro hrd (And.intro hbb hown2))
                have hne : ∀ j, (Value.slice a0 o.length ca).ownBlock = some j → (Value.slice a1 k ck).ownBlock ≠ some j := fun j e1 e2 => by
                  have q1 := (own_lt HX.out.1 e1).2.1
                  have q2 := (own_lt HY.out.1 e2).1
                  omega
                have HNE := Lib.hid hne
                clear hrd hbb hown2 hne
                go_wp2_with (refine wpList_app (o := ⟨some 98, _, _, _, _, _⟩) rfl (.tmp 96) (.tmp 97) rfl w.heap.size o.length k ck (.slice a0 o.length ca) o (uRow T s U D k) a1 ?p1 ?p2 ?p3 ?p4 ?p5 ?p6 ?p7)
                case p1 => rfl
                case p2 => rfl
                case p3 => exact HZ.out.2.2
                case p4 => exact HZ.out.1
                case p5 => omega
                case p6 => exact HZ.out.2.1.size
                intro v4 w4 hown4 hgrow4
                obtain ⟨a4, c4, rfl⟩ := own_slice hown4
                have hb4 : Below w.heap.size w w4 := HZ.out.2.1.grown hgrow4 HZ.out.2.1.size (fun j e => (own_lt HX.out.1 e).1)
                have hr4 : w4.ownsRow W.heap.size 5 1 (.slice a1 k ck) k (bvs (uRow T s U D k)) := HY.out.1.kept hgrow4 (by
                  cases hq : (Value.slice a1 k ck).ownBlock with
                  | none => exact .inl rfl
                  | some j => exact .inr fun e => HNE.out j e.symm hq)
                have H4 := Lib.hid (And.intro hown4 (And.intro (own_read hr4 hrb) hb4))
                clear hown4 hgrow4 hb4 hr4
                go_wp2_with fail
                go_roundg (K - (m + 1))
                case measure => omega
                case rel =>
                  refine ⟨m + 1, k, ck, a1, o ++ uRow T s U D k, by omega, ?_, rfl, ?_, ?_, ?_, H4.out.2.2⟩
                  · rw [Nat.add_mul, HM.out, Nat.one_mul]; congr 1; push_cast; omega
                  · rw [undoN_next HX.out.2.2.2, HT.out, if_neg hT4, HUD.out.1, HUD.out.2]
                  · rw [List.length_append, uRow_len]; exact H4.out.1
                  · rw [upU_next HX.out.2.2.2]; exact H4.out.2.1
      · obtain rfl : m = K := by omega
        have e1 : (((m * (h + n) : Nat) : Int)) = (bs.length : Int) := by rw [HK.out]
        rw [e1]
        have d1 : decide ((bs.length : Int) < (bs.length : Int)) = false := by simp
        have hb := own_read HX.out.1 (undoN_byte m o HX.out.2.2.2)
        have HRR := Lib.hid (show RR = (0, o) by rw [← HR.out, HX.out.2.2.2])
        have HF := Lib.hid (And.intro hb HX.out.2.2.1)
        clear hb
        go_wp2_with fail
        go_ret2
        rw [HRR.out]
        exact ⟨a0, ca, rfl, HF.out.1, HF.out.2⟩
end Go.Proofs.Ytjligbfijjejmaa
