/- inflate: the reference's Expand. -/
import Derived.Test.YtdoliloiagfagaaDoorInfEx
namespace Go.Proofs.YtdoliloiagfagaaDoor
open Go.RowKit

theorem expGo_step2 {most : Int} {l : List Tk} {i : Nat} {t : Tk} (b : List Nat) (h : l[i]? = some t) : expGo most (l.drop i) b = if (b.length : Int) < t.back then .error 4 else if most < b.length + tkSize t then .error 2 else expGo most (l.drop (i + 1)) (expTk t b) := by
  rw [expGo_step b h]
  by_cases hb : most < b.length + tkSize t
  · rw [if_pos hb, if_pos (show most - b.length < tkSize t by omega)]
  · rw [if_neg hb, if_neg (show ¬ most - b.length < tkSize t by omega)]
theorem tkSize_ok {t : Tk} (h : okTk t = true) : 1 ≤ tkSize t ∧ tkSize t ≤ 258 := by
  unfold okTk at h
  unfold tkSize
  by_cases h0 : t.len = 0
  · omega
  · rw [if_neg h0] at h
    have := of_decide_eq_true h
    omega
set_option maxRecDepth 100000 in
set_option maxHeartbeats 4000000 in
theorem rexpand_any (A : Option Addr) (n c : Nat) (l : List Tk) (most : Int) (w : World) (h : TksAt w A n c l) (hn : n ≤ 100000000) :
    Calls Tryd.prog 10 #[.slice A n c, .int .i64 most] w (ExpIs l most w) := by
  have hl := h.len
  rw [List.length_map] at hl
  have hcap := h.cap
  have htop := h.top
  obtain ⟨i0, hi0, hz0, hz1, hz2⟩ := info_u8
  have HI0 := Lib.hid (And.intro hi0 (And.intro hz0 (And.intro hz1 hz2)))
  clear hi0 hz0 hz1 hz2
  have H0 := Lib.hid h
  clear h
  by_cases hm1 : most < 0
  · have d1 : decide (most < 0) = true := decide_eq_true hm1
    have HT := Lib.hid (show expandP l most = .error 1 by unfold expandP; rw [if_neg (by omega)])
    clear hm1
    go_enter Tryd.func10, Tryd.ntmps10
    go_wp2_with fail
    go_ret2
    exact .inr ⟨1, HT.out, by decide, rfl, Below.refl _ _⟩
  have d1 : decide (most < 0) = false := decide_eq_false hm1
  by_cases hm2 : 1048576 < most
  · have d2 : decide (most > 1048576) = true := decide_eq_true hm2
    have HT := Lib.hid (show expandP l most = .error 1 by unfold expandP; rw [if_neg (by omega)])
    clear hm1 hm2
    go_enter Tryd.func10, Tryd.ntmps10
    go_wp2_with fail
    go_ret2
    exact .inr ⟨1, HT.out, by decide, rfl, Below.refl _ _⟩
  have d2 : decide (most > 1048576) = false := decide_eq_false hm2
  have HT := Lib.hid (show expandP l most = if l.all okTk then expGo most l [] else .error 1 by unfold expandP; rw [if_pos (by omega)])
  have hm : 0 ≤ most ∧ most ≤ 1048576 := by omega
  clear hm1 hm2
  go_enter Tryd.func10, Tryd.ntmps10
  go_wp2_with fail
  clear d1 d2
  go_loopw [6] (fun s16 wr => ∃ i : Nat, s16 = .int .i64 (i : Int) ∧ i ≤ n ∧ Hid ((l.take i).all okTk = true ∧ Below w.heap.size w wr)) (fun s16 _ => n - (intOf s16).toNat)
  case atStart => exact ⟨0, rfl, by omega, Lib.hid ⟨by simp, Below.refl _ _⟩⟩
  case round =>
    obtain ⟨i, rfl, hi, HR⟩ := hrel
    by_cases hlt : i < n
    · have d1 : decide ((i : Int) < (n : Int)) = true := decide_eq_true (by omega)
      obtain ⟨t, ht⟩ : ∃ t, l[i]? = some t := ⟨_, List.getElem?_eq_getElem (by omega)⟩
      obtain ⟨R, o, rfl, hR, k0, k1, k2⟩ := (H0.out.later HR.out.2).get ht
      have HS := Lib.hid (all_stepT ht HR.out.1)
      have HMEM := Lib.hid (List.mem_of_getElem? ht)
      have HV := Lib.hid (fun w => ris_any t w)
      have b1 : (0 : Int) ≤ (i : Int) := by omega
      have b2 : (i : Int) < (n : Int) := by omega
      obtain ⟨v, hv⟩ : ∃ v, okTk t = v := ⟨_, rfl⟩
      rw [hv] at HS
      have HVV := Lib.hid hv
      clear ht hv
      go_wp2_with fail
      refine (HV.out _).mono ?_
      rw [HVV.out]
      rintro e w3 ⟨rfl, hb⟩
      have HB3 := Lib.hid (HR.out.2.trans (hb.mono HR.out.2.size))
      clear hb k0 k1 k2
      cases v
      · have HZ := Lib.hid (show expandP l most = .error 1 by
          rw [HT.out, if_neg]
          intro hall
          have := List.all_eq_true.1 hall t HMEM.out
          rw [HVV.out] at this
          cases this)
        go_wp2_with fail
        go_ret2
        exact .inr ⟨1, HZ.out, by decide, rfl, HB3.out⟩
      · go_wp2_with fail
        go_roundw
        case rel => exact ⟨i + 1, by go_num, by omega, Lib.hid ⟨HS.out, HB3.out⟩⟩
        case measure => simp [intOf]; omega
    · obtain rfl : i = n := by omega
      have d1 : decide ((i : Int) < (i : Int)) = false := by simp
      have hall : l.all okTk = true := by have := HR.out.1; rwa [List.take_of_length_le (by omega)] at this
      have HALL := Lib.hid hall
      have HT2 := Lib.hid (show expandP l most = expGo most l [] by rw [HT.out, if_pos hall])
      have HB1 := Lib.hid HR.out.2
      rename World => w1
      clear hall
      go_wp2_with fail
      go_loopw [7, 8] (fun s8 s26 wr => ∃ (k : Nat) (b : List Nat), s26 = .int .i64 (k : Int) ∧ k ≤ i ∧ (b.length : Int) ≤ most ∧ Hid (expGo most l [] = expGo most (l.drop k) b) ∧ Hid (wr.ownsRow w.heap.size 5 1 s8 b.length (bvs b) ∧ (∀ x ∈ b, x < 256) ∧ Below w.heap.size w wr)) (fun _ s26 _ => i - (intOf s26).toNat)
      case atStart => exact ⟨0, [], rfl, by omega, hm.1, Lib.hid (by rw [List.drop_zero]), Lib.hid ⟨World.ownsRow_nil _ _ _ _, by simp, HB1.out⟩⟩
      case round =>
        clear HR
        obtain ⟨k, b, rfl, hk, hbm, HE, HR⟩ := hrel
        obtain ⟨a0, cc, rfl⟩ := own_slM HR.out.1
        by_cases hlt : k < i
        · have d2 : decide ((k : Int) < (i : Int)) = true := decide_eq_true (by omega)
          obtain ⟨t, ht⟩ : ∃ t, l[k]? = some t := ⟨_, List.getElem?_eq_getElem (by omega)⟩
          obtain ⟨R, o, rfl, hR, k0, k1, k2⟩ := (H0.out.later HR.out.2.2).get ht
          have hok : okTk t = true := List.all_eq_true.1 HALL.out t (List.mem_of_getElem? ht)
          have HS := Lib.hid (expGo_step2 (most := most) b ht)
          have HG := Lib.hid ht
          rename World => wo
          have b1 : (0 : Int) ≤ (k : Int) := by omega
          have b2 : (k : Int) < (i : Int) := by omega
          have hts : 1 ≤ tkSize t ∧ tkSize t ≤ 258 := tkSize_ok hok
          clear ht
          by_cases hbk : (b.length : Int) < t.back
          · have d3 : decide (t.back > (b.length : Int)) = true := decide_eq_true hbk
            have HZ := Lib.hid (show expandP l most = .error 4 by rw [HT2.out, HE.out, HS.out, if_pos hbk])
            clear hbk
            go_wp2_with fail
            go_ret2
            exact .inr ⟨4, HZ.out, by decide, rfl, HR.out.2.2⟩
          · have d3 : decide (t.back > (b.length : Int)) = false := decide_eq_false hbk
            rw [if_neg hbk] at HS
            have ewm : IntKind.i64.wrap ((b.length : Int) + tkSize t) = (b.length : Int) + tkSize t := by rw [IntKind.wrap_i64]; omega
            have hbk' : t.back ≤ b.length := by omega
            clear hbk
            have HSZ := Lib.hid (fun w => rsize_any t w)
            go_wp2_with fail
            refine (HSZ.out _).mono ?_
            rintro e w4 ⟨rfl, hb⟩
            have HB4 := Lib.hid (HR.out.2.2.trans (hb.mono HR.out.2.2.size))
            have HO4 := Lib.hid (own_new HR.out.1 hb)
            obtain ⟨R', o', e', hR4, z0, z1, z2⟩ := (H0.out.later HB4.out).get HG.out
            injection e' with e'
            injection e' with e1 e2
            subst e1 e2
            clear hb k0 k1 k2
            by_cases hbig : most < b.length + tkSize t
            · have d4 : decide ((b.length : Int) + tkSize t > most) = true := decide_eq_true hbig
              have HZ := Lib.hid (show expandP l most = .error 2 by rw [HT2.out, HE.out, HS.out, if_pos hbig])
              clear hbig
              go_wp2_with fail
              go_ret2
              exact .inr ⟨2, HZ.out, by decide, rfl, HB4.out⟩
            · have d4 : decide ((b.length : Int) + tkSize t > most) = false := decide_eq_false hbig
              rw [if_neg hbig] at HS
              have hlen := expTk_len hok b
              have HBY := Lib.hid (expTk_byte hok HR.out.2.1)
              have hle : ((expTk t b).length : Int) ≤ most := by omega
              have hsz4 := HB4.out.size
              have hblen : b.length ≤ 1048576 := by omega
              clear hbig hlen ewm
              by_cases h0 : t.len = 0
              · have hby : 0 ≤ t.byte ∧ t.byte ≤ 255 := by
                  unfold okTk at hok
                  rw [if_pos h0] at hok
                  have := of_decide_eq_true hok
                  omega
                have d5 : (t.len == 0) = true := by simp [h0]
                have d6 : decide (0 < t.len) = false := by simp [h0]
                have ewb : IntKind.u8.wrap t.byte = t.byte := by rw [IntKind.wrap_u8]; omega
                have hbv : bvs [t.byte.toNat] = [.int .u8 t.byte] := by unfold bvs; simp; omega
                have HX := Lib.hid (show expTk t b = b ++ [t.byte.toNat] by unfold expTk; rw [if_pos h0])
                clear h0 hok
                go_wp2_with (at_builtin; refine wpList_append_own _ rfl _ _ 23 rfl w.heap.size 5 i0 (.int .u8 0) 1 1 Tryd.underlying23 HI0.out.1 HI0.out.2.1 HI0.out.2.2.1 HI0.out.2.2.2 rfl (by decide) _ _ _ rfl (HO4.out.alloc _) ⟨w4.heap.size, 0, none⟩ 1 1 [.int .u8 t.byte] rfl rfl (World.news_of_block (cs := #[.int .u8 t.byte]) (t := 5) (fr := (0, 0)) (heap_alloc_new _ _)) ?p1 ?p2 ?p3 ?p4 ?_)
                case p1 => simp [Value.oneCell']
                case p2 => unfold maxLen; omega
                case p3 => first | omega | (simp; omega)
                case p4 => first | omega | (simp; omega)
                intro v' w6 hown' hgrow _
                have hown2 : w6.ownsRow w.heap.size 5 1 v' (expTk t b).length (bvs (expTk t b)) := by rw [HX.out, bvs_append, List.length_append, hbv]; exact hown'
                have hb6 := (HB4.out.alloc (by omega) (.cells #[.int .u8 t.byte] 5)).grown hgrow (by simp; omega) (fun j e => (own_lt HO4.out e).1)
                have HZ := Lib.hid (And.intro hown2 hb6)
                clear hown' hgrow hown2 hb6 hbv z0 z1 z2 hR4 hR
                go_wp2_with fail
                go_loopw [7, 9] (fun s4 s7 ws => s4 = v' ∧ s7 = .int .i64 0 ∧ Hid (ws.ownsRow w.heap.size 5 1 v' (expTk t b).length (bvs (expTk t b)) ∧ Below w.heap.size w ws)) (fun _ _ _ => 0)
                case atStart => exact ⟨rfl, rfl, HZ⟩
                case round =>
                  obtain ⟨rfl, rfl, HQ⟩ := hrel
                  obtain ⟨R', o', e', hR4, z0, z1, z2⟩ := (H0.out.later HQ.out.2).get HG.out
                  injection e' with e'
                  injection e' with e1 e2
                  subst e1 e2
                  go_wp2_with fail
                  go_roundw
                  case rel => exact ⟨k + 1, expTk t b, by go_num, by omega, hle, Lib.hid (by rw [HE.out, HS.out]), Lib.hid ⟨HQ.out.1, HBY.out, HQ.out.2⟩⟩
                  case measure => simp [intOf]; omega
              · have hokk : t.byte = 0 ∧ 3 ≤ t.len ∧ t.len ≤ 258 ∧ 1 ≤ t.back ∧ t.back ≤ 32768 := by
                  unfold okTk at hok
                  rw [if_neg h0] at hok
                  exact of_decide_eq_true hok
                have d5 : (t.len == 0) = false := by simp [h0]
                obtain ⟨K, hK⟩ : ∃ K : Nat, t.len = (K : Int) := ⟨t.len.toNat, by omega⟩
                obtain ⟨Bk, hBk⟩ : ∃ Bk : Nat, t.back = (Bk : Int) := ⟨t.back.toNat, by omega⟩
                have HX := Lib.hid (show expTk t b = copyB K Bk b by unfold expTk; rw [if_neg h0, hK, hBk]; rfl)
                have hb1 : 1 ≤ Bk ∧ Bk ≤ b.length ∧ K ≤ 258 := by omega
                have HK := Lib.hid (And.intro hK hBk)
                rw [hK] at z1 d5
                rw [hBk] at z2
                clear h0 hok hokk hK hBk d3
                go_wp2_with fail
                clear z0 z1 z2 hR4 hR d5
                go_loopw [7, 9] (fun s4 s7 ws => ∃ j : Nat, s7 = .int .i64 (j : Int) ∧ j ≤ K ∧ Hid (ws.ownsRow w.heap.size 5 1 s4 (copyB j Bk b).length (bvs (copyB j Bk b)) ∧ Below w.heap.size w ws)) (fun _ s7 _ => K - (intOf s7).toNat)
                case atStart => exact ⟨0, rfl, by omega, Lib.hid ⟨HO4.out, HB4.out⟩⟩
                case round =>
                  obtain ⟨j, rfl, hj, HQ⟩ := hrel
                  obtain ⟨R', o', e', hR4, z0, z1, z2⟩ := (H0.out.later HQ.out.2).get HG.out
                  injection e' with e'
                  injection e' with e1 e2
                  subst e1 e2
                  rw [HK.out.1] at z1
                  rw [HK.out.2] at z2
                  by_cases hjk : j < K
                  · have d6 : decide ((j : Int) < (K : Int)) = true := decide_eq_true (by omega)
                    obtain ⟨A1, c1, R1, rfl, -, -, h8⟩ := Row8.of_own HQ.out.1 (copyB_byte HR.out.2.1 j)
                    have hlen := copyB_len j Bk b
                    obtain ⟨y, hy⟩ : ∃ y, (copyB j Bk b)[(copyB j Bk b).length - Bk]? = some y := ⟨_, List.getElem?_eq_getElem (by omega)⟩
                    have hsucc := copyB_succ j Bk b
                    rw [List.getD_eq_getElem?_getD, hy] at hsucc
                    have HSU := Lib.hid (show copyB (j + 1) Bk b = copyB j Bk b ++ [y] from hsucc)
                    obtain ⟨Rr, oo, rfl, hRr, hc⟩ := h8.bytes.at_ (by omega)
                    have cy := hc _ _ hy
                    have h1cap := h8.cap
                    have h1top := h8.top
                    obtain ⟨M, hM⟩ : ∃ M, (copyB j Bk b).length = M := ⟨_, rfl⟩
                    obtain ⟨D, hD⟩ : ∃ D, M - Bk = D := ⟨_, rfl⟩
                    have HMM := Lib.hid hM
                    have HOr := Lib.hid HQ.out.1
                    rw [hM] at HOr cy hlen h1cap
                    rw [hD] at cy
                    have ewd : IntKind.i64.wrap ((M : Int) - (Bk : Int)) = (D : Int) := by rw [IntKind.wrap_i64]; omega
                    have q1 : (0 : Int) ≤ (D : Int) := by omega
                    have q2 : (D : Int) < (M : Int) := by omega
                    rw [hM]
                    have hMb : M ≤ 1049000 := by omega
                    have hszr := HQ.out.2.size
                    rename World => ws
                    clear hy hsucc hc hD hM h8 hlen
                    go_wp2_with (at_builtin; refine wpList_append_own _ rfl _ _ 23 rfl w.heap.size 5 i0 (.int .u8 0) 1 1 Tryd.underlying23 HI0.out.1 HI0.out.2.1 HI0.out.2.2.1 HI0.out.2.2.2 rfl (by decide) _ _ _ rfl (HOr.out.alloc _) ⟨ws.heap.size, 0, none⟩ 1 1 [.int .u8 (y : Int)] rfl rfl (World.news_of_block (cs := #[.int .u8 (y : Int)]) (t := 5) (fr := (0, 0)) (heap_alloc_new _ _)) ?p1 ?p2 ?p3 ?p4 ?_)
                    case p1 => simp [Value.oneCell']
                    case p2 => unfold maxLen; omega
                    case p3 => first | omega | (simp; omega)
                    case p4 => first | omega | (simp; omega)
                    intro v' w6 hown' hgrow _
                    have hown2 : w6.ownsRow w.heap.size 5 1 v' (copyB (j + 1) Bk b).length (bvs (copyB (j + 1) Bk b)) := by rw [HSU.out, bvs_append, List.length_append, HMM.out]; exact hown'
                    have hal : Below w.heap.size w (ws.alloc (.cells #[.int .u8 (y : Int)] 5)) := HQ.out.2.alloc (by omega) _
                    have hb6 := hal.grown hgrow (by simp; omega) (fun j e => (own_lt HOr.out e).1)
                    have HZ := Lib.hid (And.intro hown2 hb6)
                    clear hown' hgrow hown2 hb6 hal
                    go_wp2_with fail
                    go_roundw
                    case rel => exact ⟨j + 1, by go_num, by omega, HZ⟩
                    case measure => simp [intOf]; omega
                  · obtain rfl : j = K := by omega
                    have d6 : decide ((j : Int) < (j : Int)) = false := by simp
                    have HQ1 := Lib.hid HQ.out.1
                    rw [← HX.out] at HQ1
                    go_wp2_with fail
                    go_roundw
                    case rel => exact ⟨k + 1, expTk t b, by go_num, by omega, hle, Lib.hid (by rw [HE.out, HS.out]), Lib.hid ⟨HQ1.out, HBY.out, HQ.out.2⟩⟩
                    case measure => simp [intOf]; omega
        · obtain rfl : k = i := by omega
          have d2 : decide ((k : Int) < (k : Int)) = false := by simp
          obtain ⟨A1, c1, R1, e1, -, -, h8⟩ := Row8.of_own HR.out.1 HR.out.2.1
          have HZ := Lib.hid (And.intro (show expandP l most = .ok b by rw [HT2.out, HE.out, List.drop_of_length_le (by omega), expGo]) (And.intro e1 h8.bytes))
          clear e1 h8
          go_wp2_with fail
          go_ret2
          refine .inl ⟨b, A1, c1, HZ.out.1, ?_, HZ.out.2.2, hbm, HR.out.2.2⟩
          rw [← HZ.out.2.1]
          rfl
end Go.Proofs.YtdoliloiagfagaaDoor
