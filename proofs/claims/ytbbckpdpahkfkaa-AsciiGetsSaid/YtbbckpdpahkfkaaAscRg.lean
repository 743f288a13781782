/- ascii's reference: Unhex, walked. -/
import Derived.Test.YtbbckpdpahkfkaaAscRf
namespace Go.Proofs.Ytbbckpdpahkfkaa
open Go.RowKit

theorem natI_len (l : List Nat) : (natI l).length = l.length := by simp [natI]
theorem padU_lt {ds : List Nat} (h : ∀ d ∈ ds, d < 16) : ∀ d ∈ padU ds, d < 16 := by
  intro d hd
  unfold padU at hd
  split at hd
  · rcases List.mem_append.1 hd with hd | hd
    · exact h d hd
    · simp at hd; omega
  · exact h d hd
theorem pairUp_lt : ∀ (ds : List Nat), (∀ d ∈ ds, d < 16) → ∀ b ∈ pairUp ds, b < 256
  | [], _, b, hb => by cases hb
  | [a], h, b, hb => by
    have := h a (by simp)
    simp [pairUp] at hb; omega
  | a :: c :: r, h, b, hb => by
    have h1 := h a (by simp)
    have h2 := h c (by simp)
    rw [pairUp] at hb
    rcases List.mem_cons.1 hb with e | e
    · omega
    · exact pairUp_lt r (fun d hd => h d (List.mem_cons_of_mem _ (List.mem_cons_of_mem _ hd))) b e
theorem natI_snoc (l : List Nat) (d : Nat) : natI (l ++ [d]) = natI l ++ [(d : Int)] := by simp [natI]
set_option maxRecDepth 100000 in
set_option maxHeartbeats 4000000 in
theorem unhex_ref (t : List Nat) (most : Int) (w : World) (hb : ∀ x ∈ t, x < 256) (hl : t.length ≤ 100000) :
    Calls Try.prog 15 #[.string (strB t), .int .i64 most] w (AnsIs (unhexR t most) w) := by
  by_cases hm : most < 0 ∨ 1048576 < most
  · unfold unhexR
    rw [if_pos hm]
    rcases hm with hm | hm
    · have d1 : decide (most < 0) = true := by simp; omega
      go_enter Try.func15, Try.ntmps15
      go_wp2
      go_ret2
      exact AnsIs.err (Below.refl _ _)
    · have d1 : decide (most < 0) = false := by simp; omega
      have d2 : decide (1048576 < most) = true := by simp; omega
      go_enter Try.func15, Try.ntmps15
      go_wp2
      go_ret2
      exact AnsIs.err (Below.refl _ _)
  rw [restU_start t most hm]
  have d1 : decide (most < 0) = false := by simp; omega
  have d2 : decide (1048576 < most) = false := by simp; omega
  obtain ⟨m, rfl⟩ : ∃ m : Nat, most = m := ⟨most.toNat, by omega⟩
  obtain ⟨i0, hi, hz0, hz1, hz2⟩ := info_parts infoInt
  have hsz : (strB t).size = t.length := strB_size t
  have hix := fun i x (h : t[i]? = some x) w => strB_index t i x h (hb x (List.mem_of_getElem? h)) w
  obtain ⟨R, hR⟩ : ∃ R, restU [] t (m : Int) = R := ⟨_, rfl⟩
  rw [hR]
  generalize strB t = S at *
  have HIX := Lib.hid hix
  have HR := Lib.hid hR
  have HM := Lib.hid hm
  clear hix hR hm
  go_enter Try.func15, Try.ntmps15
  go_wp2
  go_loopw [6, 7] (fun v s7 wr => ∃ (p : Nat) (ds : List Nat), p ≤ t.length ∧ s7 = .int .i64 p ∧ ds.length ≤ p ∧ (∀ d ∈ ds, d < 16) ∧ wr.ownsRow w.heap.size 3 1 v ds.length (iiv (natI ds)) ∧ Below w.heap.size w wr ∧ restU ds (t.drop p) (m : Int) = R) (fun _ s7 _ => t.length - (intOf s7).toNat)
  case atStart => exact ⟨0, [], by omega, rfl, by simp, by simp, World.ownsRow_nil _ _ _ _, Below.refl _ _, HR.out⟩
  case round =>
    obtain ⟨p, ds, hp, rfl, hdl, hds, hown, hbb, hrest⟩ := hrel
    obtain ⟨a0, cc, rfl⟩ := own_slice hown
    have hszb := hbb.size
    have HO := Lib.hid (And.intro hown (And.intro hbb (And.intro hds hrest)))
    clear hown hbb hds hrest
    by_cases hlt : p < t.length
    · obtain ⟨x, hx⟩ : ∃ x, t[p]? = some x := ⟨_, List.getElem?_eq_getElem hlt⟩
      have hxi := HIX.out p x hx
      have hx9 := hb x (List.mem_of_getElem? hx)
      have hdr : t.drop p = x :: t.drop (p + 1) := by
        rw [List.drop_eq_getElem_cons hlt]
        congr 1
        rw [List.getElem?_eq_getElem hlt] at hx
        injection hx
      have e1 : decide ((p : Int) < (t.length : Int)) = true := by simp; omega
      have HX := Lib.hid (And.intro hdr hx)
      clear hdr hx
      by_cases h62 : x = 62
      · subst h62
        have hfin : finU ds (m : Int) = R := by rw [← HO.out.2.2.2, HX.out.1, restU_stop]
        have e2 : ((62 : Int) != 62) = false := by simp
        have e3 : ((p : Int) == (t.length : Int)) = false := by simp; omega
        have HF := Lib.hid hfin
        clear hfin
        obtain ⟨ds', hds'⟩ : ∃ l, padU ds = l := ⟨_, rfl⟩
        obtain ⟨hp1, hp2, hp3⟩ := pairUp_padU ds
        rw [hds'] at hp1 hp2
        obtain ⟨q, hq⟩ : ∃ q, (pairUp ds).length = q := ⟨_, rfl⟩
        rw [hq] at hp2 hp3
        have HP := Lib.hid (And.intro hds' (And.intro hp1 hq))
        have HQ := Lib.hid (And.intro hp2 hp3)
        clear hds' hp1 hq hp2 hp3
        obtain ⟨L2, hL2⟩ : ∃ l, 2 * q = l := ⟨_, rfl⟩
        have hfin : finU ds (m : Int) = if m < q then (2, []) else (0, pairUp ds) := by
          unfold finU
          rw [← HQ.out.2]
          by_cases h : m < q
          · rw [if_pos h, if_pos (by omega)]
          · rw [if_neg h, if_neg (by omega)]
        have HF2 := Lib.hid (And.intro (hfin.symm.trans HF.out) hL2)
        have HSX := Lib.hid (And.intro HO.out.2.2.1 HO.out.2.2.1)
        have hL9 : L2 ≤ 200000 := by have := HQ.out.2; omega
        clear hfin hL2
        by_cases hlong : m < q
        · have e5 : decide ((m : Int) < (L2 : Int) / 2) = true := by have := HF2.out.2; simp; omega
          have hst : R = (2, []) := by rw [← HF2.out.1, if_pos hlong]
          have HS := Lib.hid hst
          clear hst hlong
          by_cases hodd : ds.length % 2 = 1
          · have e4 : ((ds.length : Int) % 2 == 1) = true := by simp; omega
            have hL : ds.length + 1 = L2 := by
              have := HQ.out.1; have := HF2.out.2; have h1 : ds'.length = ds.length + 1 := by rw [← HP.out.1]; unfold padU; rw [if_pos hodd]; simp
              omega
            have HL := Lib.hid hL
            clear hodd hL
            go_wp2_with (at_builtin; refine wpList_append_own _ rfl _ _ 44 rfl w.heap.size 3 i0 (.int .i64 0) 1 8 Try.underlying44 hi hz0 hz1 hz2 rfl (by decide) _ _ _ rfl (HO.out.1.alloc _) ⟨_, 0, none⟩ 1 1 [.int .i64 _] rfl rfl (World.news_of_block (t := 3) (fr := (0, 0)) (heap_alloc_new _ _)) ?d12 ?d13 ?d14 ?d15 ?_)
            case d12 => simp [Value.oneCell']
            case d13 => unfold maxLen; omega
            case d14 => omega
            case d15 => first | omega | (simp; omega)
            intro v' w5 hown' hgrow _
            have hb3 : Below w.heap.size w w5 := (HO.out.2.1.alloc hszb _).grown hgrow (by simp; omega) (fun j e => (own_lt HO.out.1 e).1)
            have hown2 := own_snoc hown' (by rw [natI_len])
            obtain ⟨a1, c1, rfl⟩ := own_slice hown'

            rw [HL.out]
            have HB3 := Lib.hid hb3
            clear hown' hown2 hgrow hb3
            go_wp2_with fail
            go_ret2
            rw [HS.out]
            exact AnsIs.err HB3.out
          · have e4 : ((ds.length : Int) % 2 == 1) = false := by simp; omega
            have hL : ds.length = L2 := by
              have := HQ.out.1; have := HF2.out.2; have h1 : ds'.length = ds.length := by rw [← HP.out.1]; unfold padU; rw [if_neg hodd]
              omega
            have HL := Lib.hid hL
            clear hodd
            rw [hL] at e4 ⊢
            clear hL
            go_wp2_with fail
            go_ret2
            rw [HS.out]
            exact AnsIs.err HO.out.2.1
        · have e5 : decide ((m : Int) < (L2 : Int) / 2) = false := by have := HF2.out.2; simp; omega
          have hst : R = (0, pairUp ds) := by rw [← HF2.out.1, if_neg hlong]
          have HS := Lib.hid hst
          clear hst hlong
          by_cases hodd : ds.length % 2 = 1
          case' pos =>
            have e4 : ((ds.length : Int) % 2 == 1) = true := by simp; omega
            have hds2 : ds' = ds ++ [0] := by rw [← HP.out.1]; unfold padU; rw [if_pos hodd]
            have hL : ds.length + 1 = L2 := by
              have := HQ.out.1; have := HF2.out.2; have h1 : ds'.length = ds.length + 1 := by rw [hds2]; simp
              omega
            have HL := Lib.hid (And.intro hL hds2)
            clear hodd hL hds2
            go_wp2_with (at_builtin; refine wpList_append_own _ rfl _ _ 44 rfl w.heap.size 3 i0 (.int .i64 0) 1 8 Try.underlying44 hi hz0 hz1 hz2 rfl (by decide) _ _ _ rfl (HO.out.1.alloc _) ⟨_, 0, none⟩ 1 1 [.int .i64 _] rfl rfl (World.news_of_block (t := 3) (fr := (0, 0)) (heap_alloc_new _ _)) ?d22 ?d23 ?d24 ?d25 ?_)
            case d22 => simp [Value.oneCell']
            case d23 => unfold maxLen; omega
            case d24 => omega
            case d25 => first | omega | (simp; omega)
            intro v' w5 hown' hgrow _
            have hb3 : Below w.heap.size w w5 := (HO.out.2.1.alloc hszb _).grown hgrow (by simp; omega) (fun j e => (own_lt HO.out.1 e).1)
            have hown2 := own_snoc hown' (by rw [natI_len])
            obtain ⟨a1, c1, rfl⟩ := own_slice hown'

            rw [HL.out.1]
            obtain ⟨A', c', e', hI⟩ := IntsAt.of_own hown2
            injection e' with e1 e2 e3
            subst e1 e3
            have hI2 : IntsAt w5 a1 L2 c1 (natI ds') := by
              have h1 : natI ds' = natI ds ++ [0] := by rw [HL.out.2, natI_snoc]; rfl
              have h2 : (natI ds ++ [0]).length = L2 := by rw [← HL.out.1]; simp [natI]
              rw [h1, ← h2]
              exact hI
            have HI := Lib.hid (And.intro hI2 hb3)
            clear hown' hgrow hown2 hI hI2 hb3 HL e2
          case' neg =>
            have e4 : ((ds.length : Int) % 2 == 1) = false := by simp; omega
            have hds2 : ds' = ds := by rw [← HP.out.1]; unfold padU; rw [if_neg hodd]
            have hL : ds.length = L2 := by
              have := HQ.out.1; have := HF2.out.2; have h1 : ds'.length = ds.length := by rw [hds2]
              omega
            obtain ⟨A', c', e', hI⟩ := IntsAt.of_own HO.out.1
            injection e' with f1 f2 f3
            obtain ⟨a1, ha1⟩ : ∃ a, a0 = a := ⟨_, rfl⟩
            obtain ⟨c1, hc1⟩ : ∃ a, cc = a := ⟨_, rfl⟩
            obtain ⟨w5, hw5⟩ : ∃ a, wr = a := ⟨_, rfl⟩
            have hI2 : IntsAt wr a0 L2 cc (natI ds') := by
              rw [hds2, ← hL, f1, f3]
              exact hI
            have HI := Lib.hid (And.intro hI2 HO.out.2.1)
            clear f1 f2 f3
            rw [hL] at e4 ⊢
            rw [ha1, hc1, hw5] at HI
            rw [ha1, hc1, hw5]
            clear hI hI2 hL hodd hds2 HO hszb ha1 hc1 hw5
          all_goals
            obtain ⟨j0, hj, hy0, hy1, hy2⟩ := info_parts info8
            go_wp2_with fail
            go_loopw [8, 9] (fun v s9 wx => ∃ k : Nat, k ≤ q ∧ s9 = .int .i64 ((2 * k : Nat) : Int) ∧ wx.ownsRow w5.heap.size 5 1 v k (bvs ((pairUp ds).take k)) ∧ Below w5.heap.size w5 wx) (fun _ s9 _ => L2 - (intOf s9).toNat)
            case atStart => exact ⟨0, by omega, rfl, ⟨rfl, .inl ⟨rfl, rfl⟩⟩, Below.refl _ _⟩
            case round =>
              obtain ⟨k, hkq, rfl, hrow, hbk⟩ := hrel
              obtain ⟨a2, ck, rfl⟩ := own_slice hrow
              obtain ⟨K2, hK2⟩ : ∃ K, 2 * k = K := ⟨_, rfl⟩
              rw [hK2]
              have hszk := hbk.size
              have HY := Lib.hid (And.intro hrow hbk)
              clear hrow hbk
              by_cases hkl : k < q
              · obtain ⟨x, hx⟩ : ∃ x, ds'[2 * k]? = some x := ⟨_, List.getElem?_eq_getElem (by have := HQ.out.1; omega)⟩
                obtain ⟨y, hy⟩ : ∃ x, ds'[2 * k + 1]? = some x := ⟨_, List.getElem?_eq_getElem (by have := HQ.out.1; omega)⟩
                have hII := HI.out.1.below HY.out.2
                obtain ⟨R1, o1, rfl, hR1, hcell⟩ := hII.at_ (by have := HF2.out.2; omega)
                have g1 := hcell (2 * k) (x : Int) (by simp [natI, hx])
                have g2 := hcell (2 * k + 1) (y : Int) (by simp [natI, hy])
                rw [hK2] at g1 g2
                have hx16 : x < 16 := padU_lt HSX.out.1 x (by rw [HP.out.1]; exact List.mem_of_getElem? hx)
                have hy16 : y < 16 := padU_lt HSX.out.1 y (by rw [HP.out.1]; exact List.mem_of_getElem? hy)
                have hz := pairUp_at ds' k x y hx hy
                rw [HP.out.2.1] at hz
                obtain ⟨z, hzz⟩ : ∃ z, x * 16 + y = z := ⟨_, rfl⟩
                rw [hzz] at hz
                have hzw : IntKind.u8.wrap (16 * (x : Int) + (y : Int)) = (z : Int) := by show _ % 256 = _; omega
                have hz9 : z < 256 := by omega
                have HT := Lib.hid (show (pairUp ds).take (k + 1) = (pairUp ds).take k ++ [z] by rw [List.take_add_one, hz]; rfl)
                have hkL : K2 < L2 := by have := HF2.out.2; omega
                have hk9 : k ≤ 200000 := by omega
                obtain ⟨K3, hK3⟩ : ∃ K, K2 + 1 = K := ⟨_, rfl⟩
                have hk3L : K3 < L2 := by have := HF2.out.2; omega
                rw [hK3] at g2
                have hw3 : IntKind.i64.wrap ((K2 : Int) + 1) = (K3 : Int) := by rw [show (K2 : Int) + 1 = (K3 : Int) by omega, IntKind.wrap_i64]; omega
                have hw16 : IntKind.i64.wrap (16 * (x : Int)) = 16 * (x : Int) := by rw [IntKind.wrap_i64]; omega
                have hwxy : IntKind.i64.wrap (16 * (x : Int) + (y : Int)) = 16 * (x : Int) + (y : Int) := by rw [IntKind.wrap_i64]; omega
                have HK2 := Lib.hid hK2
                clear hcell hx hy hII hz hzz hK2 hK3
                go_upto_region 21 with fail
                go_region_law ((refine step_append_lies _ (by rfl) _ _ _ (by rfl) w5.heap.size 5 j0 (.int .u8 0) 1 1 Try.underlying22 hj hy0 hy1 hy2 rfl (by omega) (.slice a2 k ck) k (bvs ((pairUp ds).take k)) (by rfl) ((HY.out.1.alloc _).drew) ⟨wr.heap.size, 0, none⟩ 1 1 [.int .u8 (z : Int)] (by rfl) (by rfl) (World.news_of_block (cs := #[.int .u8 (z : Int)]) (t := 5) (fr := (0, 0)) (heap_alloc_new wr _)) (by simp [Value.oneCell']) (by omega) (by unfold maxLen; omega) (by omega) (by simp; omega) (wr.heap.size + 1) (by simp) ?_; intro g1 cap1 w1 hown1 hgrow1 hat1 hlt1; have HG := Lib.hid (And.intro hown1 (own_stepd HY.out.1 HY.out.2 hszk hgrow1)); clear hown1 hgrow1 hat1 hlt1))
                all_goals
                  go_wp2_with fail
                  go_roundw
                  case rel => exact ⟨k + 1, by omega, by have := HK2.out; go_num, by rw [HT.out, bvs_append]; exact HG.out.1, HG.out.2⟩
                  case measure => simp [intOf]; omega
              · obtain rfl : k = q := by omega
                have h2 := HF2.out.2
                obtain rfl : K2 = L2 := by omega
                have hby : Bytes wr a2 k ck (pairUp ds) := by
                  have := own_read HY.out.1 (fun b hb => pairUp_lt ds HSX.out.1 b (List.mem_of_mem_take hb))
                  rwa [List.take_of_length_le (by rw [HP.out.2.2]; exact Nat.le_refl _)] at this
                have HZ := Lib.hid (And.intro hby (HI.out.2.trans (HY.out.2.mono HI.out.2.size)))
                clear h2 hby hK2
                go_wp2_with fail
                go_ret2
                rw [HS.out]
                refine ⟨a2, ck, ?_, ?_, HZ.out.2⟩
                · show Ending.returned (.tuple #[.slice a2 k ck, .int .i64 0]) = .returned (.tuple #[.slice a2 (pairUp ds).length ck, .int .i64 0])
                  rw [HP.out.2.2]
                · show Bytes wr a2 (pairUp ds).length ck (pairUp ds)
                  rw [HP.out.2.2]
                  exact HZ.out.1
      · have e2 : ((x : Int) != 62) = true := by simp; omega
        have hdg := fun w => digit_ref x w hx9
        cases hd : digM x with
        | some d =>
          obtain ⟨hw, hd16⟩ := digM_white x d hd
          have hst : restU (ds ++ [d]) (t.drop (p + 1)) (m : Int) = R := by rw [← HO.out.2.2.2, HX.out.1, restU_digit _ _ _ _ _ h62 hw hd]
          have hv : digI x = (d : Int) := by unfold digI; rw [hd]
          simp only [hv] at hdg
          have HD := Lib.hid hdg
          have HS := Lib.hid hst
          clear hdg hst hw hd
          go_wp2_with fail
          refine (HD.out _).mono ?_
          rintro e w2 ⟨rfl, rfl⟩
          go_wp2_with fail
          refine (HD.out _).mono ?_
          rintro e w3 ⟨rfl, rfl⟩
          go_wp2_with (at_builtin; refine wpList_append_own _ rfl _ _ 44 rfl w.heap.size 3 i0 (.int .i64 0) 1 8 Try.underlying44 hi hz0 hz1 hz2 rfl (by decide) _ _ _ rfl (HO.out.1.alloc _) ⟨_, 0, none⟩ 1 1 [.int .i64 _] rfl rfl (World.news_of_block (t := 3) (fr := (0, 0)) (heap_alloc_new _ _)) ?c22 ?c23 ?c24 ?c25 ?_)
          case c22 => simp [Value.oneCell']
          case c23 => unfold maxLen; omega
          case c24 => omega
          case c25 => first | omega | (simp; omega)
          intro v' w5 hown' hgrow _
          have hb3 : Below w.heap.size w w5 := (HO.out.2.1.alloc hszb _).grown hgrow (by simp; omega) (fun j e => (own_lt HO.out.1 e).1)
          have hown2 := own_snoc hown' (by rw [natI_len])
          obtain ⟨a1, c1, rfl⟩ := own_slice hown'
          rw [← natI_snoc, natI_len] at hown2
          have HO3 := Lib.hid (And.intro hown2 hb3)
          clear hown' hgrow hb3 hown2
          go_wp2_with fail
          go_roundw
          case rel => exact ⟨p + 1, ds ++ [d], by omega, by go_num, by simp; omega, by
            intro y hy
            rcases List.mem_append.1 hy with hy | hy
            · exact HO.out.2.2.1 y hy
            · simp at hy; omega, by simpa using HO3.out.1, HO3.out.2, HS.out⟩
          case measure => simp [intOf]; omega
        | none =>
          have hv : digI x = -1 := by unfold digI; rw [hd]
          simp only [hv] at hdg
          have hwh := fun w => white_ref x w
          have HD := Lib.hid hdg
          cases hw : isW x with
          | true =>
            have hst : restU ds (t.drop (p + 1)) (m : Int) = R := by rw [← HO.out.2.2.2, HX.out.1, restU_white _ _ _ _ h62 hw]
            simp only [hw] at hwh
            have HW := Lib.hid hwh
            have HS := Lib.hid hst
            clear hdg hst hw hd hwh
            go_wp2_with fail
            refine (HD.out _).mono ?_
            rintro e w2 ⟨rfl, rfl⟩
            go_wp2_with fail
            refine (HW.out _).mono ?_
            rintro e w3 ⟨rfl, rfl⟩
            go_wp2_with fail
            go_roundw
            case rel => exact ⟨p + 1, ds, by omega, by go_num, by omega, HO.out.2.2.1, HO.out.1, HO.out.2.1, HS.out⟩
            case measure => simp [intOf]; omega
          | false =>
            have hst : R = (4, []) := by rw [← HO.out.2.2.2, HX.out.1, restU_bad _ _ _ _ h62 hw hd]
            simp only [hw] at hwh
            have HW := Lib.hid hwh
            have HS := Lib.hid hst
            clear hdg hst hw hd hwh
            go_wp2_with fail
            refine (HD.out _).mono ?_
            rintro e w2 ⟨rfl, rfl⟩
            go_wp2_with fail
            refine (HW.out _).mono ?_
            rintro e w3 ⟨rfl, rfl⟩
            go_wp2_with fail
            go_ret2
            rw [HS.out]
            exact AnsIs.err HO.out.2.1
    · obtain rfl : p = t.length := by omega
      have hst : R = (4, []) := by rw [← HO.out.2.2.2, List.drop_length, restU_end]
      have HS := Lib.hid hst
      clear hst
      go_wp2_with fail
      go_ret2
      rw [HS.out]
      exact AnsIs.err HO.out.2.1
end Go.Proofs.Ytbbckpdpahkfkaa
