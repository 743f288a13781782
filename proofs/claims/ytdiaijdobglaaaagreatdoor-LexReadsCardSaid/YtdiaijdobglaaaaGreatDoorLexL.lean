/- lex: hexText. -/
import Derived.Test.YtdiaijdobglaaaaGreatDoorLexK
namespace Go.Proofs.YtdiaijdobglaaaaGreatDoor
open Go.RowKit

theorem StS.at_ {w wr : World} {R : Nat} {A : Option Addr} {n c k : Nat} {v : Value} {acc bs : List Nat} (h : StS w wr R A n c bs k v acc) {k' : Nat} (hk : k' ≤ n) {x : Int} (hx : x = (k' : Int)) : StS w (wr.setCell ⟨R, 1, none⟩ (.int .i64 x)) R A n c bs k' v acc :=
  h.moved (h.rdr.set hk hx) ((Fr.refl _ _).setB 1 _)
set_option maxRecDepth 100000 in
set_option maxHeartbeats 16000000 in
theorem hexText_any (R : Nat) (A : Option Addr) (n c : Nat) (bs : List Nat) (k : Nat) (w : World) (h : Rdr w R A n c bs k) (hk0 : 0 < k) :
    Calls Tryz.prog 37 #[.pointer (some ⟨R, 0, none⟩)] w (TxtSaid (limL 3 (hxL (bs.drop k))) R A n c bs k w) := by
  obtain ⟨i0, hi, hz0, hz1, hz2⟩ := info_parts info8
  have hle := h.le
  have hsm := h.small
  have hcap := h.bytes.cap
  have htop := h.bytes.top
  have HN := Lib.hid h.len
  obtain ⟨B, o, rfl, hB, hcell⟩ := h.bytes.at_ (by omega)
  have H0 := Lib.hid (StS.first h)
  have HBY := Lib.hid h.bytes.byte
  have HCE := Lib.hid (fun i x => hcell i x)
  have HIX : Hid (∀ (o' cc : Nat), (k < n → o' = o + k) → ∀ v : World, Below w.heap.size w v → Calls Tryz.prog 60 #[.slice (some ⟨B, o', none⟩) (n - k) cc, .int .u8 62] v fun e w' => e = .returned (.int .i64 (gtI (bs.drop k))) ∧ w' = v) := Lib.hid (fun o' cc ho v hb =>
    idx_any B o' (n - k) cc (bs.drop k) v (by rw [List.length_drop, HN.out]) (fun x hx => HBY.out x (List.mem_of_mem_drop hx)) (fun i x hx => by
      rw [List.getElem?_drop] at hx
      have hlt := (List.getElem?_eq_some_iff.1 hx).1
      rw [ho (by rw [HN.out] at hlt; omega), Nat.add_assoc]
      exact (hb.cell (p := ⟨B, o + (k + i), none⟩) hB).trans (HCE.out _ _ hx)))
  have hBw : Below w.heap.size w (w.alloc (.cells #[.int .i64 0, .int .i64 0, .int .i64 0, .string ⟨#[]⟩] 27)) := (Below.refl _ _).alloc (Nat.le_refl _) _
  have HBW := Lib.hid hBw
  clear h hcell hBw
  obtain ⟨l0, l1⟩ := H0.out.cells
  obtain ⟨c0, c1, c2, -⟩ := H0.out.rdr.cells
  have rd := H0.out.res.reads
  have ft := H0.out.res.thawed
  have q1 : (0 : Int) ≤ (k : Int) := by omega
  have q2 : (k : Int) ≤ (c : Int) := by omega
  cases hg : cutGt (bs.drop k) with
  | none =>
    have HG := Lib.hid (show hxL (bs.drop k) = none by unfold hxL; rw [hg])
    have HI := Lib.hid (show gtI (bs.drop k) = -1 by unfold gtI; rw [hg])
    clear hg
    by_cases hkc : k = c
    · subst hkc
      have HQ : Hid (∀ j : Nat, Calls Tryz.prog 60 #[.slice (some ⟨B, o, none⟩) 0 0, .int .u8 62] ((w.alloc (.cells #[.int .i64 0, .int .i64 0, .int .i64 0, .string ⟨#[]⟩] 27)).drewN j) fun e w' => e = .returned (.int .i64 (-1)) ∧ w' = (w.alloc (.cells #[.int .i64 0, .int .i64 0, .int .i64 0, .string ⟨#[]⟩] 27)).drewN j) := Lib.hid (fun j => by
        have := HIX.out o 0 (fun h => absurd h (by omega)) _ (below_drewN HBW.out j)
        rw [HI.out] at this
        rwa [show n - k = 0 by omega] at this)
      have e1 : ((k : Int) == (k : Int)) = true := by simp
      go_enter Tryz.func37, Tryz.ntmps37
      go_wp2_with fail
      go_quiet ((go_at_call 60; exact Calls.quiet_of_same (HQ.out _)))
      go_wp2_with fail
      refine ret_tok (t := noTok) (x := .int .i64 4) (g := w.heap.size) (tok_set (H0.out.draw _).res) (fun V hV => by have rv := hV.reads; simp [results, Tryz.results37, go_sem, rv, tokV, noTok, strB]) rfl ?_
      rw [HG.out]
      exact ⟨_, ⟨rfl, tok_rdr (H0.out.draw _), tok_fr (H0.out.draw _)⟩, fun h => absurd h (by decide)⟩
    · have HQ : Hid (∀ j : Nat, Calls Tryz.prog 60 #[.slice (some ⟨B, (o + k), none⟩) (n - k) (c - k), .int .u8 62] ((w.alloc (.cells #[.int .i64 0, .int .i64 0, .int .i64 0, .string ⟨#[]⟩] 27)).drewN j) fun e w' => e = .returned (.int .i64 (-1)) ∧ w' = (w.alloc (.cells #[.int .i64 0, .int .i64 0, .int .i64 0, .string ⟨#[]⟩] 27)).drewN j) := Lib.hid (fun j => by
        have := HIX.out (o + k) (c - k) (fun _ => rfl) _ (below_drewN HBW.out j)
        rw [HI.out] at this
        exact this)
      have e1 : ((k : Int) == (c : Int)) = false := by simp; omega
      have e2 : (k : Int) < (c : Int) := by omega
      have ck : ¬ c = k := by omega
      go_enter Tryz.func37, Tryz.ntmps37
      go_wp2_with fail
      go_quiet ((go_at_call 60; exact Calls.quiet_of_same (HQ.out _)))
      go_wp2_with fail
      refine ret_tok (t := noTok) (x := .int .i64 4) (g := w.heap.size) (tok_set (H0.out.draw _).res) (fun V hV => by have rv := hV.reads; simp [results, Tryz.results37, go_sem, rv, tokV, noTok, strB]) rfl ?_
      rw [HG.out]
      exact ⟨_, ⟨rfl, tok_rdr (H0.out.draw _), tok_fr (H0.out.draw _)⟩, fun h => absurd h (by decide)⟩
  | some x =>
    obtain ⟨b, r⟩ := x
    obtain ⟨hz, -⟩ := cut_pre _ _ _ hg
    have hlen : (bs.drop k).length = (b ++ 62 :: r).length := by rw [hz]
    rw [List.length_drop, HN.out, List.length_append, List.length_cons] at hlen
    have HG := Lib.hid (show hxL (bs.drop k) = (dgR [] b).map fun d => (prL d, r) by
      unfold hxL dgR
      rw [hg]
      simp)
    have HI := Lib.hid (show gtI (bs.drop k) = (b.length : Int) by unfold gtI; rw [hg])
    have HRR := Lib.hid (show r = bs.drop (k + b.length + 1) by
      rw [show k + b.length + 1 = k + (b.length + 1) by omega, ← List.drop_drop, hz]
      simp)
    have HBB := Lib.hid (show ∀ (i x : Nat), b[i]? = some x → bs[k + i]? = some x ∧ x < 256 from fun i x hx => by
      have hlt := (List.getElem?_eq_some_iff.1 hx).1
      have e : (bs.drop k)[i]? = some x := by rw [hz, List.getElem?_append_left hlt]; exact hx
      rw [List.getElem?_drop] at e
      exact ⟨e, HBY.out x (List.mem_of_getElem? e)⟩)
    clear hg hz
    obtain ⟨m, hm⟩ : ∃ m, b.length = m := ⟨_, rfl⟩
    rw [hm] at hlen HI HRR
    have hkm : k + m + 1 ≤ n := by omega
    have HM := Lib.hid hm
    clear hlen hm
    have HQ : Hid (∀ j : Nat, Calls Tryz.prog 60 #[.slice (some ⟨B, (o + k), none⟩) (n - k) (c - k), .int .u8 62] ((w.alloc (.cells #[.int .i64 0, .int .i64 0, .int .i64 0, .string ⟨#[]⟩] 27)).drewN j) fun e w' => e = .returned (.int .i64 (m : Int)) ∧ w' = (w.alloc (.cells #[.int .i64 0, .int .i64 0, .int .i64 0, .string ⟨#[]⟩] 27)).drewN j) := Lib.hid (fun j => by
      have := HIX.out (o + k) (c - k) (fun _ => rfl) _ (below_drewN HBW.out j)
      rw [HI.out] at this
      exact this)
    have e1 : ((k : Int) == (c : Int)) = false := by simp; omega
    have e2 : (k : Int) < (c : Int) := by omega
    have ck : ¬ c = k := by omega
    have j1 : IntKind.i64.wrap ((k : Int) + (m : Int)) = (k : Int) + (m : Int) := by rw [IntWalk.i64_in _ (by omega)]
    have j2 : (0 : Int) ≤ (k : Int) + (m : Int) := by omega
    have j3 : ((k : Int) + (m : Int)).toNat = k + m := by omega
    have j4 : (k : Int) ≤ (k : Int) + (m : Int) := by omega
    have j5 : (k : Int) + (m : Int) ≤ (c : Int) := by omega
    have j6 : k + m - k = m := by omega
    go_enter Tryz.func37, Tryz.ntmps37
    go_wp2_with fail
    go_quiet ((go_at_call 60; exact Calls.quiet_of_same (HQ.out _)))
    go_wp2_with fail
    obtain ⟨nqA, rfl⟩ : ∃ z, z = nq := ⟨_, rfl⟩
    go_quiet (fail)
    go_wp2_with fail
    have d0 : decide ((m : Int) < 0) = false := decide_eq_false (by omega)
    have H1 := Lib.hid ((H0.out.draw (nqA + nq)).at_ (k' := k + m + 1) hkm (x := (k : Int) + ((m : Int) + 1)) (by omega))
    clear rd ft c0 c1 c2 HIX HI HQ e1 e2 ck j1 j2 j3 j4 j5 j6 l0 l1
    simp only [d0]
    go_loopg [6, 7, 51] m (fun g v hv iv wr => ∃ (i : Nat) (ds : List Nat), g + i = m ∧ iv = .int .i64 (i : Int) ∧ hv = .bool (ds.length % 2 == 0) ∧ ds.length ≤ i ∧ Hid (StS w wr R (some ⟨B, o, none⟩) n c bs (k + m + 1) v (prL ds)) ∧ Hid (dgR [] b = dgR ds (b.drop i)) ∧ Hid (∀ d ∈ ds, d < 16))
    case atStart => exact ⟨0, [], by omega, rfl, rfl, by simp, H1, Lib.hid rfl, Lib.hid (fun d hd => by simp at hd)⟩
    case round =>
      obtain ⟨i, ds, hgi, rfl, rfl, hdl, HS, HA, HD⟩ := hrel
      obtain ⟨l0, l1⟩ := HS.out.cells
      have hpl : (prL ds).length ≤ i := by rw [prL_len]; omega
      by_cases hi2 : i < m
      · obtain ⟨x, hx⟩ : ∃ x, b[i]? = some x := ⟨_, List.getElem?_eq_getElem (by rw [HM.out]; exact hi2)⟩
        obtain ⟨hx1, hx2⟩ := HBB.out i x hx
        have hc : wr.cell? ⟨B, o + k + i, none⟩ = some (.int .u8 (x : Int)) := by
          obtain ⟨B', o', e, hB', hcc⟩ := HS.out.rdr.bytes.at_ (by omega)
          injection e with e
          injection e with e1 e2
          subst e1 e2
          rw [Nat.add_assoc]
          exact hcc _ _ hx1
        have hBl : B < wr.heap.size := by have := HS.out.away (by omega) B o rfl; omega
        have p1 : decide ((i : Int) < (m : Int)) = true := decide_eq_true (by omega)
        have p2 : decide (i < m) = true := decide_eq_true hi2
        have HX := Lib.hid hx
        clear hx hx1
        cases hs : spB x
        · have HSP := Lib.hid hs
          have HV := Lib.hid (fun w => hexValue_any x w hx2)
          unfold hexV at HV
          clear hs
          cases hv : hexD x with
          | none =>
            rw [hv] at HV
            have HE := Lib.hid (show hxL (bs.drop k) = none by rw [HG.out, HA.out, dgR_bad HX.out HSP.out hv]; rfl)
            clear hv
            go_wp2_with fail
            refine (isSpace_any x _).mono ?_
            rw [HSP.out]
            rintro e w2 ⟨rfl, rfl⟩
            go_wp2_with fail
            refine (HV.out _).mono ?_
            rintro e w2 ⟨rfl, rfl⟩
            have rd := HS.out.res.reads
            have ft := HS.out.res.thawed
            go_wp2_with fail
            refine ret_tok (t := noTok) (x := .int .i64 4) (g := w.heap.size) (tok_set HS.out.res) (fun V hV => by have rv := hV.reads; simp [results, Tryz.results37, go_sem, rv, tokV, noTok, strB]) rfl ?_
            rw [HE.out]
            exact ⟨_, ⟨rfl, tok_rdr HS.out, tok_fr HS.out⟩, fun h => absurd h (by decide)⟩
          | some v =>
            rw [hv] at HV
            have hv16 := hexD_lt hv
            have HE := Lib.hid (show dgR [] b = dgR (ds ++ [v]) (b.drop (i + 1)) by rw [HA.out, dgR_go HX.out HSP.out hv])
            have HD2 : Hid (∀ d ∈ ds ++ [v], d < 16) := Lib.hid (fun d hd => by
              rcases List.mem_append.1 hd with hd | hd
              · exact HD.out d hd
              · rw [List.mem_singleton.1 hd]; exact hv16)
            clear hv
            by_cases hev : ds.length % 2 = 0
            · have y1 : (ds.length % 2 == 0) = true := by simpa using hev
              have y2 : ((ds ++ [v]).length % 2 == 0) = false := by rw [List.length_append]; simp; omega
              have HP := Lib.hid (pr_even v hev)
              rw [y1]
              clear hev y1
              generalize prL ds = acc at *
              obtain ⟨a0, cc, rfl⟩ := own_slice HS.out.own
              go_wp2_with fail
              refine (isSpace_any x _).mono ?_
              rw [HSP.out]
              rintro e w2 ⟨rfl, rfl⟩
              go_wp2_with fail
              refine (HV.out _).mono ?_
              rintro e w2 ⟨rfl, rfl⟩
              go_wp2_with (at_builtin; refine wpList_append_own _ rfl _ _ 22 rfl (w.heap.size + 1) 5 i0 (.int .u8 0) 1 1 Tryz.underlying22 hi hz0 hz1 hz2 rfl (by decide) _ _ _ rfl (HS.out.own.alloc _) ⟨wr.heap.size, 0, none⟩ 1 1 [.int .u8 ((v : Int) * 16)] rfl rfl ?ca1 ?ca2 ?ca3 ?ca4 ?ca5 ?_)
              case ca1 => exact cell_one_new _ _ _
              case ca2 => simp [Value.oneCell']
              case ca3 => unfold maxLen; omega
              case ca4 => omega
              case ca5 => first | omega | (simp; omega)
              intro v' w9 hown' hgrow _
              obtain ⟨a1, c1, rfl⟩ := own_slice hown'
              have HS9 := Lib.hid (HS.out.push (x := 16 * v) (by omega) (by rw [show ((16 * v : Nat) : Int) = (v : Int) * 16 by omega]; exact hown') hgrow)
              clear hown' hgrow
              go_wp2_with fail
              go_roundg (gk - 1)
              case measure => omega
              case rel => exact ⟨i + 1, ds ++ [v], by omega, by go_num, by rw [y2], by rw [List.length_append]; simp; omega, by rw [HP.out]; exact HS9, HE, HD2⟩
            · have y1 : (ds.length % 2 == 0) = false := by simpa using hev
              have y2 : ((ds ++ [v]).length % 2 == 0) = true := by rw [List.length_append]; simp; omega
              obtain ⟨a, ha, hlast, hpos, hset⟩ := pr_odd v (show ds.length % 2 = 1 by omega)
              have ha16 := HD.out a ha
              have HP := Lib.hid hset
              rw [y1]
              clear hev y1 ha hset
              generalize prL ds = acc at *
              obtain ⟨g, cap, rfl, hgl, hcells, hfr, hcap1, hcap2⟩ := HS.out.row hpos
              obtain ⟨q, hq⟩ : ∃ q, acc.length - 1 = q := ⟨_, rfl⟩
              rw [hq] at hlast HP
              have hlast2 : wr.cell? ⟨g, q, none⟩ = some (.int .u8 (16 * (a : Int))) := by
                have := hcells q (16 * a) hlast
                rwa [show ((16 * a : Nat) : Int) = 16 * (a : Int) by omega] at this
              have hfr2 := hfr q
              have r1 : IntKind.i64.wrap ((acc.length : Int) - 1) = (q : Int) := by rw [IntWalk.i64_in _ (by omega)]; omega
              have r2 : (0 : Int) ≤ (q : Int) := by omega
              have r3 : (q : Int) < (acc.length : Int) := by omega
              have r4 : IntKind.u8.wrap (16 * (a : Int) + (v : Int)) = 16 * (a : Int) + (v : Int) := by show _ % 256 = _; omega
              have r5 : (acc.length : Int) - 1 = (q : Int) := by omega
              clear hlast hcells hfr hq
              go_wp2_with fail
              refine (isSpace_any x _).mono ?_
              rw [HSP.out]
              rintro e w2 ⟨rfl, rfl⟩
              go_wp2_with fail
              refine (HV.out _).mono ?_
              rintro e w2 ⟨rfl, rfl⟩
              go_wp2_with fail
              go_roundg (gk - 1)
              case measure => omega
              case rel => exact ⟨i + 1, ds ++ [v], by omega, by go_num, by rw [y2], by rw [List.length_append]; simp; omega, by
                rw [HP.out]
                have := HS.out.turn q (16 * a + v) (by omega)
                rw [show ((16 * a + v : Nat) : Int) = 16 * (a : Int) + (v : Int) by omega] at this
                exact Lib.hid this, HE, HD2⟩
        · have HSP := Lib.hid hs
          have HE := Lib.hid (show dgR [] b = dgR ds (b.drop (i + 1)) by rw [HA.out, dgR_sp HX.out hs])
          clear hs
          go_wp2_with fail
          refine (isSpace_any x _).mono ?_
          rw [HSP.out]
          rintro e w2 ⟨rfl, rfl⟩
          go_wp2_with fail
          go_roundg (gk - 1)
          case measure => omega
          case rel => exact ⟨i + 1, ds, by omega, by go_num, rfl, by omega, HS, HE, HD⟩
      · have p1 : decide ((i : Int) < (m : Int)) = false := decide_eq_false (by omega)
        have p2 : decide (i < m) = false := decide_eq_false hi2
        have HE := Lib.hid (show hxL (bs.drop k) = some (prL ds, bs.drop (k + m + 1)) by
          rw [HG.out, HA.out, dgR_end (by rw [List.length_drop, HM.out]; omega), HRR.out]
          rfl)
        clear hpl hdl
        generalize prL ds = acc at *
        obtain ⟨a0, cc, rfl⟩ := own_slice HS.out.own
        go_wp2_with fail
        have hob := own_bytes HS.out.own HS.out.byte
        refine (limited_any 3 a0 acc.length cc acc _ hob).mono ?_
        rintro e w2 ⟨rfl, hb⟩
        have HS2 := Lib.hid (show StS w w2 R (some ⟨B, o, none⟩) n c bs (k + m + 1) (.slice a0 acc.length cc) acc from HS.out.moved (HS.out.rdr.here hb) ((Fr.of_below hb).more (fun j hj hj2 => absurd hj (by omega))))
        have rd := HS2.out.res.reads
        have ft := HS2.out.res.thawed
        have lS := HS2.out.res.lt
        obtain ⟨⟨z1, ⟨kd, zm, zs, zt⟩⟩, hz⟩ : ∃ z, limT 3 (some acc) = z := ⟨_, rfl⟩
        rw [hz]
        have HZ := Lib.hid hz
        clear hz hb hob
        simp only [tokV]
        go_wp2_with fail
        refine ret_tok (t := ⟨kd, zm, zs, zt⟩) (x := .int .i64 z1) (g := w.heap.size) (tok_set HS2.out.res) (fun V hV => by have rv := hV.reads; simp [results, Tryz.results37, go_sem, rv, tokV]) rfl ?_
        exact txt_end HE.out HZ.out HS2.out (by omega)
end Go.Proofs.YtdiaijdobglaaaaGreatDoor
