/- lex: the reader's next. Written by gen_lexm.py. -/
import Derived.Test.YtdiaijdobglaaaaGreatDoorLexL
namespace Go.Proofs.YtdiaijdobglaaaaGreatDoor
open Go.RowKit

theorem nextG_at {P : List Nat → Int × Int × Int} {l : List Nat} {k x : Nat} (h : l[k]? = some x) : nextG P (l.drop k) =
    if rgB x = true then plainL P (regL (l.drop k)) (offL (l.drop k))
    else if x = 91 then (0, ⟨5, 0, 0, []⟩, l.drop (k + 1))
    else if x = 93 then (0, ⟨6, 0, 0, []⟩, l.drop (k + 1))
    else if x = 47 then limL 2 ((nmL [] (regL (l.drop (k + 1)))).map fun t => (t, offL (l.drop (k + 1))))
    else if x = 40 then limL 3 (strL 1 [] (l.drop (k + 1)))
    else if x = 60 then (if hd (l.drop (k + 1)) = 60 then (0, ⟨7, 0, 0, []⟩, l.drop (k + 2)) else limL 3 (hxL (l.drop (k + 1))))
    else if x = 62 then (if hd (l.drop (k + 1)) = 62 then (0, ⟨8, 0, 0, []⟩, l.drop (k + 2)) else errN 4)
    else errN 4 := by
  have hk := (List.getElem?_eq_some_iff.1 h).1
  unfold nextG
  rw [if_neg (by rw [List.length_drop]; omega), hd_at h, List.drop_drop, List.drop_drop]
theorem hd_is {l : List Nat} {k x : Nat} (hx : x ≠ 0) : hd (l.drop k) = x ↔ l[k]? = some x := by
  constructor
  · intro h
    cases hy : l[k]? with
    | none => rw [hd_none (by simpa using hy)] at h; exact absurd h.symm hx
    | some y => rw [hd_at hy] at h; rw [h]
  · exact hd_at
theorem maxLen_fr {w w' : World} {R : Nat} {T : TypeId} {cs : Array Value} (h : MaxLen w) (f : FrR R w w') (hR : Whole w R T cs) (h0 : ∀ m, cs[0]? ≠ some (.int .i64 m)) : MaxLen w' := by
  obtain ⟨m, h⟩ := h
  have hne : 0 ≠ R := by
    intro e
    subst e
    rw [hR.reads] at h
    exact h0 m h
  have hlt : 0 < w.heap.size := by
    apply Nat.lt_of_not_le
    intro hle
    have hle' : w.heap.size ≤ (⟨0, 0, none⟩ : Addr).block := hle
    unfold World.cell? at h
    rw [Array.getElem?_eq_none hle'] at h
    simp at h
  refine ⟨m, ?_⟩
  unfold World.cell? at h ⊢
  rw [show w'.heap[(⟨0, 0, none⟩ : Addr).block]? = w.heap[(⟨0, 0, none⟩ : Addr).block]? from f.block _ hlt hne]
  exact h
theorem nx_end {x : NX} {w wr : World} {R : Nat} {A : Option Addr} {n c k0 k : Nat} {v p q r s : Value} {acc bs : List Nat} {z1 : Int} {t : TokV} (h1 : x.1 = z1) (h2 : x.2.1 = t) (h : StS w wr R A n c bs k v acc) (h0 : x.1 = 0 → x.2.2 = bs.drop k ∧ k0 ≤ k) :
    TxtSaid x R A n c bs k0 w (.returned (.tuple #[tokV t, .int .i64 z1])) ((((wr.setCell ⟨w.heap.size, 0, none⟩ p).setCell ⟨w.heap.size, 1, none⟩ q).setCell ⟨w.heap.size, 2, none⟩ r).setCell ⟨w.heap.size, 3, none⟩ s) :=
  ⟨k, ⟨by rw [h1, h2], tok_rdr h, tok_fr h⟩, h0⟩
theorem lim_rest {kd : Int} {o : Option (List Nat)} {r : List Nat} (h : (limL kd (o.map fun t => (t, r))).1 = 0) : (limL kd (o.map fun t => (t, r))).2.2 = r := by
  cases o with
  | none => exact absurd (show (4 : Int) = 0 from h) (by decide)
  | some t =>
    unfold limL at h ⊢
    simp only [Option.map_some] at h ⊢
    split
    · rename_i hl
      rw [if_pos hl] at h
      exact absurd h (by decide)
    · rfl
theorem plain_rest {P : List Nat → Int × Int × Int} {a r : List Nat} (h : (plainL P a r).1 = 0) : (plainL P a r).2.2 = r := by
  have e : plainL P a r = (0, (plainL P a r).2.1, (plainL P a r).2.2) := by
    conv => lhs; rw [show plainL P a r = ((plainL P a r).1, (plainL P a r).2.1, (plainL P a r).2.2) from rfl, h]
  exact (plain_on e).1
set_option maxRecDepth 100000 in
set_option maxHeartbeats 16000000 in
theorem next_any (R : Nat) (A : Option Addr) (n c : Nat) (bs : List Nat) (k0 : Nat) (w : World) (h : Rdr w R A n c bs k0) (hm : MaxLen w) :
    Calls Tryz.prog 11 #[.pointer (some ⟨R, 0, none⟩)] w (TxtSaid (nextL PN (bs.drop k0)) R A n c bs k0 w) := by
  have hsm := h.small
  have HN := Lib.hid h.len
  have H0 := Lib.hid (StS.first h)
  have HBY := Lib.hid h.bytes.byte
  have HM : Hid (∀ w' v acc k', StS w w' R A n c bs k' v acc → MaxLen w') := Lib.hid (fun w' v acc k' hs => maxLen_fr hm hs.fr h.box (fun m => by simp))
  clear h hm
  go_enter Tryz.func11, Tryz.ntmps11
  go_wp2_with fail
  refine (gap_any R A n c bs k0 _ H0.out.rdr).mono ?_
  rintro e w1 ⟨k, ⟨rfl, hr, hf⟩, hgap, hkk⟩
  have HS := Lib.hid (H0.out.moved hr hf)
  have HG := Lib.hid (show nextL PN (bs.drop k0) = nextG PN (bs.drop k) by unfold nextL; rw [hgap])
  clear hr hf hgap H0
  by_cases hk : k < n
  · go_wp2_with fail
    refine (more_t HS.out.rdr hk).mono ?_
    rintro e w2 ⟨rfl, j, hj⟩
    have HS := Lib.hid (show StS w w2 R A n c bs k (.slice none 0 0) [] by rw [hj]; exact HS.out.draw j)
    clear hj
    go_wp2_with fail
    obtain ⟨x, hx⟩ : ∃ x, bs[k]? = some x := ⟨_, List.getElem?_eq_getElem (by rw [HN.out]; exact hk)⟩
    have hx2 := HBY.out x (List.mem_of_getElem? hx)
    obtain ⟨B, o, y, rfl, hBR, hB, hc, hy, -⟩ := HS.out.rdr.at_ hk
    obtain rfl : x = y := by rw [hx] at hy; injection hy
    obtain ⟨c0, c1, c2, hRl⟩ := HS.out.rdr.cells
    have hcap := HS.out.rdr.bytes.cap
    have htop := HS.out.rdr.bytes.top
    have i0 : (0 : Int) ≤ (k : Int) := by omega
    have i1 : (k : Int) < (n : Int) := by omega
    have HX := Lib.hid hx
    have HK := Lib.hid hk
    have HT := Lib.hid (show nextL PN (bs.drop k0) = _ from HG.out.trans (nextG_at hx))
    have rd := HS.out.res.reads
    have ft := HS.out.res.thawed
    have lS := HS.out.res.lt
    clear hx hy hk
    cases hrg : rgB x
    · have HR := Lib.hid hrg
      have HT := Lib.hid (HT.out.trans (if_neg (by rw [hrg]; decide)))
      clear hrg
      by_cases e91 : x = 91
      · have t91 : ((x : Int) == 91) = true := by simp; omega
        have HE := Lib.hid (HT.out.trans (if_pos e91))
        clear e91
        go_quiet ((go_at_call 30; exact quiet_same (by have := isRegular_any x; rw [HR.out] at this; exact this _)))
        go_wp2_with fail
        refine (take_any R _ n c bs k x _ (HS.out.draw _).rdr HX.out).mono ?_
        rintro e w3 ⟨rfl, hr, hf⟩
        have HS1 := Lib.hid ((HS.out.draw _).moved hr hf)
        clear hr hf c0 c1 c2 hRl hc rd ft lS
        have rd := HS1.out.res.reads
        have ft := HS1.out.res.thawed
        have lS := HS1.out.res.lt
        go_wp2_with fail
        refine ret_tok (t := ⟨5, 0, 0, []⟩) (x := .int .i64 0) (g := w.heap.size) (tok_set HS1.out.res) (fun V hV => by have rv := hV.reads; simp [results, Tryz.results11, go_sem, rv, tokV, strB]) rfl ?_
        rw [HE.out]
        exact nx_end rfl rfl HS1.out (fun _ => ⟨rfl, by omega⟩)
      have t91 : ((x : Int) == 91) = false := by simp; omega
      have HT := Lib.hid (HT.out.trans (if_neg e91))
      by_cases e93 : x = 93
      · have t93 : ((x : Int) == 93) = true := by simp; omega
        have HE := Lib.hid (HT.out.trans (if_pos e93))
        clear e93
        go_quiet ((go_at_call 30; exact quiet_same (by have := isRegular_any x; rw [HR.out] at this; exact this _)))
        go_wp2_with fail
        refine (take_any R _ n c bs k x _ (HS.out.draw _).rdr HX.out).mono ?_
        rintro e w3 ⟨rfl, hr, hf⟩
        have HS1 := Lib.hid ((HS.out.draw _).moved hr hf)
        clear hr hf c0 c1 c2 hRl hc rd ft lS
        have rd := HS1.out.res.reads
        have ft := HS1.out.res.thawed
        have lS := HS1.out.res.lt
        go_wp2_with fail
        refine ret_tok (t := ⟨6, 0, 0, []⟩) (x := .int .i64 0) (g := w.heap.size) (tok_set HS1.out.res) (fun V hV => by have rv := hV.reads; simp [results, Tryz.results11, go_sem, rv, tokV, strB]) rfl ?_
        rw [HE.out]
        exact nx_end rfl rfl HS1.out (fun _ => ⟨rfl, by omega⟩)
      have t93 : ((x : Int) == 93) = false := by simp; omega
      have HT := Lib.hid (HT.out.trans (if_neg e93))
      by_cases e47 : x = 47
      · have t47 : ((x : Int) == 47) = true := by simp; omega
        have HE := Lib.hid (HT.out.trans (if_pos e47))
        clear e47
        go_quiet ((go_at_call 30; exact quiet_same (by have := isRegular_any x; rw [HR.out] at this; exact this _)))
        go_wp2_with fail
        refine (take_any R _ n c bs k x _ (HS.out.draw _).rdr HX.out).mono ?_
        rintro e w3 ⟨rfl, hr, hf⟩
        have HS1 := Lib.hid ((HS.out.draw _).moved hr hf)
        clear hr hf c0 c1 c2 hRl hc rd ft lS
        have rd := HS1.out.res.reads
        have ft := HS1.out.res.thawed
        have lS := HS1.out.res.lt
        go_wp2_with fail
        refine (regulars_any R _ n c bs (k + 1) _ HS1.out.rdr).mono ?_
        rintro e w4 ⟨k2, A2, n2, c2', ⟨rfl, hr, hf⟩, hby, hoff, hk2⟩
        have HS2 := Lib.hid (HS1.out.moved hr hf)
        have HBB := Lib.hid hby
        have HOF := Lib.hid hoff
        have hn2 : n2 ≤ 1000000000 := by
          have h1 := hby.len
          have h2 : (regL (bs.drop (k + 1))).length ≤ (bs.drop (k + 1)).length := by unfold regL; exact (List.takeWhile_sublist _).length_le
          rw [List.length_drop, HN.out] at h2
          omega
        clear hr hf hby hoff rd ft lS
        go_wp2_with fail
        refine (name_any A2 n2 c2' (regL (bs.drop (k + 1))) _ HBB.out hn2).mono ?_
        rintro e w5 ⟨rfl, hb⟩
        have HS3 := Lib.hid (HS2.out.moved (HS2.out.rdr.here hb) ((Fr.of_below hb).more (fun j hj hj2 => absurd hj (by omega))))
        clear hb
        have rd := HS3.out.res.reads
        have ft := HS3.out.res.thawed
        have lS := HS3.out.res.lt
        obtain ⟨T1, T2⟩ := limL_T 2 ((nmL [] (regL (bs.drop (k + 1)))).map fun t => (t, offL (bs.drop (k + 1))))
        rw [Option.map_map, show ((fun x => x.1) ∘ fun t => (t, offL (bs.drop (k + 1))) : List Nat → List Nat) = id from rfl, Option.map_id_fun, id] at T1 T2
        obtain ⟨⟨z1, ⟨kd, zm, zs, zt⟩⟩, hz⟩ : ∃ z, limT 2 (nmL [] (regL (bs.drop (k + 1)))) = z := ⟨_, rfl⟩
        rw [hz] at T1 T2 ⊢
        have HT1 := Lib.hid T1
        have HT2 := Lib.hid T2
        clear T1 T2 hz
        simp only [tokV]
        go_wp2_with fail
        refine ret_tok (t := ⟨kd, zm, zs, zt⟩) (x := .int .i64 z1) (g := w.heap.size) (tok_set HS3.out.res) (fun V hV => by have rv := hV.reads; simp [results, Tryz.results11, go_sem, rv, tokV]) rfl ?_
        rw [HE.out]
        exact nx_end HT1.out HT2.out HS3.out (fun h0 => ⟨by rw [lim_rest h0, HOF.out], by omega⟩)
      have t47 : ((x : Int) == 47) = false := by simp; omega
      have HT := Lib.hid (HT.out.trans (if_neg e47))
      by_cases e40 : x = 40
      · have t40 : ((x : Int) == 40) = true := by simp; omega
        have HE := Lib.hid (HT.out.trans (if_pos e40))
        clear e40
        go_quiet ((go_at_call 30; exact quiet_same (by have := isRegular_any x; rw [HR.out] at this; exact this _)))
        go_wp2_with fail
        refine (take_any R _ n c bs k x _ (HS.out.draw _).rdr HX.out).mono ?_
        rintro e w3 ⟨rfl, hr, hf⟩
        have HS1 := Lib.hid ((HS.out.draw _).moved hr hf)
        clear hr hf c0 c1 c2 hRl hc rd ft lS
        have rd := HS1.out.res.reads
        have ft := HS1.out.res.thawed
        have lS := HS1.out.res.lt
        go_wp2_with fail
        refine (text_any R _ n c bs (k + 1) _ HS1.out.rdr).mono ?_
        rintro e w4 ⟨k2, ⟨rfl, hr, hf⟩, hrest⟩
        have HS2 := Lib.hid (HS1.out.moved hr hf)
        have HRE := Lib.hid hrest
        clear hr hf hrest rd ft lS
        have rd := HS2.out.res.reads
        have ft := HS2.out.res.thawed
        have lS := HS2.out.res.lt
        obtain ⟨⟨z1, ⟨kd, zm, zs, zt⟩, zr⟩, hz⟩ : ∃ z, limL 3 (strL 1 [] (bs.drop (k + 1))) = z := ⟨_, rfl⟩
        rw [hz] at HRE ⊢
        have HZ := Lib.hid hz
        clear hz
        simp only [tokV]
        go_wp2_with fail
        refine ret_tok (t := ⟨kd, zm, zs, zt⟩) (x := .int .i64 z1) (g := w.heap.size) (tok_set HS2.out.res) (fun V hV => by have rv := hV.reads; simp [results, Tryz.results11, go_sem, rv, tokV]) rfl ?_
        rw [HE.out, HZ.out]
        exact nx_end rfl rfl HS2.out (fun h0 => ⟨(HRE.out h0).1, by have := (HRE.out h0).2; omega⟩)
      have t40 : ((x : Int) == 40) = false := by simp; omega
      have HT := Lib.hid (HT.out.trans (if_neg e40))
      by_cases e60 : x = 60
      · have t60 : ((x : Int) == 60) = true := by simp; omega
        by_cases h2 : bs[k + 1]? = some 60
        · have HE := Lib.hid ((HT.out.trans (if_pos e60)).trans (if_pos ((hd_is (by decide)).2 h2)))
          have H2 := Lib.hid h2
          clear e60 h2
          go_quiet ((go_at_call 30; exact quiet_same (by have := isRegular_any x; rw [HR.out] at this; exact this _)))
          go_wp2_with fail
          refine (take_any R _ n c bs k x _ (HS.out.draw _).rdr HX.out).mono ?_
          rintro e w3 ⟨rfl, hr, hf⟩
          have HS1 := Lib.hid ((HS.out.draw _).moved hr hf)
          clear hr hf c0 c1 c2 hRl hc rd ft lS
          have rd := HS1.out.res.reads
          have ft := HS1.out.res.thawed
          have lS := HS1.out.res.lt
          go_wp2_with fail
          refine (skip_yes R _ n c bs (k + 1) 60 _ HS1.out.rdr H2.out).mono ?_
          rintro e w4 ⟨rfl, hr, hf⟩
          have HS2 := Lib.hid (HS1.out.moved hr hf)
          clear hr hf rd ft lS
          have rd := HS2.out.res.reads
          have ft := HS2.out.res.thawed
          have lS := HS2.out.res.lt
          go_wp2_with fail
          refine ret_tok (t := ⟨7, 0, 0, []⟩) (x := .int .i64 0) (g := w.heap.size) (tok_set HS2.out.res) (fun V hV => by have rv := hV.reads; simp [results, Tryz.results11, go_sem, rv, tokV, strB]) rfl ?_
          rw [HE.out]
          exact nx_end rfl rfl HS2.out (fun _ => ⟨rfl, by omega⟩)
        · have HE := Lib.hid ((HT.out.trans (if_pos e60)).trans (if_neg (fun e => h2 ((hd_is (by decide)).1 e))))
          have H2 := Lib.hid h2
          clear e60 h2
          go_quiet ((go_at_call 30; exact quiet_same (by have := isRegular_any x; rw [HR.out] at this; exact this _)))
          go_wp2_with fail
          refine (take_any R _ n c bs k x _ (HS.out.draw _).rdr HX.out).mono ?_
          rintro e w3 ⟨rfl, hr, hf⟩
          have HS1 := Lib.hid ((HS.out.draw _).moved hr hf)
          clear hr hf c0 c1 c2 hRl hc rd ft lS
          have rd := HS1.out.res.reads
          have ft := HS1.out.res.thawed
          have lS := HS1.out.res.lt
          go_wp2_with fail
          refine (skip_no R _ n c bs (k + 1) 60 _ HS1.out.rdr H2.out).mono ?_
          rintro e w4 ⟨rfl, hr, hf⟩
          have HS2 := Lib.hid (HS1.out.moved hr hf)
          clear hr hf rd ft lS
          have rd := HS2.out.res.reads
          have ft := HS2.out.res.thawed
          have lS := HS2.out.res.lt
          go_wp2_with fail
          refine (hexText_any R _ n c bs (k + 1) _ HS2.out.rdr (by omega)).mono ?_
          rintro e w5 ⟨k2, ⟨rfl, hr, hf⟩, hrest⟩
          have HS3 := Lib.hid (HS2.out.moved hr hf)
          have HRE := Lib.hid hrest
          clear hr hf hrest rd ft lS
          have rd := HS3.out.res.reads
          have ft := HS3.out.res.thawed
          have lS := HS3.out.res.lt
          obtain ⟨⟨z1, ⟨kd, zm, zs, zt⟩, zr⟩, hz⟩ : ∃ z, limL 3 (hxL (bs.drop (k + 1))) = z := ⟨_, rfl⟩
          rw [hz] at HRE ⊢
          have HZ := Lib.hid hz
          clear hz
          simp only [tokV]
          go_wp2_with fail
          refine ret_tok (t := ⟨kd, zm, zs, zt⟩) (x := .int .i64 z1) (g := w.heap.size) (tok_set HS3.out.res) (fun V hV => by have rv := hV.reads; simp [results, Tryz.results11, go_sem, rv, tokV]) rfl ?_
          rw [HE.out, HZ.out]
          exact nx_end rfl rfl HS3.out (fun h0 => ⟨(HRE.out h0).1, by have := (HRE.out h0).2; omega⟩)
      have t60 : ((x : Int) == 60) = false := by simp; omega
      have HT := Lib.hid (HT.out.trans (if_neg e60))
      by_cases e62 : x = 62
      · have t62 : ((x : Int) == 62) = true := by simp; omega
        by_cases h2 : bs[k + 1]? = some 62
        · have HE := Lib.hid ((HT.out.trans (if_pos e62)).trans (if_pos ((hd_is (by decide)).2 h2)))
          have H2 := Lib.hid h2
          clear e62 h2
          go_quiet ((go_at_call 30; exact quiet_same (by have := isRegular_any x; rw [HR.out] at this; exact this _)))
          go_wp2_with fail
          refine (take_any R _ n c bs k x _ (HS.out.draw _).rdr HX.out).mono ?_
          rintro e w3 ⟨rfl, hr, hf⟩
          have HS1 := Lib.hid ((HS.out.draw _).moved hr hf)
          clear hr hf c0 c1 c2 hRl hc rd ft lS
          have rd := HS1.out.res.reads
          have ft := HS1.out.res.thawed
          have lS := HS1.out.res.lt
          go_wp2_with fail
          refine (skip_yes R _ n c bs (k + 1) 62 _ HS1.out.rdr H2.out).mono ?_
          rintro e w4 ⟨rfl, hr, hf⟩
          have HS2 := Lib.hid (HS1.out.moved hr hf)
          clear hr hf rd ft lS
          have rd := HS2.out.res.reads
          have ft := HS2.out.res.thawed
          have lS := HS2.out.res.lt
          go_wp2_with fail
          refine ret_tok (t := ⟨8, 0, 0, []⟩) (x := .int .i64 0) (g := w.heap.size) (tok_set HS2.out.res) (fun V hV => by have rv := hV.reads; simp [results, Tryz.results11, go_sem, rv, tokV, strB]) rfl ?_
          rw [HE.out]
          exact nx_end rfl rfl HS2.out (fun _ => ⟨rfl, by omega⟩)
        · have HE := Lib.hid ((HT.out.trans (if_pos e62)).trans (if_neg (fun e => h2 ((hd_is (by decide)).1 e))))
          have H2 := Lib.hid h2
          clear e62 h2
          go_quiet ((go_at_call 30; exact quiet_same (by have := isRegular_any x; rw [HR.out] at this; exact this _)))
          go_wp2_with fail
          refine (take_any R _ n c bs k x _ (HS.out.draw _).rdr HX.out).mono ?_
          rintro e w3 ⟨rfl, hr, hf⟩
          have HS1 := Lib.hid ((HS.out.draw _).moved hr hf)
          clear hr hf c0 c1 c2 hRl hc rd ft lS
          have rd := HS1.out.res.reads
          have ft := HS1.out.res.thawed
          have lS := HS1.out.res.lt
          go_wp2_with fail
          refine (skip_no R _ n c bs (k + 1) 62 _ HS1.out.rdr H2.out).mono ?_
          rintro e w4 ⟨rfl, hr, hf⟩
          have HS2 := Lib.hid (HS1.out.moved hr hf)
          clear hr hf rd ft lS
          have rd := HS2.out.res.reads
          have ft := HS2.out.res.thawed
          have lS := HS2.out.res.lt
          go_wp2_with fail
          refine ret_tok (t := noTok) (x := .int .i64 4) (g := w.heap.size) (tok_set HS2.out.res) (fun V hV => by have rv := hV.reads; simp [results, Tryz.results11, go_sem, rv, tokV, noTok, strB]) rfl ?_
          rw [HE.out]
          exact nx_end rfl rfl HS2.out (fun h => absurd h (by decide))
      have t62 : ((x : Int) == 62) = false := by simp; omega
      have HT := Lib.hid (HT.out.trans (if_neg e62))
      have HE := HT
      go_quiet ((go_at_call 30; exact quiet_same (by have := isRegular_any x; rw [HR.out] at this; exact this _)))
      go_wp2_with fail
      refine (take_any R _ n c bs k x _ (HS.out.draw _).rdr HX.out).mono ?_
      rintro e w3 ⟨rfl, hr, hf⟩
      have HS1 := Lib.hid ((HS.out.draw _).moved hr hf)
      clear hr hf c0 c1 c2 hRl hc rd ft lS
      have rd := HS1.out.res.reads
      have ft := HS1.out.res.thawed
      have lS := HS1.out.res.lt
      go_wp2_with fail
      refine ret_tok (t := noTok) (x := .int .i64 4) (g := w.heap.size) (tok_set HS1.out.res) (fun V hV => by have rv := hV.reads; simp [results, Tryz.results11, go_sem, rv, tokV, noTok, strB]) rfl ?_
      rw [HE.out]
      exact nx_end rfl rfl HS1.out (fun h => absurd h (by decide))
    · have HR := Lib.hid hrg
      have HE := Lib.hid (HT.out.trans (if_pos hrg))
      clear hrg
      go_quiet ((go_at_call 30; exact quiet_same (by have := isRegular_any x; rw [HR.out] at this; exact this _)))
      go_wp2_with fail
      refine (regulars_any R _ n c bs k _ (HS.out.draw _).rdr).mono ?_
      rintro e w4 ⟨k2, A2, n2, c2', ⟨rfl, hr, hf⟩, hby, hoff, hk2⟩
      have HS2 := Lib.hid ((HS.out.draw _).moved hr hf)
      have HOF := Lib.hid hoff
      have hn2 : (regL (bs.drop k)).length ≤ 1000000000 := by
        have h2 : (regL (bs.drop k)).length ≤ (bs.drop k).length := by unfold regL; exact (List.takeWhile_sublist _).length_le
        rw [List.length_drop, HN.out] at h2
        omega
      have hcv := hby.str
      clear hr hf hby hoff rd ft lS c0 c1 c2 hRl hc
      go_wp2_with fail
      refine (plain_any (regL (bs.drop k)) (offL (bs.drop k)) _ hn2 (HM.out _ _ _ _ HS2.out)).mono ?_
      rintro e w5 ⟨rfl, hb⟩
      have HS3 := Lib.hid (HS2.out.moved (HS2.out.rdr.here hb) ((Fr.of_below hb).more (fun j hj hj2 => absurd hj (by omega))))
      clear hb hcv
      have rd := HS3.out.res.reads
      have ft := HS3.out.res.thawed
      have lS := HS3.out.res.lt
      have HRE := Lib.hid (fun h => (plain_rest (P := PN) (a := regL (bs.drop k)) (r := offL (bs.drop k)) h).trans HOF.out)
      obtain ⟨⟨z1, ⟨kd, zm, zs, zt⟩, zr⟩, hz⟩ : ∃ z, plainL PN (regL (bs.drop k)) (offL (bs.drop k)) = z := ⟨_, rfl⟩
      rw [hz] at HRE ⊢
      have HZ := Lib.hid hz
      clear hz
      simp only [tokV]
      go_wp2_with fail
      refine ret_tok (t := ⟨kd, zm, zs, zt⟩) (x := .int .i64 z1) (g := w.heap.size) (tok_set HS3.out.res) (fun V hV => by have rv := hV.reads; simp [results, Tryz.results11, go_sem, rv, tokV]) rfl ?_
      rw [HE.out, HZ.out]
      exact nx_end rfl rfl HS3.out (fun h0 => ⟨HRE.out h0, by omega⟩)
  · have HK := Lib.hid hk
    have HE := Lib.hid (show nextL PN (bs.drop k0) = (0, noTok, bs.drop k) by rw [HG.out]; unfold nextG; rw [if_pos (by rw [List.length_drop, HN.out]; omega)])
    clear hk
    go_wp2_with fail
    refine (more_f HS.out.rdr HK.out).mono ?_
    rintro e w2 ⟨rfl, j, rfl⟩
    have HS1 := Lib.hid (HS.out.draw j)
    have rd := HS1.out.res.reads
    have ft := HS1.out.res.thawed
    have lS := HS1.out.res.lt
    go_wp2_with fail
    refine ret_tok (t := noTok) (x := .int .i64 0) (g := w.heap.size) (tok_set HS1.out.res) (fun V hV => by have rv := hV.reads; simp [results, Tryz.results11, go_sem, rv, tokV, noTok, strB]) rfl ?_
    rw [HE.out]
    exact nx_end rfl rfl HS1.out (fun _ => ⟨rfl, by omega⟩)
end Go.Proofs.YtdiaijdobglaaaaGreatDoor
