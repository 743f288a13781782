/- font: Means, of every font and codes. -/
import Derived.Test.YtldhkhaciflmoaaFontDi
import Derived.Test.YtldhkhaciflmoaaFontU
import Derived.Lib.AppendStr
namespace Go.Proofs.Ytldhkhaciflmoaa
open Go.RowKit

/-- What codes mean. -/
def meanU (ot : Int) (gs : List Gl) : List Int → Option (List Nat)
  | [] => some []
  | x :: l => match textU (findG ot gs x).text.data.toList with
    | none => none
    | some o => (meanU ot gs l).map (o ++ ·)
def restM (ot : Int) (gs : List Gl) (acc : List Nat) (l : List Int) : Option (List Nat) := (meanU ot gs l).map (acc ++ ·)
theorem restM_none {ot : Int} {gs : List Gl} {acc : List Nat} {l : List Int} {k : Nat} {x : Int} (hx : l[k]? = some x) (h : textU (findG ot gs x).text.data.toList = none) : restM ot gs acc (l.drop k) = none := by
  obtain ⟨hi, e⟩ := List.getElem?_eq_some_iff.1 hx
  rw [List.drop_eq_getElem_cons hi, e]
  unfold restM meanU
  rw [h]
  rfl
theorem restM_some {ot : Int} {gs : List Gl} {acc o : List Nat} {l : List Int} {k : Nat} {x : Int} (hx : l[k]? = some x) (h : textU (findG ot gs x).text.data.toList = some o) : restM ot gs acc (l.drop k) = restM ot gs (acc ++ o) (l.drop (k + 1)) := by
  obtain ⟨hi, e⟩ := List.getElem?_eq_some_iff.1 hx
  rw [List.drop_eq_getElem_cons hi, e]
  unfold restM
  rw [meanU, h]
  exact map_app
theorem restM_end {ot : Int} {gs : List Gl} {acc : List Nat} {l : List Int} : restM ot gs acc (l.drop l.length) = some acc := by
  rw [List.drop_length]
  simp [restM, meanU]
theorem restM_start {ot : Int} {gs : List Gl} {l : List Int} : restM ot gs [] l = meanU ot gs l := by
  unfold restM
  simp
theorem find_small {wd : Bool} {ot : Int} {gs : List Gl} {x : Int} (h : chkB wd ot gs = true) : (findG ot gs x).text.size ≤ 16 := by
  unfold findG
  cases hh : hitG gs x with
  | none => exact Nat.zero_le 16
  | some g =>
    obtain ⟨-, hg⟩ := hit_code hh
    obtain ⟨-, -, ht⟩ := (chk_parts h).2 g hg
    show g.text.size ≤ 16
    by_cases hz : g.text.size = 0
    · omega
    · have : textB g.text = true := by simpa [hz] using ht
      unfold textB at this
      rw [decide_eq_true_iff] at this
      exact this.2.1
/-- What Means answers: the text, the error. -/
def meansS (wd : Bool) (ot : Int) (gs : List Gl) (l : List Int) : ByteArray := if chkC wd ot gs l = 0 then (match meanU ot gs l with | some o => strB o | none => ⟨#[]⟩) else ⟨#[]⟩
def meansE (wd : Bool) (ot : Int) (gs : List Gl) (l : List Int) : Int := if chkC wd ot gs l = 0 then (match meanU ot gs l with | some _ => 0 | none => 4) else 1
def MeansSaid (wd : Bool) (ot : Int) (gs : List Gl) (l : List Int) (w : World) (e : Ending) (w' : World) : Prop := e = .returned (.tuple #[.string (meansS wd ot gs l), .int .i64 (meansE wd ot gs l)]) ∧ Below w.heap.size w w'
section
variable {wd : Bool} {ot : Int} {gs : List Gl} {l : List Int} {w w' : World}
theorem means_bad (h : chkC wd ot gs l ≠ 0) (hb : Below w.heap.size w w') : MeansSaid wd ot gs l w (.returned (.tuple #[.string ⟨#[]⟩, .int .i64 1])) w' := by
  unfold MeansSaid meansS meansE
  rw [if_neg h, if_neg h]
  exact ⟨rfl, hb⟩
theorem means_none (h : chkC wd ot gs l = 0) (hm : meanU ot gs l = none) (hb : Below w.heap.size w w') : MeansSaid wd ot gs l w (.returned (.tuple #[.string ⟨#[]⟩, .int .i64 4])) w' := by
  unfold MeansSaid meansS meansE
  rw [if_pos h, if_pos h, hm]
  exact ⟨rfl, hb⟩
theorem means_some {o : List Nat} (h : chkC wd ot gs l = 0) (hm : meanU ot gs l = some o) (hb : Below w.heap.size w w') : MeansSaid wd ot gs l w (.returned (.tuple #[.string (strB o), .int .i64 0])) w' := by
  unfold MeansSaid meansS meansE
  rw [if_pos h, if_pos h, hm]
  exact ⟨rfl, hb⟩
end
/-- What Text answers, in two cases. -/
theorem text_cases (s : ByteArray) : (textU s.data.toList = none ∧ textS s = ⟨#[]⟩ ∧ textE s = 4) ∨ ∃ o, textU s.data.toList = some o ∧ textS s = strB o ∧ textE s = 0 ∧ o.length ≤ 2 * s.size ∧ ∀ b ∈ o, b < 256 := by
  cases h : textU s.data.toList with
  | none => exact .inl ⟨rfl, (textS_none h).1, (textS_none h).2⟩
  | some o =>
    obtain ⟨h1, h2⟩ := textU_most _ _ _ (Nat.le_refl _) h
    rw [list_size] at h1
    exact .inr ⟨o, rfl, (textS_some h).1, (textS_some h).2, h1, h2⟩
theorem strCells_of {o : List Nat} (h : ∀ b ∈ o, b < 256) : Lib.strCells (strB o) = bvs o := by
  show (o.map UInt8.ofNat).map (fun b : UInt8 => Value.int .u8 (b.toNat : Int)) = bvs o
  unfold bvs
  rw [List.map_map]
  apply List.map_congr_left
  intro b hb
  have := h b hb
  simp only [Function.comp_apply, UInt8.toNat_ofNat']
  rw [Nat.mod_eq_of_lt (by omega)]
theorem app_keeps2 {w wr w3 : World} {v : Value} {n : Nat} {xs : List Value} {T : TypeId} {cs : Array Value} (hown : wr.ownsRow (w.heap.size + 1) 5 1 v n xs) (hb : Below w.heap.size w wr) (hf : Whole wr w.heap.size T cs) (hgrow : wr.grownBy w3 v.ownBlock) :
    Below w.heap.size w w3 ∧ Whole w3 w.heap.size T cs :=
  ⟨hb.grown hgrow hb.size (fun j e => by have := (own_lt hown e).1; omega), hf.kept hgrow (fun e => by have := (own_lt hown e.symm).1; omega)⟩
set_option maxRecDepth 100000 in
set_option maxHeartbeats 4000000 in
theorem means_any (wd : Bool) (A : Option Addr) (n c : Nat) (ot : Int) (gs : List Gl) (A2 : Option Addr) (n2 c2 : Nat) (l : List Int) (w : World) (h : Glyphs w A n c gs) (h2 : IntsAt w A2 n2 c2 l) (hn : n ≤ 1000000) (hn2 : n2 ≤ 1000000) :
    Calls Try.prog 11 #[.agg #[.bool wd, .slice A n c, .int .i64 ot], .slice A2 n2 c2] w (MeansSaid wd ot gs l w) := by
  obtain ⟨i0, hi, hz0, hz1, hz2⟩ := info_parts info8
  have hl2 := h2.len
  subst hl2
  have hcap := h2.cap
  have htop := h2.top
  have hb0 := ((Below.refl w.heap.size w).alloc (Nat.le_refl _) (.cells #[.bool wd, .slice A n c, .int .i64 ot] 24))
  have H := Lib.hid (And.intro (h.below hb0) (And.intro (h2.below hb0) (And.intro hb0 (FB.made w wd A n c ot))))
  have HG := Lib.hid h
  have H2 := Lib.hid h2
  clear h h2 hb0
  by_cases hk : chkC wd ot gs l = 0
  · have HK := Lib.hid hk
    have HC := Lib.hid (chkC_zero.1 hk)
    have HR := Lib.hid (rise_chk HC.out.1)
    clear hk
    go_enter Try.func11, Try.ntmps11
    go_wp2_with fail
    refine (checkCodes_any _ _ _ _ _ gs _ _ _ l _ H.out.1 H.out.2.1).mono ?_
    rw [HK.out]
    rintro e w1 ⟨rfl, hb⟩
    have H1 := Lib.hid (And.intro (H.out.2.2.2.here hb) (H.out.2.2.1.trans (hb.mono H.out.2.2.1.size)))
    clear hb
    go_wp2_with fail
    go_loopw [7, 22] (fun v i wr => ∃ (k : Nat) (acc : List Nat), k ≤ l.length ∧ i = .int .i64 k ∧ acc.length ≤ 32 * k ∧ Hid (wr.ownsRow (w.heap.size + 1) 5 1 v acc.length (bvs acc)) ∧ Hid (meanU ot gs l = restM ot gs acc (l.drop k)) ∧ Hid (∀ b ∈ acc, b < 256) ∧ Hid (FB wr w.heap.size wd A n c ot ∧ Below w.heap.size w wr)) (fun _ i _ => l.length - (intOf i).toNat)
    case atStart => exact ⟨0, [], by omega, rfl, by simp, Lib.hid (by simpa [bvs] using World.ownsRow_nil _ _ _ _), Lib.hid restM_start.symm, Lib.hid (fun b hb => by simp at hb), H1⟩
    case round =>
      obtain ⟨k, acc, hk, rfl, hal, HO, HM, HB, hS⟩ := hrel
      obtain ⟨a0, cc, rfl⟩ := own_slice HO.out
      obtain ⟨f0, f1, f2⟩ := hS.out.1.cells
      have lF := Whole.lt hS.out.1
      by_cases hlt : k < l.length
      · obtain ⟨x, hx⟩ : ∃ x, l[k]? = some x := ⟨_, List.getElem?_eq_getElem hlt⟩
        obtain ⟨R, o, rfl, hR, hc0⟩ := (H2.out.below hS.out.2).at_ (by omega)
        have g0 := hc0 k x hx
        clear hc0
        have HX := Lib.hid hx
        have hsm := find_small (x := x) HC.out.1
        clear hx
        go_wp2_with fail
        refine (search_any wd A n c ot gs x _ (HG.out.below hS.out.2) HR.out hn).mono ?_
        rintro e w2 ⟨rfl, hb⟩
        have H3 := Lib.hid (And.intro (hS.out.1.here hb) (hS.out.2.trans (hb.mono hS.out.2.size)))
        have HO3 := Lib.hid (own_frame HO.out (Fr.of_below hb) (fun g e => by have := (own_lt HO.out e).2.1; omega))
        clear hb f0 f1 f2 lF g0
        go_wp2_with fail
        refine (text_any (findG ot gs x).text _ (by omega)).mono ?_
        rintro e w3 ⟨rfl, hb⟩
        have hb3 := below_step H3.out.2 (Nat.le_refl _) hb
        have hF3 := (H3.out.1.old (.cells #[.int .i64 (findG ot gs x).code, .int .i64 (findG ot gs x).width, .string (findG ot gs x).text] 35)).here hb
        have hO3 := own_frame (HO3.out.alloc (.cells #[.int .i64 (findG ot gs x).code, .int .i64 (findG ot gs x).width, .string (findG ot gs x).text] 35)) (Fr.of_below hb) (fun g e => by have := (own_lt HO3.out e).2.1; simp; omega)
        have H4 := Lib.hid (And.intro hF3 hb3)
        have HO4 := Lib.hid hO3
        clear hb hb3 hF3 hO3
        rcases text_cases (findG ot gs x).text with ⟨t1, t2, t3⟩ | ⟨o1, t1, t2, t3, t4, t5⟩
        · have HN := Lib.hid (restM_none (acc := acc) HX.out t1)
          rw [t2, t3]
          clear t1 t2 t3
          go_wp2_with fail
          refine bodyPost_ret (v := .tuple #[.string ⟨#[]⟩, .int .i64 4]) (by simp [results, Try.results11, go_sem]) rfl ?_
          exact means_none HK.out (by rw [HM.out, HN.out]) H4.out.2
        · have HN := Lib.hid (restM_some (acc := acc) HX.out t1)
          have HC5 := Lib.hid (strCells_of t5)
          have HS5 := Lib.hid (strB_size o1)
          have HT5 := Lib.hid t5
          have ho1 : o1.length ≤ 32 := by omega
          have hs1 : (strB o1).size ≤ 32 := by rw [HS5.out]; exact ho1
          rw [t2, t3]
          clear t1 t2 t3 t4 t5
          have hbase : w.heap.size + 1 ≤ w3.heap.size := by have := Whole.lt H4.out.1; omega
          go_wp2_with (at_builtin; go_loud ( refine Lib.wpList_append_own_string _ rfl _ _ 46 9 rfl (w.heap.size + 1) 5 i0 Try.underlying46 Try.underlying9 hi hz0 hz1 hz2 _ _ _ rfl HO4.out (strB o1) rfl ?c1 ?c2 hbase ?_ ))
          case c1 => unfold maxLen; omega
          case c2 => omega
          intro v' w4 hown hgrow _
          rw [HC5.out, ← bvs_append, HS5.out] at hown
          obtain ⟨a1, c1, rfl⟩ := own_slice hown
          obtain ⟨hb4, hf4⟩ := app_keeps2 HO4.out H4.out.2 H4.out.1 hgrow
          have HO5 := Lib.hid hown
          have H5 := Lib.hid (And.intro hf4 hb4)
          clear hown hgrow hb4 hf4
          go_wp2_with fail
          refine ⟨⟨k + 1, acc ++ o1, by omega, by go_num, by rw [List.length_append]; omega, Lib.hid (by rw [List.length_append]; exact HO5.out), Lib.hid (by rw [HM.out, HN.out]), Lib.hid (fun b hb => ?_), H5⟩, by simp [intOf]; omega⟩
          rcases List.mem_append.1 hb with hb | hb
          · exact HB.out b hb
          · exact HT5.out b hb
      · obtain rfl : k = l.length := by omega
        obtain ⟨A', c', R, e, hR1, hR2, hrow⟩ := Row8.of_own HO.out HB.out
        injection e with e1 e2 e3
        subst e1
        subst e3
        have hcv := hrow.bytes.str
        have HE := Lib.hid (show meanU ot gs l = some acc by rw [HM.out, restM_end])
        clear hrow hR1 hR2
        go_wp2_with fail
        refine bodyPost_ret (v := .tuple #[.string (strB acc), .int .i64 0]) (by simp [results, Try.results11, go_sem]) rfl ?_
        exact means_some HK.out HE.out hS.out.2
  · have hk1 : chkC wd ot gs l = 1 := by unfold chkC at hk ⊢; split <;> simp_all
    have HK := Lib.hid hk
    have HK1 := Lib.hid hk1
    clear hk hk1
    go_enter Try.func11, Try.ntmps11
    go_wp2_with fail
    refine (checkCodes_any _ _ _ _ _ gs _ _ _ l _ H.out.1 H.out.2.1).mono ?_
    rw [HK1.out]
    rintro e w1 ⟨rfl, hb⟩
    have H1 := Lib.hid (H.out.2.2.1.trans (hb.mono H.out.2.2.1.size))
    clear hb
    go_wp2_with fail
    refine bodyPost_ret (v := .tuple #[.string ⟨#[]⟩, .int .i64 1]) (by simp [results, Try.results11, go_sem]) rfl ?_
    exact means_bad HK.out H1.out
end Go.Proofs.Ytldhkhaciflmoaa
