/- font: FontNone, walked. -/
import Derived.Test.YtldhkhaciflmoaaFontS
import Derived.Test.YtldhkhaciflmoaaFontH
import Derived.Test.YtldhkhaciflmoaaLaidGen
namespace Go.Proofs.Ytldhkhaciflmoaa
open Go.RowKit

theorem FB.made (w : World) (wd : Bool) (A : Option Addr) (n c : Nat) (ot : Int) : FB (w.alloc (.cells #[.bool wd, .slice A n c, .int .i64 ot] 24)) w.heap.size wd A n c ot := Whole.made _ _ _
theorem FB.here {w w' : World} {B : Nat} {wd : Bool} {A : Option Addr} {n c : Nat} {ot : Int} (h : FB w B wd A n c ot) (hb : Below w.heap.size w w') : FB w' B wd A n c ot := Whole.here h hb
def codesG (gs : List Gl) : List Int := gs.map (·.code)
theorem codesG_rise {gs : List Gl} (h : Rise gs) : (codesG gs).Pairwise (· < ·) := by
  unfold codesG
  rw [List.pairwise_map, List.pairwise_iff_getElem]
  intro i j hi hj hij
  exact h i j _ _ hij (List.getElem?_eq_getElem hi) (List.getElem?_eq_getElem hj)
theorem hit_own {gs : List Gl} (h : Rise gs) {g : Gl} (hg : g ∈ gs) : hitG gs g.code = some g := by
  obtain ⟨i, hi, rfl⟩ := List.mem_iff_getElem.1 hg
  unfold hitG
  rw [List.find?_eq_some_iff_getElem]
  refine ⟨by simp, i, hi, rfl, fun j hj => ?_⟩
  have := h j i _ _ hj (List.getElem?_eq_getElem (by omega)) (List.getElem?_eq_getElem hi)
  simp
  omega
theorem fm_self : ∀ (l : List Gl) (f : Gl → Option Gl), (∀ g ∈ l, f g = some g) → l.filterMap f = l
  | [], _, _ => rfl
  | g :: r, f, h => by
    rw [List.filterMap_cons, h g (List.mem_cons_self ..)]
    show g :: r.filterMap f = g :: r
    rw [fm_self r f (fun x hx => h x (List.mem_cons_of_mem _ hx))]
theorem cutG_all {wd : Bool} {ot : Int} {gs : List Gl} (h : Rise gs) : cutG wd ot gs (codesG gs) = gs := by
  unfold cutG
  rw [sdl_self (codesG_rise h), codesG, List.filterMap_map]
  have : ∀ g ∈ gs, (pick wd ot gs ∘ Gl.code) g = some g := fun g hg => by
    show pick wd ot gs g.code = some g
    unfold pick findG
    rw [hit_own h hg]
    rfl
  exact fm_self gs _ this
theorem cutG_none {wd : Bool} {ot : Int} {gs : List Gl} : cutG wd ot gs [] = [] := by
  have : sdl [] = [] := List.eq_nil_of_length_eq_zero (Nat.le_zero.1 (sdl_len []))
  unfold cutG
  rw [this]
  rfl
def CutSaid (wd : Bool) (ot : Int) (gs : List Gl) (keep : List Int) (w : World) (e : Ending) (w' : World) : Prop :=
  ∃ wd' A' n' c' E, e = .returned (.tuple #[.agg #[.bool wd', .slice A' n' c', .int .i64 0], .int .i64 E]) ∧ Below w.heap.size w w' ∧
    ((chkB wd ot gs = false ∧ wd' = false ∧ n' = 0 ∧ E = 1) ∨ (chkB wd ot gs = true ∧ wd' = wd ∧ E = 0 ∧ Glyphs w' A' n' c' (cutG wd ot gs keep)))
theorem cut_any (wd : Bool) (A : Option Addr) (n c : Nat) (ot : Int) (gs : List Gl) (A2 : Option Addr) (n2 c2 : Nat) (keep : List Int) (w : World) (h : Glyphs w A n c gs) (h2 : IntsAt w A2 n2 c2 keep) (hn : n ≤ 1000000) (hn2 : n2 ≤ 1000000) :
    Calls Try.prog 19 #[.agg #[.bool wd, .slice A n c, .int .i64 ot], .slice A2 n2 c2] w (CutSaid wd ot gs keep w) := by
  cases hk : chkB wd ot gs with
  | false => exact (cut_bad wd A n c ot gs _ w h hk).mono fun e w' ⟨he, hb⟩ => ⟨false, none, 0, 0, 1, he, hb, .inl ⟨hk, rfl, rfl, rfl⟩⟩
  | true => exact (cut_ok wd A n c ot gs A2 n2 c2 keep w h hk h2 hn hn2).mono fun e w' ⟨A', n', c', he, hg, hb⟩ => ⟨wd, A', n', c', 0, he, hb, .inr ⟨hk, rfl, rfl, hg⟩⟩
set_option maxRecDepth 100000 in
set_option maxHeartbeats 8000000 in
theorem none_law (wd : Bool) (A : Option Addr) (n c : Nat) (ot : Int) (gs : List Gl) (w : World) (h : Glyphs w A n c gs) :
    Calls Try.prog 6 #[.agg #[.bool wd, .slice A n c, .int .i64 ot]] w (True_ w) := by
  have hl := h.len
  subst hl
  have hcap := h.cap
  have htop := h.top
  have H := Lib.hid h
  clear h
  by_cases q0 : 150 < gs.length
  · go_enter Try.func6, Try.ntmps6
    go_wp2
    go_ret
    exact ⟨rfl, (Below.refl _ _).alloc (Nat.le_refl _) _⟩
  have hb0 := ((Below.refl w.heap.size w).alloc (Nat.le_refl _) (.cells #[.bool wd, .slice A gs.length c, .int .i64 ot] 24))
  have H0 := Lib.hid (And.intro hb0 (FB.made w wd A gs.length c ot))
  clear hb0
  obtain ⟨i0, hi, hz0, hz1, hz2⟩ := info_parts infoInt
  go_enter Try.func6, Try.ntmps6
  go_wp2_with fail
  refine (cut_any wd A gs.length c ot gs none 0 0 [] _ (H.out.below H0.out.1) (ints_nil _) (by omega) (by omega)).mono ?_
  rintro e w1 ⟨wd1, A1, n1, c1, E1, rfl, hb, hor1⟩
  have HB1 := Lib.hid (H0.out.1.trans (hb.mono H0.out.1.size))
  have HF1 := Lib.hid (H0.out.2.here hb)
  have HR1 := Lib.hid hor1
  clear hb hor1 H0
  go_wp2_with fail
  obtain ⟨W, hW⟩ : ∃ W, w1.alloc (.cells #[.bool wd1, .slice A1 n1 c1, .int .i64 0] 24) = W := ⟨_, rfl⟩
  have HB2 := Lib.hid (show Below w.heap.size w W by rw [← hW]; exact HB1.out.alloc HB1.out.size _)
  have HF2 := Lib.hid (show FB W w.heap.size wd A gs.length c ot by rw [← hW]; exact HF1.out.here ((Below.refl _ _).alloc (Nat.le_refl _) _))
  have HA2 := Lib.hid (show Whole W w1.heap.size 24 #[.bool wd1, .slice A1 n1 c1, .int .i64 0] by rw [← hW]; exact Whole.made _ _ _)
  have HR2 := Lib.hid (show (chkB wd ot gs = false ∧ wd1 = false ∧ n1 = 0 ∧ E1 = 1) ∨ (chkB wd ot gs = true ∧ wd1 = wd ∧ E1 = 0 ∧ n1 = 0) from by
    rcases HR1.out with h | ⟨h1, h2, h3, h4⟩
    · exact .inl h
    · exact .inr ⟨h1, h2, h3, by have := h4.len; rw [cutG_none] at this; exact this.symm⟩)
  rw [hW]
  clear hW HB1 HF1 HR1
  obtain ⟨Q, hQ⟩ : ∃ Q, w1.heap.size = Q := ⟨_, rfl⟩
  rw [hQ] at HA2 ⊢
  clear hQ
  have lF0 := Whole.lt HF2.out
  go_loopw [5, 6] (fun s5 s6 wx => ∃ k : Nat, k ≤ gs.length ∧ s6 = .int .i64 k ∧ Hid (wx.ownsRow W.heap.size 3 1 s5 k (ivs ((codesG gs).take k)) ∧ Below W.heap.size W wx)) (fun _ s6 _ => gs.length - (intOf s6).toNat)
  case atStart => exact ⟨0, by omega, rfl, Lib.hid ⟨World.ownsRow_nil _ _ _ _, Below.refl _ _⟩⟩
  case round =>
    obtain ⟨k, hk, rfl, hS⟩ := hrel
    obtain ⟨a5, c5, rfl⟩ := own_slice hS.out.1
    have hF := HF2.out.here hS.out.2
    obtain ⟨f0, f1, f2⟩ := hF.cells
    have lF := Whole.lt hF
    by_cases hlt : k < gs.length
    · obtain ⟨R, o, rfl, hR, hc⟩ := (H.out.below (HB2.out.trans (hS.out.2.mono HB2.out.size))).at_ (by omega)
      obtain ⟨g, hg⟩ : ∃ g, gs[k]? = some g := ⟨_, List.getElem?_eq_getElem hlt⟩
      obtain ⟨k0, k1, k2⟩ := hc k g hg
      have htk : (codesG gs).take (k + 1) = (codesG gs).take k ++ [g.code] := by
        rw [List.take_add_one]
        congr 1
        simp [codesG, hg]
      have HT := Lib.hid htk
      have d1 : decide ((k : Int) < (gs.length : Int)) = true := by simp; omega
      clear hg hc htk hF
      go_wp2_with (at_builtin; refine wpList_append_own _ rfl _ _ 25 rfl W.heap.size 3 i0 (.int .i64 0) 1 8 Try.underlying25 hi hz0 hz1 hz2 rfl (by decide) _ _ _ rfl (hS.out.1.alloc _) ⟨_, 0, none⟩ 1 1 [.int .i64 _] rfl rfl (World.news_of_block (t := 3) (fr := (0, 0)) (heap_alloc_new _ _)) ?e2 ?e3 ?e4 ?e5 ?_)
      case e2 => simp [Value.oneCell']
      case e3 => unfold maxLen; omega
      case e4 => omega
      case e5 => have := hS.out.2.size; first | omega | (simp; omega)
      intro v' w5 hown' hgrow _
      have hb5 : Below W.heap.size W w5 := (hS.out.2.alloc hS.out.2.size (.cells #[.int .i64 g.code] 3)).grown hgrow (by have := hS.out.2.size; simp; omega) (fun j e => (hS.out.1.lt j e).1)
      have hown2 : w5.ownsRow W.heap.size 3 1 v' (k + 1) (ivs ((codesG gs).take (k + 1))) := by rw [HT.out, ivs_append]; exact hown'
      have H5 := Lib.hid (And.intro hown2 hb5)
      obtain ⟨a6, c6, rfl⟩ := own_slice hown'
      clear hown' hgrow hb5 hown2
      go_wp2_with fail
      go_roundw
      case rel => exact ⟨k + 1, by omega, by go_num, H5⟩
      case measure => simp [intOf]; omega
    · obtain rfl : k = gs.length := by omega
      have d1 : decide ((gs.length : Int) < (gs.length : Int)) = false := by simp
      have hrow := hS.out.1
      rw [List.take_of_length_le (by simp [codesG])] at hrow
      obtain ⟨A', c', e', hI⟩ := IntsAt.of_own hrow
      injection e' with e1 e2 e3
      subst e1 e3
      have HI := Lib.hid hI
      clear hrow hI hF e2
      go_wp2_with fail
      refine (cut_any wd A gs.length c ot gs _ gs.length _ (codesG gs) _ (H.out.below (HB2.out.trans (hS.out.2.mono HB2.out.size))) HI.out (by omega) (by omega)).mono ?_
      rintro e w6 ⟨wd2, A2, n2, c2, E2, rfl, hb, hor2⟩
      have hbW := hS.out.2.trans (hb.mono hS.out.2.size)
      have HF6 := Lib.hid (HF2.out.here hbW)
      have HA6 := Lib.hid (HA2.out.here hbW)
      have HB6 := Lib.hid (HB2.out.trans (hbW.mono HB2.out.size))
      have HR6 := Lib.hid hor2
      clear f0 f1 f2 lF hb hbW hor2 HI
      obtain ⟨f0, f1, f2⟩ := HF6.out.cells
      have lF := Whole.lt HF6.out
      go_wp2_with fail
      obtain ⟨W6, hW6⟩ : ∃ W, w6.alloc (.cells #[.bool wd2, .slice A2 n2 c2, .int .i64 0] 24) = W := ⟨_, rfl⟩
      have hbW6 : Below w6.heap.size w6 W6 := by rw [← hW6]; exact (Below.refl _ _).alloc (Nat.le_refl _) _
      have HB7 := Lib.hid (HB6.out.trans (hbW6.mono HB6.out.size))
      have HF7 := Lib.hid (HF6.out.here hbW6)
      have HA7 := Lib.hid (HA6.out.here hbW6)
      have HC7 := Lib.hid (show Whole W6 w6.heap.size 24 #[.bool wd2, .slice A2 n2 c2, .int .i64 0] by rw [← hW6]; exact Whole.made _ _ _)
      have HR7 := Lib.hid (show (chkB wd ot gs = false ∧ wd2 = false ∧ n2 = 0 ∧ E2 = 1) ∨ (chkB wd ot gs = true ∧ wd2 = wd ∧ E2 = 0 ∧ n2 = gs.length ∧ Glyphs W6 A2 gs.length c2 gs) from by
        rcases HR6.out with h | ⟨h1, h2, h3, h4⟩
        · exact .inl h
        · rw [cutG_all (rise_chk h1)] at h4
          have hn2 := h4.len
          subst hn2
          exact .inr ⟨h1, h2, h3, rfl, h4.below hbW6⟩)
      obtain ⟨Q6, hQ6⟩ : ∃ Q, w6.heap.size = Q := ⟨_, rfl⟩
      rw [hQ6] at HC7
      rw [hW6, hQ6]
      clear hW6 hQ6 hbW6 HB6 HF6 HA6 HR6 f0 f1 f2 lF
      cases hk : chkB wd ot gs with
      | false =>
        obtain ⟨rfl, rfl, rfl⟩ : wd1 = false ∧ n1 = 0 ∧ E1 = 1 := by
          rcases HR2.out with ⟨_, h⟩ | ⟨h, _⟩
          · exact h
          · rw [hk] at h; cases h
        obtain ⟨rfl, rfl, rfl⟩ : wd2 = false ∧ n2 = 0 ∧ E2 = 1 := by
          rcases HR7.out with ⟨_, h⟩ | ⟨h, _⟩
          · exact h
          · rw [hk] at h; cases h
        have HK := Lib.hid (And.intro hk (chk_f hk))
        clear hk
        refine (check_any wd A gs.length c ot gs _ (H.out.below HB7.out)).mono ?_
        rw [HK.out.2]
        rintro e w7 ⟨rfl, hb⟩
        have HF8 := Lib.hid (HF7.out.here hb)
        have HB8 := Lib.hid (HB7.out.trans (hb.mono HB7.out.size))
        clear hb
        obtain ⟨f0, f1, f2⟩ := HF8.out.cells
        have lF := Whole.lt HF8.out
        go_wp2_with fail
        refine (codes_bad wd A gs.length c ot gs _ _ (H.out.below HB8.out) HK.out.1).mono ?_
        rintro e w8 ⟨rfl, hb⟩
        have HF9 := Lib.hid (HF8.out.here hb)
        have HB9 := Lib.hid (HB8.out.trans (hb.mono HB8.out.size))
        clear hb f0 f1 f2 lF
        obtain ⟨f0, f1, f2⟩ := HF9.out.cells
        have lF := Whole.lt HF9.out
        go_wp2_with fail
        refine (bytes_bad wd A gs.length c ot gs none 0 0 [] _ (H.out.below HB9.out) (ints_nil _) (fun h => by rw [HK.out.1] at h; cases h.1)).mono ?_
        rintro e w9 ⟨rfl, hb⟩
        have HB10 := Lib.hid (HB9.out.trans (hb.mono HB9.out.size))
        clear hb f0 f1 f2 lF
        go_wp2_with fail
        refine (awake_any _).mono ?_
        rintro e w10 ⟨rfl, hb⟩
        have HB11 := Lib.hid (HB10.out.trans (hb.mono HB10.out.size))
        clear hb
        go_wp2_with fail
        go_ret
        exact ⟨rfl, HB11.out⟩
      | true =>
        obtain ⟨rfl, rfl, rfl⟩ : wd1 = wd ∧ E1 = 0 ∧ n1 = 0 := by
          rcases HR2.out with ⟨h, _⟩ | ⟨_, h⟩
          · rw [hk] at h; cases h
          · exact h
        obtain ⟨rfl, rfl, rfl, hgl⟩ : wd2 = wd1 ∧ E2 = 0 ∧ n2 = gs.length ∧ Glyphs W6 A2 gs.length c2 gs := by
          rcases HR7.out with ⟨h, _⟩ | ⟨_, h⟩
          · rw [hk] at h; cases h
          · exact h
        have HK := Lib.hid (chk_t hk)
        have HG7 := Lib.hid hgl
        have hcap2 := hgl.cap
        have htop2 := hgl.top
        clear hk hgl HR7 HR2
        refine (check_any _ A gs.length c ot gs _ (H.out.below HB7.out)).mono ?_
        rw [HK.out]
        rintro e w7 ⟨rfl, hb⟩
        have H8 := Lib.hid (And.intro (HF7.out.here hb) (And.intro (HA7.out.here hb) (And.intro (HC7.out.here hb) (And.intro (HG7.out.below hb) (HB7.out.trans (hb.mono HB7.out.size))))))
        clear hb HF7 HA7 HC7 HG7 HB7
        go_wp2_with fail
        go_loopw [13] (fun s13 wx => ∃ k : Nat, k ≤ gs.length ∧ s13 = .int .i64 k ∧ Hid (Below w7.heap.size w7 wx)) (fun s13 _ => gs.length - (intOf s13).toNat)
        case atStart => exact ⟨0, by omega, rfl, Lib.hid (Below.refl _ _)⟩
        case round =>
          obtain ⟨k, hk, rfl, hS2⟩ := hrel
          obtain ⟨f0, f1, f2⟩ := (H8.out.1.here hS2.out).cells
          have lF := Whole.lt (H8.out.1.here hS2.out)
          have rdB := (H8.out.2.2.1.here hS2.out).reads
          have lB := (H8.out.2.2.1.here hS2.out).lt
          by_cases hlt : k < gs.length
          · obtain ⟨g, hg⟩ : ∃ g, gs[k]? = some g := ⟨_, List.getElem?_eq_getElem hlt⟩
            obtain ⟨R1, o1, e1, hR1, hc1⟩ := (H.out.below (H8.out.2.2.2.2.trans (hS2.out.mono H8.out.2.2.2.2.size))).at_ (by omega)
            obtain ⟨R2, o2, e2, hR2, hc2⟩ := (H8.out.2.2.2.1.below hS2.out).at_ (by omega)
            obtain ⟨k0, k1, k2⟩ := hc1 k g hg
            obtain ⟨m0, m1, m2⟩ := hc2 k g hg
            have d2 : decide ((k : Int) < (gs.length : Int)) = true := by simp; omega
            have d3 : decide (k < gs.length) = true := by simp; omega
            have hk0 : (0 : Int) ≤ (k : Int) := by omega
            have hk1 : (k : Int) < (gs.length : Int) := by omega
            clear hg hc1 hc2
            subst e1 e2
            go_wp2_with fail
            go_quiet (fail)
            all_goals
              go_wp2_with fail
              go_roundw
              case rel => exact ⟨k + 1, by omega, by go_num, Lib.hid (below_drewN hS2.out _)⟩
              case measure => simp [intOf]; omega
          · have d2 : decide ((k : Int) < (gs.length : Int)) = false := by simp; omega
            have d3 : decide (k < gs.length) = false := by simp; omega
            go_wp2_with fail
            refine (awake_any _).mono ?_
            rintro e w8 ⟨rfl, hb⟩
            have hb2 := hS2.out.trans (hb.mono hS2.out.size)
            clear f0 f1 f2 lF rdB lB
            obtain ⟨f0, f1, f2⟩ := (H8.out.1.here hb2).cells
            have lF := Whole.lt (H8.out.1.here hb2)
            have rdB := (H8.out.2.2.1.here hb2).reads
            have lB := (H8.out.2.2.1.here hb2).lt
            have rdA := (H8.out.2.1.here hb2).reads
            have lA := (H8.out.2.1.here hb2).lt
            have HE := Lib.hid (H8.out.2.2.2.2.trans (hb2.mono H8.out.2.2.2.2.size))
            clear hb hb2
            go_wp2_with fail
            go_ret
            exact ⟨rfl, HE.out⟩
end Go.Proofs.Ytldhkhaciflmoaa
