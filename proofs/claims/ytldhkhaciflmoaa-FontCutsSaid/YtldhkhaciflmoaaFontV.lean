/- font: FontKeeps, walked. -/
import Derived.Test.YtldhkhaciflmoaaFontU
import Derived.Test.YtldhkhaciflmoaaRegionS
import Derived.Deep.CutRange
namespace Go.Proofs.Ytldhkhaciflmoaa
open Go.RowKit

theorem undrw {w w' : World} (h : Below w.drew.heap.size w.drew w') : Below w.heap.size w w' := (Below.refl _ _).drew.trans h
/-- Six cells of two blocks. -/
theorem FQ.later {V v : World} {P Q : Nat} {x0 x1 x2 y0 y1 y2 : Value} (h : (V.cell? ⟨P, 0, none⟩ = some x0 ∧ V.cell? ⟨P, 1, none⟩ = some x1 ∧ V.cell? ⟨P, 2, none⟩ = some x2) ∧ (V.cell? ⟨Q, 0, none⟩ = some y0 ∧ V.cell? ⟨Q, 1, none⟩ = some y1 ∧ V.cell? ⟨Q, 2, none⟩ = some y2)) (hb : Below V.heap.size V v) :
    (v.cell? ⟨P, 0, none⟩ = some x0 ∧ v.cell? ⟨P, 1, none⟩ = some x1 ∧ v.cell? ⟨P, 2, none⟩ = some x2) ∧ (v.cell? ⟨Q, 0, none⟩ = some y0 ∧ v.cell? ⟨Q, 1, none⟩ = some y1 ∧ v.cell? ⟨Q, 2, none⟩ = some y2) := by
  have key : ∀ (B o : Nat) (x : Value), V.cell? ⟨B, o, none⟩ = some x → v.cell? ⟨B, o, none⟩ = some x := fun B o x hx => (hb.cell (p := ⟨B, o, none⟩) (World.block_lt_of_cell? _ _ hx)).trans hx
  exact ⟨⟨key _ _ _ h.1.1, key _ _ _ h.1.2.1, key _ _ _ h.1.2.2⟩, ⟨key _ _ _ h.2.1, key _ _ _ h.2.2.1, key _ _ _ h.2.2.2⟩⟩
/-- A font in a block of its own, with its glyphs. -/
structure FG (W : World) (Q : Nat) (wd : Bool) (A : Option Addr) (n c : Nat) (ot : Int) (gs : List Gl) : Prop where
  b : FB W Q wd A n c ot
  g : Glyphs W A n c gs
theorem FG.here {W W' : World} {Q : Nat} {wd : Bool} {A : Option Addr} {n c : Nat} {ot : Int} {gs : List Gl} (h : FG W Q wd A n c ot gs) (hb : Below W.heap.size W W') : FG W' Q wd A n c ot gs := ⟨FB.here h.b hb, h.g.below hb⟩
theorem FG.made {W : World} {wd : Bool} {A : Option Addr} {n c : Nat} {ot : Int} {gs : List Gl} (h : Glyphs W A n c gs) : FG (W.alloc (.cells #[.bool wd, .slice A n c, .int .i64 ot] 24)) W.heap.size wd A n c ot gs :=
  ⟨FB.made W wd A n c ot, h.below ((Below.refl _ _).alloc (Nat.le_refl _) _)⟩
theorem FG.lt {W : World} {Q : Nat} {wd : Bool} {A : Option Addr} {n c : Nat} {ot : Int} {gs : List Gl} (h : FG W Q wd A n c ot gs) : Q < W.heap.size := Whole.lt h.b
/-- The font of the argument, what was cut, and cut again. -/
structure KS (w W : World) (wd : Bool) (A : Option Addr) (n c : Nat) (ot : Int) (gs : List Gl) (Q1 Q2 : Nat) (A1 A2 : Option Addr) (m1 m2 c1 c2 : Nat) (L : List Gl) (B2 : Option Addr) (d2 : Nat) (keep : List Int) : Prop where
  f : FG W w.heap.size wd A n c ot gs
  a : FG W Q1 wd A1 m1 c1 0 L
  b : FG W Q2 wd A2 m2 c2 0 L
  k : IntsAt W B2 keep.length d2 keep
  below : Below w.heap.size w W
theorem KS.later {w W W' : World} {wd : Bool} {A : Option Addr} {n c : Nat} {ot : Int} {gs : List Gl} {Q1 Q2 : Nat} {A1 A2 : Option Addr} {m1 m2 c1 c2 : Nat} {L : List Gl} {B2 : Option Addr} {d2 : Nat} {keep : List Int}
    (h : KS w W wd A n c ot gs Q1 Q2 A1 A2 m1 m2 c1 c2 L B2 d2 keep) (hb : Below W.heap.size W W') : KS w W' wd A n c ot gs Q1 Q2 A1 A2 m1 m2 c1 c2 L B2 d2 keep :=
  ⟨h.f.here hb, h.a.here hb, h.b.here hb, h.k.below hb, h.below.trans (hb.mono h.below.size)⟩
set_option maxRecDepth 100000 in
set_option maxHeartbeats 8000000 in
theorem keeps_law (wd : Bool) (A : Option Addr) (n c : Nat) (ot : Int) (gs : List Gl) (B2 : Option Addr) (n2 d2 : Nat) (keep : List Int) (code : Int) (w : World) (h : Glyphs w A n c gs) (hk2 : IntsAt w B2 n2 d2 keep) :
    Calls Try.prog 5 #[.agg #[.bool wd, .slice A n c, .int .i64 ot], .slice B2 n2 d2, .int .i64 code] w (True_ w) := by
  have hl := h.len
  subst hl
  have hl2 := hk2.len
  subst hl2
  have hcap := h.cap
  have htop := h.top
  have hcap2 := hk2.cap
  have htop2 := hk2.top
  have H := Lib.hid h
  have HK := Lib.hid hk2
  clear h hk2
  by_cases q0 : 150 < gs.length
  · go_enter Try.func5, Try.ntmps5
    go_wp2
    go_ret
    exact ⟨rfl, (Below.refl _ _).alloc (Nat.le_refl _) _⟩
  by_cases q1 : 100 < keep.length
  · go_enter Try.func5, Try.ntmps5
    go_wp2
    go_ret
    exact ⟨rfl, (Below.refl _ _).alloc (Nat.le_refl _) _⟩
  have p0 : decide (150 < (gs.length : Int)) = false := by simp; omega
  have p1 : decide (100 < (keep.length : Int)) = false := by simp; omega
  have H0 := Lib.hid (And.intro (FG.made (wd := wd) (ot := ot) H.out) ((Below.refl w.heap.size w).alloc (Nat.le_refl _) (.cells #[.bool wd, .slice A gs.length c, .int .i64 ot] 24)))
  obtain ⟨i0, hi, hz0, hz1, hz2⟩ := info_parts infoInt
  cases hck : chkB wd ot gs with
  | false =>
    have HC := Lib.hid (And.intro hck (chk_f hck))
    clear hck
    go_enter Try.func5, Try.ntmps5
    go_wp2_with fail
    refine (cut_bad wd A gs.length c ot gs _ _ H0.out.1.g HC.out.1).mono ?_
    rintro e w1 ⟨rfl, hb⟩
    have H1 := Lib.hid (And.intro (H0.out.1.here hb) (H0.out.2.trans (hb.mono H0.out.2.size)))
    clear hb H0
    go_wp2_with fail
    refine (awake_any _).mono ?_
    rintro e w2 ⟨rfl, hb⟩
    have hb2 := ((Below.refl _ _).alloc (Nat.le_refl _) (.cells #[.bool false, .slice none 0 0, .int .i64 0] 24)).trans (hb.mono (by simp))
    have H2 := Lib.hid (And.intro (H1.out.1.here hb2) (H1.out.2.trans (hb2.mono H1.out.2.size)))
    clear hb hb2 H1
    obtain ⟨f0, f1, f2⟩ := H2.out.1.b.cells
    have lF := H2.out.1.lt
    go_wp2_with fail
    refine (check_any wd A gs.length c ot gs _ H2.out.1.g).mono ?_
    rw [HC.out.2]
    rintro e w3 ⟨rfl, hb⟩
    have H3 := Lib.hid (H2.out.2.trans (hb.mono H2.out.2.size))
    clear hb
    go_wp2_with fail
    go_ret
    exact ⟨rfl, H3.out⟩
  | true =>
    obtain ⟨L, hL⟩ : ∃ L, cutG wd ot gs keep = L := ⟨_, rfl⟩
    have HC := Lib.hid (And.intro hck (And.intro hL (by rw [← hL]; exact chk_cut hck (by omega) : chkB wd 0 L = true)))
    have hLn : L.length ≤ 100 := by rw [← hL]; exact Nat.le_trans cut_len (by omega)
    clear hck hL
    go_enter Try.func5, Try.ntmps5
    go_wp2_with fail
    refine (cut_ok wd A gs.length c ot gs B2 keep.length d2 keep _ H0.out.1.g HC.out.1 (HK.out.below H0.out.2) (by omega) (by omega)).mono ?_
    rw [HC.out.2.1]
    rintro e w1 ⟨A1, m1, c1, rfl, hg1, hb⟩
    obtain rfl := hg1.len
    have H1 := Lib.hid (And.intro (H0.out.1.here (hb.trans (((Below.refl _ _).alloc (Nat.le_refl _) (.cells #[.bool wd, .slice A1 L.length c1, .int .i64 0] 24)).mono hb.size))) (And.intro (FG.made (wd := wd) (ot := 0) hg1) ((H0.out.2.trans (hb.mono H0.out.2.size)).alloc (H0.out.2.trans (hb.mono H0.out.2.size)).size (.cells #[.bool wd, .slice A1 L.length c1, .int .i64 0] 24))))
    clear hb hg1 H0
    go_wp2_with fail
    refine (cut_ok wd A1 L.length c1 0 L B2 keep.length d2 keep _ H1.out.2.1.g HC.out.2.2 (HK.out.below H1.out.2.2) (by omega) (by omega)).mono ?_
    rw [show cutG wd 0 L keep = L by rw [← HC.out.2.1]; exact cut_twice]
    rintro e w2 ⟨A2, m2, c2, rfl, hg2, hb⟩
    obtain rfl := hg2.len
    have hb2 := hb.trans (((Below.refl _ _).alloc (Nat.le_refl _) (.cells #[.bool wd, .slice A2 L.length c2, .int .i64 0] 24)).mono hb.size)
    have H2 := Lib.hid (show KS w (w2.alloc (.cells #[.bool wd, .slice A2 L.length c2, .int .i64 0] 24)) wd A gs.length c ot gs w1.heap.size w2.heap.size A1 A2 L.length L.length c1 c2 L B2 d2 keep from
      ⟨H1.out.1.here hb2, H1.out.2.1.here hb2, FG.made hg2, (HK.out.below H1.out.2.2).below hb2, H1.out.2.2.trans (hb2.mono H1.out.2.2.size)⟩)
    clear hb hb2 hg2 H1
    go_wp2_with fail
    obtain ⟨W, hW⟩ : ∃ W, w2.alloc (.cells #[.bool wd, .slice A2 L.length c2, .int .i64 0] 24) = W := ⟨_, rfl⟩
    obtain ⟨Q1, hQ1⟩ : ∃ Q, w1.heap.size = Q := ⟨_, rfl⟩
    obtain ⟨Q2, hQ2⟩ : ∃ Q, w2.heap.size = Q := ⟨_, rfl⟩
    rw [hW, hQ1, hQ2] at H2
    rw [hW, hQ1, hQ2]
    clear hW hQ1 hQ2
    go_loopw [11, 12, 13] (fun s11 s12 s13 wx => ∃ (k : Nat) (z : Int) (b : Bool), k ≤ keep.length ∧ z + 1 = k ∧ s13 = .int .i64 z ∧ s12 = .bool b ∧ Hid ((b = true ↔ code ∈ keep.drop k) ∧ wx.ownsRow W.heap.size 3 1 s11 (keep.length - k) (ivs (keep.drop k).reverse) ∧ Below W.heap.size W wx)) (fun _ _ s13 _ => (intOf s13 + 1).toNat)
    case atStart => exact ⟨keep.length, _, false, by omega, by omega, rfl, rfl, Lib.hid ⟨by simp, by simpa [ivs] using World.ownsRow_nil W W.heap.size 3 1, Below.refl _ _⟩⟩
    case round =>
      obtain ⟨k, z, b, hk, hz, rfl, rfl, hS⟩ := hrel
      obtain ⟨a5, c5, rfl⟩ := own_slice hS.out.2.1
      by_cases hz0' : 0 ≤ z
      · obtain ⟨m, rfl⟩ : ∃ m : Nat, z = m := ⟨z.toNat, by omega⟩
        obtain rfl : k = m + 1 := by omega
        have d0 : decide ((0 : Int) ≤ (m : Int)) = true := by simp
        obtain ⟨x, hx⟩ : ∃ x, keep[m]? = some x := ⟨_, List.getElem?_eq_getElem (by omega)⟩
        have hdr : keep.drop m = x :: keep.drop (m + 1) := by
          obtain ⟨h1, h2⟩ := List.getElem?_eq_some_iff.1 hx
          rw [List.drop_eq_getElem_cons h1, h2]
        have hKS := H2.out.later hS.out.2.2
        obtain ⟨R, o, rfl, hR, hc⟩ := hKS.k.at_ (by omega)
        have cx := hc m x hx
        obtain ⟨K, hK⟩ : ∃ K, keep.length - (m + 1) = K := ⟨_, rfl⟩
        have HX := Lib.hid (And.intro hdr (And.intro hx (show keep.length - m = K + 1 by omega)))
        have hK9 : K ≤ 1000 := by omega
        rw [hK] at hS ⊢
        clear hx hdr hc hKS hK
        go_wp2_with (at_builtin; refine wpList_append_own _ rfl _ _ 25 rfl W.heap.size 3 i0 (.int .i64 0) 1 8 Try.underlying25 hi hz0 hz1 hz2 rfl (by decide) _ _ _ rfl (hS.out.2.1.alloc _) ⟨_, 0, none⟩ 1 1 [.int .i64 _] rfl rfl (World.news_of_block (t := 3) (fr := (0, 0)) (heap_alloc_new _ _)) ?e2 ?e3 ?e4 ?e5 ?_)
        case e2 => simp [Value.oneCell']
        case e3 => unfold maxLen; omega
        case e4 => omega
        case e5 => have := hS.out.2.2.size; first | omega | (simp; omega)
        intro v' w5 hown' hgrow _
        have hb5 : Below W.heap.size W w5 := (hS.out.2.2.alloc hS.out.2.2.size (.cells #[.int .i64 x] 3)).grown hgrow (by have := hS.out.2.2.size; simp; omega) (fun j e => (hS.out.2.1.lt j e).1)
        have hown2 : w5.ownsRow W.heap.size 3 1 v' (keep.length - m) (ivs (keep.drop m).reverse) := by
          rw [HX.out.2.2, HX.out.1, List.reverse_cons, ivs_append]; exact hown'
        have H5 := Lib.hid (And.intro hown2 hb5)
        obtain ⟨a6, c6, rfl⟩ := own_slice hown'
        clear hown' hgrow hb5 hown2 cx hR
        obtain ⟨R', o', e', hR, hc⟩ := (H2.out.later H5.out.2).k.at_ (by omega)
        injection e' with e'
        injection e' with e1 e2
        subst e1 e2
        have cx := hc m x HX.out.2.1
        clear hc
        cases b with
        | true =>
          go_wp2_with fail
          go_roundw
          case rel => exact ⟨m, _, true, by omega, by omega, rfl, rfl, Lib.hid ⟨⟨fun _ => by rw [HX.out.1]; exact List.mem_cons_of_mem _ (hS.out.1.1 rfl), fun _ => rfl⟩, by simpa [HX.out.2.2] using H5.out.1, H5.out.2⟩⟩
          case measure => first | (simp [intOf]; done) | (simp [intOf]; omega)
        | false =>
          by_cases hxc : x = code
          · have d1 : (x == code) = true := by simp [hxc]
            have HXC := Lib.hid hxc
            clear hxc
            go_wp2_with fail
            go_roundw
            case rel => exact ⟨m, _, true, by omega, by omega, rfl, rfl, Lib.hid ⟨⟨fun _ => by rw [HX.out.1, HXC.out]; exact List.mem_cons_self .., fun _ => rfl⟩, by simpa [HX.out.2.2] using H5.out.1, H5.out.2⟩⟩
            case measure => first | (simp [intOf]; done) | (simp [intOf]; omega)
          · have d1 : (x == code) = false := by simp [hxc]
            have HXC := Lib.hid hxc
            clear hxc
            go_wp2_with fail
            go_roundw
            case rel => exact ⟨m, _, false, by omega, by omega, rfl, rfl, Lib.hid ⟨⟨fun h => (by cases h), fun h => by
              rw [HX.out.1] at h
              rcases List.mem_cons.1 h with h | h
              · exact absurd h.symm HXC.out
              · exact hS.out.1.2 h⟩, by simpa [HX.out.2.2] using H5.out.1, H5.out.2⟩⟩
            case measure => first | (simp [intOf]; done) | (simp [intOf]; omega)
      · obtain rfl : z = -1 := by omega
        obtain rfl : k = 0 := by omega
        have d0 : decide ((0 : Int) ≤ -1) = false := by decide
        have hin : b = true ↔ code ∈ keep := by simpa using hS.out.1
        have hrow := hS.out.2.1
        simp only [List.drop_zero, Nat.sub_zero] at hrow
        obtain ⟨A', c', e', hI⟩ := IntsAt.of_own hrow
        injection e' with e1 e2 e3
        subst e1 e3
        have HI := Lib.hid hI
        have H3 := Lib.hid (H2.out.later hS.out.2.2)
        have HIN := Lib.hid hin
        simp only [Nat.sub_zero]
        clear hrow hI hin H2 hS e2
        obtain ⟨f0, f1, f2⟩ := H3.out.f.b.cells
        have lF := H3.out.f.lt
        go_wp2_with fail
        refine (cut_ok wd A gs.length c ot gs _ keep.length _ keep.reverse _ H3.out.f.g HC.out.1 HI.out (by omega) (by omega)).mono ?_
        rw [show cutG wd ot gs keep.reverse = L by rw [← HC.out.2.1]; exact cut_members (fun x => List.mem_reverse)]
        rintro e w6 ⟨A3, m3, c3, rfl, hg3, hb⟩
        obtain rfl := hg3.len
        have hb2 := hb.trans (((Below.refl _ _).alloc (Nat.le_refl _) (.cells #[.bool wd, .slice A3 L.length c3, .int .i64 0] 24)).mono hb.size)
        have H4 := Lib.hid (And.intro (H3.out.later hb2) (FG.made (wd := wd) (ot := 0) hg3))
        have H4w := Lib.hid (H3.out.later hb)
        clear hb hb2 hg3 H3 HI f0 f1 f2 lF
        obtain ⟨f0, f1, f2⟩ := H4w.out.f.b.cells
        have lF := H4w.out.f.lt
        obtain ⟨a0, a1, a2⟩ := H4w.out.a.b.cells
        have lA := H4w.out.a.lt
        obtain ⟨T, hT⟩ : ∃ T : Int, (if wd then 65535 else 255) = T := ⟨_, rfl⟩
        have HT := Lib.hid hT
        have hcode : codeB wd code = decide (0 ≤ code ∧ code ≤ T) := by
          unfold codeB
          rw [← hT, decide_eq_decide]
          cases wd <;> simp only [Bool.false_eq_true, if_false, if_true] <;> omega
        have HCD := Lib.hid hcode
        clear hT hcode
        cases wd with
        | false =>
          obtain rfl : T = 255 := HT.out.symm
          go_wp2_with fail
          refine (find_any _ A1 L.length c1 0 L code _ H4.out.1.a.g (by omega)).mono ?_
          rintro e w7 ⟨rfl, hb⟩
          obtain ⟨g, hg⟩ : ∃ g, findG 0 L code = g := ⟨_, rfl⟩
          rw [hg]
          have HG := Lib.hid hg
          have H5w := Lib.hid (H4.out.1.later hb)
          have hb2 := hb.trans (((Below.refl _ _).alloc (Nat.le_refl _) (.cells #[.int .i64 g.code, .int .i64 g.width, .string g.text] 35)).mono hb.size)
          have H5 := Lib.hid (And.intro (H4.out.1.later hb2) (And.intro (H4.out.2.here hb2) (Whole.made w7 35 #[.int .i64 g.code, .int .i64 g.width, .string g.text])))
          clear hb hb2 hg H4 H4w f0 f1 f2 lF a0 a1 a2 lA
          go_wp2_with fail
          obtain ⟨V, hV⟩ : ∃ V, w7.alloc (.cells #[.int .i64 g.code, .int .i64 g.width, .string g.text] 35) = V := ⟨_, rfl⟩
          obtain ⟨Q3, hQ3⟩ : ∃ Q, w6.heap.size = Q := ⟨_, rfl⟩
          obtain ⟨Q4, hQ4⟩ : ∃ Q, w7.heap.size = Q := ⟨_, rfl⟩
          rw [hV, hQ3, hQ4] at H5
          rw [hV, hQ3, hQ4]
          clear hV hQ3 hQ4 H5w
          obtain ⟨f0, f1, f2⟩ := H5.out.1.f.b.cells
          have lF := H5.out.1.f.lt
          have rg := H5.out.2.2.reads
          have g0 : V.cell? ⟨Q4, 0, none⟩ = some (.int .i64 g.code) := rg 0
          have g1 : V.cell? ⟨Q4, 1, none⟩ = some (.int .i64 g.width) := rg 1
          have g2 : V.cell? ⟨Q4, 2, none⟩ = some (.string g.text) := rg 2
          have lG := H5.out.2.2.lt
          clear rg
          go_cut [112] from 82 to 112 (fun s112 wx => s112 = .bool false ∧ Hid (Below V.heap.size V wx))
          case first =>
            cases b with
            | false =>
              have hno : ¬ code ∈ keep := fun h => by have := HIN.out.2 h; cases this
              have HGz := Lib.hid (show g = ⟨code, 0, ⟨#[]⟩⟩ by rw [← HG.out, ← HC.out.2.1]; exact find_cut_out hno)
              have e1 : g.width = 0 := by rw [HGz.out]
              have e2 : g.text = ⟨#[]⟩ := by rw [HGz.out]
              rw [e1] at g1
              rw [e2] at g2
              clear e1 e2 hno
              go_quiet (fail)
              all_goals
                go_wp2_with fail
                go_meet
                exact ⟨rfl, Lib.hid (below_drewN (Below.refl _ _) _)⟩
            | true =>
              have hyes : code ∈ keep := HIN.out.1 rfl
              have HY := Lib.hid hyes
              clear hyes
              by_cases h0 : 0 ≤ code
              · have d3 : decide (0 ≤ code) = true := by simp; omega
                by_cases h1 : code ≤ 255
                · have d4 : decide (code ≤ 255) = true := by simp; omega
                  have HGz := Lib.hid (show findG ot gs code = g by
                    rw [← HG.out, ← HC.out.2.1]
                    exact (find_cut_in HC.out.1 HY.out (by rw [HCD.out]; exact decide_eq_true ⟨h0, by omega⟩)).symm)
                  have hS := And.intro (And.intro f0 (And.intro f1 f2)) (And.intro g0 (And.intro g1 g2))
                  have HV := Below.refl V.heap.size V
                  skip
                  clear h0 h1
                  refine wp_region_S 15 (fun v => (v.cell? ⟨w.heap.size, 0, none⟩ = some (.bool false) ∧ v.cell? ⟨w.heap.size, 1, none⟩ = some (.slice A gs.length c) ∧ v.cell? ⟨w.heap.size, 2, none⟩ = some (.int .i64 ot)) ∧ (v.cell? ⟨Q4, 0, none⟩ = some (.int .i64 g.code) ∧ v.cell? ⟨Q4, 1, none⟩ = some (.int .i64 g.width) ∧ v.cell? ⟨Q4, 2, none⟩ = some (.string g.text))) (by kernel_rfl) ?_
                  refine wpAnyS_takeW (i := 0) (v := ?v1) rfl (by kernel_rfl) (fun _ _ _ h => h) (Or.inl ⟨by rfl, ?y1⟩) (fun _ => hS) ?r1
                  case y1 => intro wq _; go_simp; try with_reducible rfl
                  try simp only [Act.put, List.setIfInBounds_toArray, List.set_cons_zero, List.set_cons_succ]
                  refine wpAnyS_takeW (i := 1) (v := ?v2) rfl (by kernel_rfl) (fun _ _ _ h => h) (Or.inl ⟨by rfl, ?y2⟩) (fun _ => hS) ?r2
                  case y2 => intro wq _; go_simp; try with_reducible rfl
                  try simp only [Act.put, List.setIfInBounds_toArray, List.set_cons_zero, List.set_cons_succ]
                  refine wpAnyS_takeW (i := 2) (v := ?v3) rfl (by kernel_rfl) (fun _ _ _ h => h) (Or.inl ⟨by rfl, ?y3⟩) (fun _ => hS) ?r3
                  case y3 => intro wq _; go_simp; try with_reducible rfl
                  try simp only [Act.put, List.setIfInBounds_toArray, List.set_cons_zero, List.set_cons_succ]
                  refine wpAnyS_takeW (i := 3) (v := .bool true) rfl (by kernel_rfl) (fun _ _ _ h => h) (Or.inl ⟨by rfl, ?y4⟩) (fun _ => hS) ?r4
                  case y4 => intro wq _; go_simp; all_goals (first | (simp only [d3, d4]; done) | simp [d3, d4])
                  try simp only [Act.put, List.setIfInBounds_toArray, List.set_cons_zero, List.set_cons_succ]
                  refine wpAnyS_takeW (i := 4) (v := ?v5) rfl (by kernel_rfl) (fun _ _ _ h => h) (Or.inl ⟨by rfl, ?y5⟩) (fun _ => hS) ?r5
                  case y5 => intro wq _; go_simp; try with_reducible rfl
                  try simp only [Act.put, List.setIfInBounds_toArray, List.set_cons_zero, List.set_cons_succ]
                  refine wpAnyS_takeW (i := 5) (v := ?v6) rfl (by kernel_rfl) (fun _ _ _ h => h) (Or.inl ⟨by rfl, ?y6⟩) (fun _ => hS) ?r6
                  case y6 => intro wq _; go_simp; try with_reducible rfl
                  try simp only [Act.put, List.setIfInBounds_toArray, List.set_cons_zero, List.set_cons_succ]
                  refine wpAnyS_takeW (i := 6) (v := ?v7) rfl (by kernel_rfl) (fun _ _ _ h => h) (Or.inl ⟨by rfl, ?y7⟩) (fun _ => hS) ?r7
                  case y7 => intro wq _; go_simp; try with_reducible rfl
                  try simp only [Act.put, List.setIfInBounds_toArray, List.set_cons_zero, List.set_cons_succ]
                  refine wpAnyS_takeW (i := 7) (v := ?v8) rfl (by kernel_rfl) (fun _ _ _ h => h) (Or.inl ⟨by rfl, ?y8⟩) (fun _ => hS) ?r8
                  case y8 => intro wq _; go_simp; try with_reducible rfl
                  try simp only [Act.put, List.setIfInBounds_toArray, List.set_cons_zero, List.set_cons_succ]
                  refine wpAnyS_takeW (i := 8) (v := .bool true) rfl (by kernel_rfl) (fun _ _ _ h => h) (Or.inl ⟨by rfl, ?y9⟩) (fun _ => hS) ?r9
                  case y9 => intro wq _; go_simp; all_goals (first | (simp only [d3, d4]; done) | simp [d3, d4])
                  try simp only [Act.put, List.setIfInBounds_toArray, List.set_cons_zero, List.set_cons_succ]
                  refine wpAnyS_takeW (i := 9) (v := ?v10) rfl (by kernel_rfl) (fun _ _ _ h => h) (Or.inl ⟨by rfl, ?y10⟩) (fun _ => hS) ?r10
                  case y10 => intro wq _; go_simp; try with_reducible rfl
                  try simp only [Act.put, List.setIfInBounds_toArray, List.set_cons_zero, List.set_cons_succ]
                  refine wpAnyS_takeW (i := 10) (v := ?v11) rfl (by kernel_rfl) (fun _ _ _ h => h) (Or.inl ⟨by rfl, ?y11⟩) (fun _ => hS) ?r11
                  case y11 => intro wq _; go_simp; try with_reducible rfl
                  try simp only [Act.put, List.setIfInBounds_toArray, List.set_cons_zero, List.set_cons_succ]
                  refine wpAnyS_take (i := 11) (v := ?v12) rfl (by kernel_rfl) (fun _ _ _ h => h) (Or.inl ⟨by rfl, ?y12⟩) hS ?r12
                  case y12 => intro wq hq; (try dsimp only at hq); go_simp; try with_reducible rfl
                  try simp only [Act.put, List.setIfInBounds_toArray, List.set_cons_zero, List.set_cons_succ]
                  refine wpAnyS_take (i := 12) (v := ?v13) rfl (by kernel_rfl) (fun _ _ _ h => h) (Or.inl ⟨by rfl, ?y13⟩) hS ?r13
                  case y13 => intro wq hq; (try dsimp only at hq); go_simp; try with_reducible rfl
                  try simp only [Act.put, List.setIfInBounds_toArray, List.set_cons_zero, List.set_cons_succ]
                  refine wpAnyS_takeW (i := 13) (v := ?v14) rfl (by kernel_rfl) (fun _ _ _ h => h) (Or.inl ⟨by rfl, ?y14⟩) (fun _ => hS) ?r14
                  case y14 => intro wq _; go_simp; try with_reducible rfl
                  try simp only [Act.put, List.setIfInBounds_toArray, List.set_cons_zero, List.set_cons_succ]
                  refine wpAnyS_one (j := 14) (by kernel_rfl) rfl (fun K hK => ?_)
                  go_simp
                  go_at_call 16; (refine (find_any _ A gs.length c ot gs code _ (H5.out.1.f.g.below (Below.refl _ _).drew) (by omega)).mono ?_)
                  rw [HGz.out]
                  rintro e v ⟨rfl, kk⟩
                  have kk := undrw kk
                  have hS2 := FQ.later hS kk
                  have HV := Lib.hid kk
                  clear kk
                  go_wp2_with fail
                  refine hK.out _ _ ⟨fun _ _ => hS2, ?_⟩
                  clear hK K
                  try simp only [Act.put, List.setIfInBounds_toArray, List.set_cons_zero, List.set_cons_succ]
                  refine wpAnyS_one (j := 15) (by kernel_rfl) rfl (fun K hK => ?_)
                  go_simp
                  refine hK.out _ _ ⟨fun h => absurd rfl h, ?_⟩
                  clear hK K
                  try simp only [Act.put, List.setIfInBounds_toArray, List.set_cons_zero, List.set_cons_succ]
                  refine wpAnyS_takeW (i := 16) (v := ?v15) rfl (by kernel_rfl) (fun _ _ _ h => h) (Or.inl ⟨by rfl, ?y15⟩) (fun h => (by cases h)) ?r15
                  case y15 => intro wq _; go_simp; try with_reducible rfl
                  try simp only [Act.put, List.setIfInBounds_toArray, List.set_cons_zero, List.set_cons_succ]
                  refine wpAnyS_takeW (i := 17) (v := ?v16) rfl (by kernel_rfl) (fun _ _ _ h => h) (Or.inl ⟨by rfl, ?y16⟩) (fun h => (by cases h)) ?r16
                  case y16 => intro wq _; go_simp; try with_reducible rfl
                  try simp only [Act.put, List.setIfInBounds_toArray, List.set_cons_zero, List.set_cons_succ]
                  refine wpAnyS_takeW (i := 18) (v := ?v17) rfl (by kernel_rfl) (fun _ _ _ h => h) (Or.inl ⟨by rfl, ?y17⟩) (fun h => (by cases h)) ?r17
                  case y17 => intro wq _; go_simp; try with_reducible rfl
                  try simp only [Act.put, List.setIfInBounds_toArray, List.set_cons_zero, List.set_cons_succ]
                  refine wpAnyS_takeW (i := 19) (v := ?v18) rfl (by kernel_rfl) (fun _ _ _ h => h) (Or.inl ⟨by rfl, ?y18⟩) (fun h => (by cases h)) ?r18
                  case y18 => intro wq _; go_simp; try with_reducible rfl
                  try simp only [Act.put, List.setIfInBounds_toArray, List.set_cons_zero, List.set_cons_succ]
                  refine wpAnyS_takeW (i := 20) (v := ?v19) rfl (by kernel_rfl) (fun _ _ _ h => h) (Or.inl ⟨by rfl, ?y19⟩) (fun h => (by cases h)) ?r19
                  case y19 => intro wq _; go_simp; try with_reducible rfl
                  try simp only [Act.put, List.setIfInBounds_toArray, List.set_cons_zero, List.set_cons_succ]
                  refine wpAnyS_takeW (i := 21) (v := undef) rfl (by kernel_rfl) (fun _ _ _ h => h) (Or.inr ⟨by rfl, rfl⟩) (fun h => (by cases h)) ?r20
                  try simp only [Act.put, List.setIfInBounds_toArray, List.set_cons_zero, List.set_cons_succ]
                  refine wpAnyS_takeW (i := 22) (v := undef) rfl (by kernel_rfl) (fun _ _ _ h => h) (Or.inr ⟨by rfl, rfl⟩) (fun h => (by cases h)) ?r21
                  try simp only [Act.put, List.setIfInBounds_toArray, List.set_cons_zero, List.set_cons_succ]
                  refine wpAnyS_takeW (i := 23) (v := undef) rfl (by kernel_rfl) (fun _ _ _ h => h) (Or.inr ⟨by rfl, rfl⟩) (fun h => (by cases h)) ?r22
                  try simp only [Act.put, List.setIfInBounds_toArray, List.set_cons_zero, List.set_cons_succ]
                  refine wpAnyS_takeW (i := 24) (v := undef) rfl (by kernel_rfl) (fun _ _ _ h => h) (Or.inr ⟨by rfl, rfl⟩) (fun h => (by cases h)) ?r23
                  try simp only [Act.put, List.setIfInBounds_toArray, List.set_cons_zero, List.set_cons_succ]
                  refine wpAnyS_takeW (i := 25) (v := undef) rfl (by kernel_rfl) (fun _ _ _ h => h) (Or.inr ⟨by rfl, rfl⟩) (fun h => (by cases h)) ?r24
                  try simp only [Act.put, List.setIfInBounds_toArray, List.set_cons_zero, List.set_cons_succ]
                  refine wpAnyS_takeW (i := 26) (v := undef) rfl (by kernel_rfl) (fun _ _ _ h => h) (Or.inr ⟨by rfl, rfl⟩) (fun h => (by cases h)) ?r25
                  try simp only [Act.put, List.setIfInBounds_toArray, List.set_cons_zero, List.set_cons_succ]
                  refine wpAnyS_takeW (i := 27) (v := undef) rfl (by kernel_rfl) (fun _ _ _ h => h) (Or.inr ⟨by rfl, rfl⟩) (fun h => (by cases h)) ?r26
                  try simp only [Act.put, List.setIfInBounds_toArray, List.set_cons_zero, List.set_cons_succ]
                  refine wpAnyS_takeW (i := 28) (v := undef) rfl (by kernel_rfl) (fun _ _ _ h => h) (Or.inr ⟨by rfl, rfl⟩) (fun h => (by cases h)) ?r27
                  try simp only [Act.put, List.setIfInBounds_toArray, List.set_cons_zero, List.set_cons_succ]
                  refine wpAnyS_takeW (i := 29) (v := ?v28) rfl (by kernel_rfl) (fun _ _ _ h => h) (Or.inl ⟨by rfl, ?y28⟩) (fun h => (by cases h)) ?r28
                  case y28 => intro wq _; go_simp; try with_reducible rfl
                  try simp only [Act.put, List.setIfInBounds_toArray, List.set_cons_zero, List.set_cons_succ]
                  refine wpAnyS_takeW (i := 30) (v := ?v29) rfl (by kernel_rfl) (fun _ _ _ h => h) (Or.inl ⟨by rfl, ?y29⟩) (fun h => (by cases h)) ?r29
                  case y29 => intro wq _; go_simp; try with_reducible rfl
                  try simp only [Act.put, List.setIfInBounds_toArray, List.set_cons_zero, List.set_cons_succ]
                  refine wpAnyS_done (by kernel_rfl) ?_ _
                  go_wp2_with fail
                  go_meet
                  exact ⟨rfl, HV⟩
                · have d4 : decide (code ≤ 255) = false := by simp; omega
                  go_quiet (fail)
                  all_goals
                    go_wp2_with fail
                    go_meet
                    exact ⟨rfl, Lib.hid (below_drewN (Below.refl _ _) _)⟩
              · have d3 : decide (0 ≤ code) = false := by simp; omega
                go_quiet (fail)
                all_goals
                  go_wp2_with fail
                  go_meet
                  exact ⟨rfl, Lib.hid (below_drewN (Below.refl _ _) _)⟩
          case rest =>
            obtain ⟨rfl, hbx⟩ := hcut
            have H6 := Lib.hid (And.intro (H5.out.1.later hbx.out) (H5.out.2.1.here hbx.out))
            clear hbx H5 f0 f1 f2 lF g0 g1 g2 lG
            go_wp2_with fail
            refine (awake_any _).mono ?_
            rintro e w8 ⟨rfl, hb⟩
            have H7 := Lib.hid (And.intro (H6.out.1.later hb) (H6.out.2.here hb))
            clear hb H6
            obtain ⟨a0, a1, a2⟩ := H7.out.1.a.b.cells
            have lA := H7.out.1.a.lt
            obtain ⟨b0, b1, b2⟩ := H7.out.1.b.b.cells
            have lB := H7.out.1.b.lt
            go_wp2_with fail
            refine (same19 _ A1 L.length c1 A2 c2 0 L _ H7.out.1.a.g H7.out.1.b.g (by omega)).mono ?_
            rintro e w9 ⟨rfl, hb⟩
            have H8 := Lib.hid (And.intro (H7.out.1.later hb) (H7.out.2.here hb))
            clear hb H7 a0 a1 a2 lA b0 b1 b2 lB
            obtain ⟨a0, a1, a2⟩ := H8.out.1.a.b.cells
            have lA := H8.out.1.a.lt
            obtain ⟨b0, b1, b2⟩ := H8.out.2.b.cells
            have lB := H8.out.2.lt
            go_wp2_with fail
            refine (same19 _ A1 L.length c1 A3 c3 0 L _ H8.out.1.a.g H8.out.2.g (by omega)).mono ?_
            rintro e w10 ⟨rfl, hb⟩
            have H9 := Lib.hid (H8.out.1.later hb)
            clear hb H8 a0 a1 a2 lA b0 b1 b2 lB
            obtain ⟨a0, a1, a2⟩ := H9.out.a.b.cells
            have lA := H9.out.a.lt
            go_wp2_with fail
            refine (check_any _ A1 L.length c1 0 L _ H9.out.a.g).mono ?_
            rw [chk_t HC.out.2.2]
            rintro e w11 ⟨rfl, hb⟩
            have H10 := Lib.hid (H9.out.below.trans (hb.mono H9.out.below.size))
            clear hb
            go_wp2_with fail
            go_ret
            exact ⟨rfl, H10.out⟩
        | true =>
          obtain rfl : T = 65535 := HT.out.symm
          go_wp2_with fail
          refine (find_any _ A1 L.length c1 0 L code _ H4.out.1.a.g (by omega)).mono ?_
          rintro e w7 ⟨rfl, hb⟩
          obtain ⟨g, hg⟩ : ∃ g, findG 0 L code = g := ⟨_, rfl⟩
          rw [hg]
          have HG := Lib.hid hg
          have H5w := Lib.hid (H4.out.1.later hb)
          have hb2 := hb.trans (((Below.refl _ _).alloc (Nat.le_refl _) (.cells #[.int .i64 g.code, .int .i64 g.width, .string g.text] 35)).mono hb.size)
          have H5 := Lib.hid (And.intro (H4.out.1.later hb2) (And.intro (H4.out.2.here hb2) (Whole.made w7 35 #[.int .i64 g.code, .int .i64 g.width, .string g.text])))
          clear hb hb2 hg H4 H4w f0 f1 f2 lF a0 a1 a2 lA
          go_wp2_with fail
          obtain ⟨V, hV⟩ : ∃ V, w7.alloc (.cells #[.int .i64 g.code, .int .i64 g.width, .string g.text] 35) = V := ⟨_, rfl⟩
          obtain ⟨Q3, hQ3⟩ : ∃ Q, w6.heap.size = Q := ⟨_, rfl⟩
          obtain ⟨Q4, hQ4⟩ : ∃ Q, w7.heap.size = Q := ⟨_, rfl⟩
          rw [hV, hQ3, hQ4] at H5
          rw [hV, hQ3, hQ4]
          clear hV hQ3 hQ4 H5w
          obtain ⟨f0, f1, f2⟩ := H5.out.1.f.b.cells
          have lF := H5.out.1.f.lt
          have rg := H5.out.2.2.reads
          have g0 : V.cell? ⟨Q4, 0, none⟩ = some (.int .i64 g.code) := rg 0
          have g1 : V.cell? ⟨Q4, 1, none⟩ = some (.int .i64 g.width) := rg 1
          have g2 : V.cell? ⟨Q4, 2, none⟩ = some (.string g.text) := rg 2
          have lG := H5.out.2.2.lt
          clear rg
          go_cut [112] from 82 to 112 (fun s112 wx => s112 = .bool false ∧ Hid (Below V.heap.size V wx))
          case first =>
            cases b with
            | false =>
              have hno : ¬ code ∈ keep := fun h => by have := HIN.out.2 h; cases this
              have HGz := Lib.hid (show g = ⟨code, 0, ⟨#[]⟩⟩ by rw [← HG.out, ← HC.out.2.1]; exact find_cut_out hno)
              have e1 : g.width = 0 := by rw [HGz.out]
              have e2 : g.text = ⟨#[]⟩ := by rw [HGz.out]
              rw [e1] at g1
              rw [e2] at g2
              clear e1 e2 hno
              go_quiet (fail)
              all_goals
                go_wp2_with fail
                go_meet
                exact ⟨rfl, Lib.hid (below_drewN (Below.refl _ _) _)⟩
            | true =>
              have hyes : code ∈ keep := HIN.out.1 rfl
              have HY := Lib.hid hyes
              clear hyes
              by_cases h0 : 0 ≤ code
              · have d3 : decide (0 ≤ code) = true := by simp; omega
                by_cases h1 : code ≤ 65535
                · have d4 : decide (code ≤ 65535) = true := by simp; omega
                  have HGz := Lib.hid (show findG ot gs code = g by
                    rw [← HG.out, ← HC.out.2.1]
                    exact (find_cut_in HC.out.1 HY.out (by rw [HCD.out]; exact decide_eq_true ⟨h0, by omega⟩)).symm)
                  have hS := And.intro (And.intro f0 (And.intro f1 f2)) (And.intro g0 (And.intro g1 g2))
                  have HV := Below.refl V.heap.size V
                  skip
                  clear h0 h1
                  refine wp_region_S 15 (fun v => (v.cell? ⟨w.heap.size, 0, none⟩ = some (.bool true) ∧ v.cell? ⟨w.heap.size, 1, none⟩ = some (.slice A gs.length c) ∧ v.cell? ⟨w.heap.size, 2, none⟩ = some (.int .i64 ot)) ∧ (v.cell? ⟨Q4, 0, none⟩ = some (.int .i64 g.code) ∧ v.cell? ⟨Q4, 1, none⟩ = some (.int .i64 g.width) ∧ v.cell? ⟨Q4, 2, none⟩ = some (.string g.text))) (by kernel_rfl) ?_
                  refine wpAnyS_takeW (i := 0) (v := ?vv1) rfl (by kernel_rfl) (fun _ _ _ h => h) (Or.inl ⟨by rfl, ?yy1⟩) (fun _ => hS) ?rr1
                  case yy1 => intro wq _; go_simp; try with_reducible rfl
                  try simp only [Act.put, List.setIfInBounds_toArray, List.set_cons_zero, List.set_cons_succ]
                  refine wpAnyS_takeW (i := 1) (v := ?vv2) rfl (by kernel_rfl) (fun _ _ _ h => h) (Or.inl ⟨by rfl, ?yy2⟩) (fun _ => hS) ?rr2
                  case yy2 => intro wq _; go_simp; try with_reducible rfl
                  try simp only [Act.put, List.setIfInBounds_toArray, List.set_cons_zero, List.set_cons_succ]
                  refine wpAnyS_takeW (i := 2) (v := ?vv3) rfl (by kernel_rfl) (fun _ _ _ h => h) (Or.inl ⟨by rfl, ?yy3⟩) (fun _ => hS) ?rr3
                  case yy3 => intro wq _; go_simp; try with_reducible rfl
                  try simp only [Act.put, List.setIfInBounds_toArray, List.set_cons_zero, List.set_cons_succ]
                  refine wpAnyS_takeW (i := 3) (v := .bool true) rfl (by kernel_rfl) (fun _ _ _ h => h) (Or.inl ⟨by rfl, ?yy4⟩) (fun _ => hS) ?rr4
                  case yy4 => intro wq _; go_simp; all_goals (first | (simp only [d3, d4]; done) | simp [d3, d4])
                  try simp only [Act.put, List.setIfInBounds_toArray, List.set_cons_zero, List.set_cons_succ]
                  refine wpAnyS_takeW (i := 4) (v := ?vv5) rfl (by kernel_rfl) (fun _ _ _ h => h) (Or.inl ⟨by rfl, ?yy5⟩) (fun _ => hS) ?rr5
                  case yy5 => intro wq _; go_simp; try with_reducible rfl
                  try simp only [Act.put, List.setIfInBounds_toArray, List.set_cons_zero, List.set_cons_succ]
                  refine wpAnyS_takeW (i := 5) (v := ?vv6) rfl (by kernel_rfl) (fun _ _ _ h => h) (Or.inl ⟨by rfl, ?yy6⟩) (fun _ => hS) ?rr6
                  case yy6 => intro wq _; go_simp; try with_reducible rfl
                  try simp only [Act.put, List.setIfInBounds_toArray, List.set_cons_zero, List.set_cons_succ]
                  refine wpAnyS_takeW (i := 6) (v := ?vv7) rfl (by kernel_rfl) (fun _ _ _ h => h) (Or.inl ⟨by rfl, ?yy7⟩) (fun _ => hS) ?rr7
                  case yy7 => intro wq _; go_simp; try with_reducible rfl
                  try simp only [Act.put, List.setIfInBounds_toArray, List.set_cons_zero, List.set_cons_succ]
                  refine wpAnyS_takeW (i := 7) (v := ?vv8) rfl (by kernel_rfl) (fun _ _ _ h => h) (Or.inl ⟨by rfl, ?yy8⟩) (fun _ => hS) ?rr8
                  case yy8 => intro wq _; go_simp; try with_reducible rfl
                  try simp only [Act.put, List.setIfInBounds_toArray, List.set_cons_zero, List.set_cons_succ]
                  refine wpAnyS_takeW (i := 8) (v := .bool true) rfl (by kernel_rfl) (fun _ _ _ h => h) (Or.inl ⟨by rfl, ?yy9⟩) (fun _ => hS) ?rr9
                  case yy9 => intro wq _; go_simp; all_goals (first | (simp only [d3, d4]; done) | simp [d3, d4])
                  try simp only [Act.put, List.setIfInBounds_toArray, List.set_cons_zero, List.set_cons_succ]
                  refine wpAnyS_takeW (i := 9) (v := ?vv10) rfl (by kernel_rfl) (fun _ _ _ h => h) (Or.inl ⟨by rfl, ?yy10⟩) (fun _ => hS) ?rr10
                  case yy10 => intro wq _; go_simp; try with_reducible rfl
                  try simp only [Act.put, List.setIfInBounds_toArray, List.set_cons_zero, List.set_cons_succ]
                  refine wpAnyS_takeW (i := 10) (v := ?vv11) rfl (by kernel_rfl) (fun _ _ _ h => h) (Or.inl ⟨by rfl, ?yy11⟩) (fun _ => hS) ?rr11
                  case yy11 => intro wq _; go_simp; try with_reducible rfl
                  try simp only [Act.put, List.setIfInBounds_toArray, List.set_cons_zero, List.set_cons_succ]
                  refine wpAnyS_take (i := 11) (v := ?vv12) rfl (by kernel_rfl) (fun _ _ _ h => h) (Or.inl ⟨by rfl, ?yy12⟩) hS ?rr12
                  case yy12 => intro wq hq; (try dsimp only at hq); go_simp; try with_reducible rfl
                  try simp only [Act.put, List.setIfInBounds_toArray, List.set_cons_zero, List.set_cons_succ]
                  refine wpAnyS_take (i := 12) (v := ?vv13) rfl (by kernel_rfl) (fun _ _ _ h => h) (Or.inl ⟨by rfl, ?yy13⟩) hS ?rr13
                  case yy13 => intro wq hq; (try dsimp only at hq); go_simp; try with_reducible rfl
                  try simp only [Act.put, List.setIfInBounds_toArray, List.set_cons_zero, List.set_cons_succ]
                  refine wpAnyS_takeW (i := 13) (v := ?vv14) rfl (by kernel_rfl) (fun _ _ _ h => h) (Or.inl ⟨by rfl, ?yy14⟩) (fun _ => hS) ?rr14
                  case yy14 => intro wq _; go_simp; try with_reducible rfl
                  try simp only [Act.put, List.setIfInBounds_toArray, List.set_cons_zero, List.set_cons_succ]
                  refine wpAnyS_one (j := 14) (by kernel_rfl) rfl (fun K hK => ?_)
                  go_simp
                  go_at_call 16; (refine (find_any _ A gs.length c ot gs code _ (H5.out.1.f.g.below (Below.refl _ _).drew) (by omega)).mono ?_)
                  rw [HGz.out]
                  rintro e v ⟨rfl, kk⟩
                  have kk := undrw kk
                  have hS2 := FQ.later hS kk
                  have HV := Lib.hid kk
                  clear kk
                  go_wp2_with fail
                  refine hK.out _ _ ⟨fun _ _ => hS2, ?_⟩
                  clear hK K
                  try simp only [Act.put, List.setIfInBounds_toArray, List.set_cons_zero, List.set_cons_succ]
                  refine wpAnyS_one (j := 15) (by kernel_rfl) rfl (fun K hK => ?_)
                  go_simp
                  refine hK.out _ _ ⟨fun h => absurd rfl h, ?_⟩
                  clear hK K
                  try simp only [Act.put, List.setIfInBounds_toArray, List.set_cons_zero, List.set_cons_succ]
                  refine wpAnyS_takeW (i := 16) (v := ?vv15) rfl (by kernel_rfl) (fun _ _ _ h => h) (Or.inl ⟨by rfl, ?yy15⟩) (fun h => (by cases h)) ?rr15
                  case yy15 => intro wq _; go_simp; try with_reducible rfl
                  try simp only [Act.put, List.setIfInBounds_toArray, List.set_cons_zero, List.set_cons_succ]
                  refine wpAnyS_takeW (i := 17) (v := ?vv16) rfl (by kernel_rfl) (fun _ _ _ h => h) (Or.inl ⟨by rfl, ?yy16⟩) (fun h => (by cases h)) ?rr16
                  case yy16 => intro wq _; go_simp; try with_reducible rfl
                  try simp only [Act.put, List.setIfInBounds_toArray, List.set_cons_zero, List.set_cons_succ]
                  refine wpAnyS_takeW (i := 18) (v := ?vv17) rfl (by kernel_rfl) (fun _ _ _ h => h) (Or.inl ⟨by rfl, ?yy17⟩) (fun h => (by cases h)) ?rr17
                  case yy17 => intro wq _; go_simp; try with_reducible rfl
                  try simp only [Act.put, List.setIfInBounds_toArray, List.set_cons_zero, List.set_cons_succ]
                  refine wpAnyS_takeW (i := 19) (v := ?vv18) rfl (by kernel_rfl) (fun _ _ _ h => h) (Or.inl ⟨by rfl, ?yy18⟩) (fun h => (by cases h)) ?rr18
                  case yy18 => intro wq _; go_simp; try with_reducible rfl
                  try simp only [Act.put, List.setIfInBounds_toArray, List.set_cons_zero, List.set_cons_succ]
                  refine wpAnyS_takeW (i := 20) (v := ?vv19) rfl (by kernel_rfl) (fun _ _ _ h => h) (Or.inl ⟨by rfl, ?yy19⟩) (fun h => (by cases h)) ?rr19
                  case yy19 => intro wq _; go_simp; try with_reducible rfl
                  try simp only [Act.put, List.setIfInBounds_toArray, List.set_cons_zero, List.set_cons_succ]
                  refine wpAnyS_takeW (i := 21) (v := undef) rfl (by kernel_rfl) (fun _ _ _ h => h) (Or.inr ⟨by rfl, rfl⟩) (fun h => (by cases h)) ?rr20
                  try simp only [Act.put, List.setIfInBounds_toArray, List.set_cons_zero, List.set_cons_succ]
                  refine wpAnyS_takeW (i := 22) (v := undef) rfl (by kernel_rfl) (fun _ _ _ h => h) (Or.inr ⟨by rfl, rfl⟩) (fun h => (by cases h)) ?rr21
                  try simp only [Act.put, List.setIfInBounds_toArray, List.set_cons_zero, List.set_cons_succ]
                  refine wpAnyS_takeW (i := 23) (v := undef) rfl (by kernel_rfl) (fun _ _ _ h => h) (Or.inr ⟨by rfl, rfl⟩) (fun h => (by cases h)) ?rr22
                  try simp only [Act.put, List.setIfInBounds_toArray, List.set_cons_zero, List.set_cons_succ]
                  refine wpAnyS_takeW (i := 24) (v := undef) rfl (by kernel_rfl) (fun _ _ _ h => h) (Or.inr ⟨by rfl, rfl⟩) (fun h => (by cases h)) ?rr23
                  try simp only [Act.put, List.setIfInBounds_toArray, List.set_cons_zero, List.set_cons_succ]
                  refine wpAnyS_takeW (i := 25) (v := undef) rfl (by kernel_rfl) (fun _ _ _ h => h) (Or.inr ⟨by rfl, rfl⟩) (fun h => (by cases h)) ?rr24
                  try simp only [Act.put, List.setIfInBounds_toArray, List.set_cons_zero, List.set_cons_succ]
                  refine wpAnyS_takeW (i := 26) (v := undef) rfl (by kernel_rfl) (fun _ _ _ h => h) (Or.inr ⟨by rfl, rfl⟩) (fun h => (by cases h)) ?rr25
                  try simp only [Act.put, List.setIfInBounds_toArray, List.set_cons_zero, List.set_cons_succ]
                  refine wpAnyS_takeW (i := 27) (v := undef) rfl (by kernel_rfl) (fun _ _ _ h => h) (Or.inr ⟨by rfl, rfl⟩) (fun h => (by cases h)) ?rr26
                  try simp only [Act.put, List.setIfInBounds_toArray, List.set_cons_zero, List.set_cons_succ]
                  refine wpAnyS_takeW (i := 28) (v := undef) rfl (by kernel_rfl) (fun _ _ _ h => h) (Or.inr ⟨by rfl, rfl⟩) (fun h => (by cases h)) ?rr27
                  try simp only [Act.put, List.setIfInBounds_toArray, List.set_cons_zero, List.set_cons_succ]
                  refine wpAnyS_takeW (i := 29) (v := ?vv28) rfl (by kernel_rfl) (fun _ _ _ h => h) (Or.inl ⟨by rfl, ?yy28⟩) (fun h => (by cases h)) ?rr28
                  case yy28 => intro wq _; go_simp; try with_reducible rfl
                  try simp only [Act.put, List.setIfInBounds_toArray, List.set_cons_zero, List.set_cons_succ]
                  refine wpAnyS_takeW (i := 30) (v := ?vv29) rfl (by kernel_rfl) (fun _ _ _ h => h) (Or.inl ⟨by rfl, ?yy29⟩) (fun h => (by cases h)) ?rr29
                  case yy29 => intro wq _; go_simp; try with_reducible rfl
                  try simp only [Act.put, List.setIfInBounds_toArray, List.set_cons_zero, List.set_cons_succ]
                  refine wpAnyS_done (by kernel_rfl) ?_ _
                  go_wp2_with fail
                  go_meet
                  exact ⟨rfl, HV⟩
                · have d4 : decide (code ≤ 65535) = false := by simp; omega
                  go_quiet (fail)
                  all_goals
                    go_wp2_with fail
                    go_meet
                    exact ⟨rfl, Lib.hid (below_drewN (Below.refl _ _) _)⟩
              · have d3 : decide (0 ≤ code) = false := by simp; omega
                go_quiet (fail)
                all_goals
                  go_wp2_with fail
                  go_meet
                  exact ⟨rfl, Lib.hid (below_drewN (Below.refl _ _) _)⟩
          case rest =>
            obtain ⟨rfl, hbx⟩ := hcut
            have H6 := Lib.hid (And.intro (H5.out.1.later hbx.out) (H5.out.2.1.here hbx.out))
            clear hbx H5 f0 f1 f2 lF g0 g1 g2 lG
            go_wp2_with fail
            refine (awake_any _).mono ?_
            rintro e w8 ⟨rfl, hb⟩
            have H7 := Lib.hid (And.intro (H6.out.1.later hb) (H6.out.2.here hb))
            clear hb H6
            obtain ⟨a0, a1, a2⟩ := H7.out.1.a.b.cells
            have lA := H7.out.1.a.lt
            obtain ⟨b0, b1, b2⟩ := H7.out.1.b.b.cells
            have lB := H7.out.1.b.lt
            go_wp2_with fail
            refine (same19 _ A1 L.length c1 A2 c2 0 L _ H7.out.1.a.g H7.out.1.b.g (by omega)).mono ?_
            rintro e w9 ⟨rfl, hb⟩
            have H8 := Lib.hid (And.intro (H7.out.1.later hb) (H7.out.2.here hb))
            clear hb H7 a0 a1 a2 lA b0 b1 b2 lB
            obtain ⟨a0, a1, a2⟩ := H8.out.1.a.b.cells
            have lA := H8.out.1.a.lt
            obtain ⟨b0, b1, b2⟩ := H8.out.2.b.cells
            have lB := H8.out.2.lt
            go_wp2_with fail
            refine (same19 _ A1 L.length c1 A3 c3 0 L _ H8.out.1.a.g H8.out.2.g (by omega)).mono ?_
            rintro e w10 ⟨rfl, hb⟩
            have H9 := Lib.hid (H8.out.1.later hb)
            clear hb H8 a0 a1 a2 lA b0 b1 b2 lB
            obtain ⟨a0, a1, a2⟩ := H9.out.a.b.cells
            have lA := H9.out.a.lt
            go_wp2_with fail
            refine (check_any _ A1 L.length c1 0 L _ H9.out.a.g).mono ?_
            rw [chk_t HC.out.2.2]
            rintro e w11 ⟨rfl, hb⟩
            have H10 := Lib.hid (H9.out.below.trans (hb.mono H9.out.below.size))
            clear hb
            go_wp2_with fail
            go_ret
            exact ⟨rfl, H10.out⟩
end Go.Proofs.Ytldhkhaciflmoaa
