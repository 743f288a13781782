/- font: where a code stands among glyphs: the closure of the search, the library's BinarySearchFunc, place, search. -/
import Derived.Test.YtldhkhaciflmoaaFontP
import Derived.BigRegion
namespace Go.Proofs.Ytldhkhaciflmoaa
open Go.RowKit

/-- The glyphs rise by their codes. -/
def Rise (gs : List Gl) : Prop := ∀ (i j : Nat) (p g : Gl), i < j → gs[i]? = some p → gs[j]? = some g → p.code < g.code
theorem rise_chk {wd : Bool} {ot : Int} {gs : List Gl} (h : chkB wd ot gs = true) : Rise gs := by
  have h1 : ∀ i p g, gs[i]? = some p → gs[i + 1]? = some g → p.code < g.code := fun i p g hp hg => by
    unfold chkB at h
    simp only [Bool.and_eq_true, List.all_eq_true, decide_eq_true_iff] at h
    have := h.2.2 (i + 1) (List.mem_range.2 (List.getElem?_eq_some_iff.1 hg).1)
    unfold okAt at this
    rw [hg] at this
    simp only [Bool.and_eq_true, Nat.add_sub_cancel, hp, Bool.or_eq_true, decide_eq_true_iff] at this
    rcases this.2.2.2 with e | e
    · simp at e
    · exact e
  intro i j p g hij hp hg
  obtain ⟨d, rfl⟩ : ∃ d, j = i + 1 + d := ⟨j - i - 1, by omega⟩
  clear hij
  induction d generalizing g with
  | zero => exact h1 i p g hp hg
  | succ d ih =>
    obtain ⟨q, hq⟩ : ∃ q, gs[i + 1 + d]? = some q := ⟨_, List.getElem?_eq_getElem (by have := (List.getElem?_eq_some_iff.1 hg).1; omega)⟩
    have a := ih q hq
    have b := h1 (i + 1 + d) q g hq hg
    omega
def hitG (gs : List Gl) (code : Int) : Option Gl := gs.find? (fun g => g.code == code)
def PlaceIs (gs : List Gl) (code : Int) (i : Nat) : Prop := i ≤ gs.length ∧ (∀ j g, j < i → gs[j]? = some g → g.code < code) ∧ (∀ j g, i ≤ j → gs[j]? = some g → code ≤ g.code)
theorem PlaceIs.yes {gs : List Gl} {code : Int} {i : Nat} {g : Gl} (h : PlaceIs gs code i) (hg : gs[i]? = some g) (hc : g.code = code) : hitG gs code = some g := by
  obtain ⟨hi, e⟩ := List.getElem?_eq_some_iff.1 hg
  unfold hitG
  rw [List.find?_eq_some_iff_getElem]
  refine ⟨by simpa using hc, i, hi, e, fun j hj => ?_⟩
  have := h.2.1 j gs[j] hj (List.getElem?_eq_getElem (by omega))
  simp
  omega
theorem PlaceIs.no {gs : List Gl} {code : Int} {i : Nat} (h : PlaceIs gs code i) (hr : Rise gs) (hn : ∀ g, gs[i]? = some g → g.code ≠ code) : hitG gs code = none := by
  unfold hitG
  rw [List.find?_eq_none]
  intro g hg
  obtain ⟨j, hj, rfl⟩ := List.mem_iff_getElem.1 hg
  have hjs := List.getElem?_eq_getElem hj
  simp only [beq_iff_eq]
  intro e
  rcases Nat.lt_trichotomy j i with h' | rfl | h'
  · have := h.2.1 j _ h' hjs; omega
  · exact hn _ hjs e
  · have hil : i < gs.length := by omega
    have h1 := hr i j _ _ h' (List.getElem?_eq_getElem hil) hjs
    have h2 := h.2.2 i _ (Nat.le_refl _) (List.getElem?_eq_getElem hil)
    omega
theorem closure_any (g : Gl) (code : Int) (w : World) :
    Calls Try.prog 47 #[.agg #[.int .i64 g.code, .int .i64 g.width, .string g.text], .int .i64 code] w fun e w' => e = .returned (.int .i64 (Lib.compareInt g.code code)) ∧ Below w.heap.size w w' := by
  go_enter Try.func47, Try.ntmps47
  go_wp2_with fail
  refine (Try.cmp_Compare_int g.code code _).mono ?_
  rintro e w1 ⟨rfl, rfl⟩
  go_wp2_with fail
  go_ret
  exact ⟨rfl, (Below.refl _ _).alloc (Nat.le_refl _) _⟩
theorem cmp_lt (x y : Int) : (Lib.compareInt x y < 0 ↔ x < y) ∧ (Lib.compareInt x y = 0 ↔ x = y) := by
  unfold Lib.compareInt
  split
  · omega
  · split <;> omega
def PlaceSaid (gs : List Gl) (code : Int) (w : World) (e : Ending) (w' : World) : Prop :=
  ∃ (i : Nat) (b : Bool), e = .returned (.tuple #[.int .i64 i, .bool b]) ∧ PlaceIs gs code i ∧ (b = true → ∃ g, gs[i]? = some g ∧ g.code = code) ∧ (b = false → ∀ g, gs[i]? = some g → g.code ≠ code) ∧ Below w.heap.size w w'
set_option maxRecDepth 100000 in
set_option maxHeartbeats 4000000 in
theorem bsearch_any (A : Option Addr) (n c : Nat) (gs : List Gl) (code : Int) (w : World) (h : Glyphs w A n c gs) (hr : Rise gs) (hn : n ≤ 1000000) :
    Calls Try.prog 46 #[.slice A n c, .int .i64 code, .func (.func 47) #[] #[]] w (PlaceSaid gs code w) := by
  have hl := h.len
  subst hl
  have H := Lib.hid (And.intro h hr)
  clear h hr
  go_enter Try.func46, Try.ntmps46
  have hcap := H.out.1.cap
  have htop := H.out.1.top
  have hce : ∀ (args : Array Value) (w : World), (callFunc 47 args).run Try.prog w = .ok (.enter 47 args) w := fun _ _ => rfl
  go_wp2_with fail
  go_loopw [9, 10] (fun s9 s10 wx => ∃ i j : Nat, i ≤ j ∧ j ≤ gs.length ∧ s9 = .int .i64 i ∧ s10 = .int .i64 j ∧ Hid ((∀ k g, k < i → gs[k]? = some g → g.code < code) ∧ (∀ k g, j ≤ k → gs[k]? = some g → code ≤ g.code) ∧ Below w.heap.size w wx)) (fun s9 s10 _ => (intOf s10).toNat - (intOf s9).toNat)
  case atStart => exact ⟨0, gs.length, by omega, by omega, rfl, rfl, Lib.hid ⟨fun k g h => absurd h (by omega), fun k g hk hg => absurd (List.getElem?_eq_some_iff.1 hg).1 (by omega), Below.refl _ _⟩⟩
  case round =>
    obtain ⟨i, j, hij, hjn, rfl, rfl, hS⟩ := hrel
    by_cases hlt : i < j
    · have d1 : decide ((i : Int) < (j : Int)) = true := by simp; omega
      have d2 : decide (i < j) = true := by simp; omega
      obtain ⟨m, hm⟩ : ∃ m, (i + j) / 2 = m := ⟨_, rfl⟩
      have hmi : i ≤ m := by omega
      have hmj : m < j := by omega
      obtain ⟨R, o, rfl, hR, hc⟩ := (H.out.1.below hS.out.2.2).at_ (by omega)
      obtain ⟨g, hg⟩ : ∃ g, gs[m]? = some g := ⟨_, List.getElem?_eq_getElem (by omega)⟩
      obtain ⟨k0, k1, k2⟩ := hc m g hg
      have hq : ((i : Int) + (j : Int)) / 2 = (m : Int) := by omega
      have HM := Lib.hid (And.intro hm hg)
      clear hm hg hc
      go_wp2_with fail
      refine (closure_any g code _).mono ?_
      rintro e w1 ⟨rfl, hb⟩
      have hcl := cmp_lt g.code code
      have HB := Lib.hid (hS.out.2.2.trans (hb.mono hS.out.2.2.size))
      clear hb k0 k1 k2 hR
      obtain ⟨cv, hcv⟩ : ∃ x, Lib.compareInt g.code code = x := ⟨_, rfl⟩
      rw [hcv] at hcl
      rw [hcv]
      clear hcv
      by_cases hl : g.code < code
      · have d3 : decide (cv < 0) = true := by simp; omega
        have HN := Lib.hid (show ∀ k q, k < m + 1 → gs[k]? = some q → q.code < code from fun k q hk hkq => by
          rcases Nat.lt_succ_iff_lt_or_eq.1 hk with h | rfl
          · exact Int.lt_trans (H.out.2 k m q g h hkq HM.out.2) hl
          · rw [HM.out.2] at hkq; injection hkq with e; subst e; exact hl)
        clear hcl hl
        go_wp2_with fail
        go_roundw
        case rel => exact ⟨m + 1, j, by omega, by omega, by go_num, rfl, Lib.hid ⟨HN.out, hS.out.2.1, HB.out⟩⟩
        case measure => simp [intOf]; omega
      · have d3 : decide (cv < 0) = false := by simp; omega
        have HN := Lib.hid (show ∀ k q, m ≤ k → gs[k]? = some q → code ≤ q.code from fun k q hk hkq => by
          rcases Nat.lt_or_eq_of_le hk with h | rfl
          · have := H.out.2 m k g q h HM.out.2 hkq; omega
          · rw [HM.out.2] at hkq; injection hkq with e; subst e; omega)
        clear hcl hl
        go_wp2_with fail
        go_roundw
        case rel => exact ⟨i, m, by omega, by omega, rfl, rfl, Lib.hid ⟨hS.out.1, HN.out, HB.out⟩⟩
        case measure => simp [intOf]; omega
    · obtain rfl : i = j := by omega
      have d1 : decide ((i : Int) < (i : Int)) = false := by simp
      by_cases hin : i < gs.length
      · obtain ⟨R, o, rfl, hR, hc⟩ := (H.out.1.below hS.out.2.2).at_ (by omega)
        obtain ⟨g, hg⟩ : ∃ g, gs[i]? = some g := ⟨_, List.getElem?_eq_getElem hin⟩
        obtain ⟨k0, k1, k2⟩ := hc i g hg
        have d2 : decide ((i : Int) < (gs.length : Int)) = true := by simp; omega
        have d3 : decide (i < gs.length) = true := by simp; omega
        have HG := Lib.hid hg
        clear hg hc
        go_wp2_with fail
        refine (closure_any g code _).mono ?_
        rintro e w1 ⟨rfl, hb⟩
        have hcl := cmp_lt g.code code
        have HB := Lib.hid (hS.out.2.2.trans (hb.mono hS.out.2.2.size))
        clear hb k0 k1 k2 hR
        obtain ⟨cv, hcv⟩ : ∃ x, Lib.compareInt g.code code = x := ⟨_, rfl⟩
        rw [hcv] at hcl
        rw [hcv]
        clear hcv
        by_cases he : g.code = code
        · have d4 : (cv == 0) = true := by simp; omega
          have HE := Lib.hid he
          clear hcl he
          go_wp2_with fail
          go_ret2
          exact ⟨i, true, rfl, ⟨by omega, hS.out.1, hS.out.2.1⟩, fun _ => ⟨g, HG.out, HE.out⟩, (fun h => by cases h), HB.out⟩
        · have d4 : (cv == 0) = false := by simp; omega
          have HE := Lib.hid he
          clear hcl he
          go_wp2_with fail
          go_ret2
          exact ⟨i, false, rfl, ⟨by omega, hS.out.1, hS.out.2.1⟩, (fun h => by cases h), (fun _ q hq => by rw [HG.out] at hq; injection hq with e; subst e; exact HE.out), HB.out⟩
      · have d2 : decide ((i : Int) < (gs.length : Int)) = false := by simp; omega
        have d3 : decide (i < gs.length) = false := by simp; omega
        go_wp2_with fail
        go_ret2
        exact ⟨i, false, rfl, ⟨by omega, hS.out.1, hS.out.2.1⟩, (fun h => by cases h), (fun _ q hq => absurd (List.getElem?_eq_some_iff.1 hq).1 hin), hS.out.2.2⟩
theorem place_any (A : Option Addr) (n c : Nat) (gs : List Gl) (code : Int) (w : World) (h : Glyphs w A n c gs) (hr : Rise gs) (hn : n ≤ 1000000) :
    Calls Try.prog 38 #[.slice A n c, .int .i64 code] w (PlaceSaid gs code w) := by
  have H := Lib.hid (And.intro h hr)
  clear h hr
  go_enter Try.func38, Try.ntmps38
  go_wp2_with fail
  refine (bsearch_any A n c gs code _ H.out.1 H.out.2 hn).mono ?_
  rintro e w1 ⟨i, b, rfl, hp⟩
  have HP := Lib.hid hp
  clear hp
  go_wp2_with fail
  go_ret2
  exact ⟨i, b, rfl, HP.out⟩
/-- The glyph of a code: the one found, or one of the width of the others. -/
def findG (ot : Int) (gs : List Gl) (code : Int) : Gl := (hitG gs code).getD ⟨code, ot, ⟨#[]⟩⟩
set_option maxRecDepth 100000 in
set_option maxHeartbeats 4000000 in
theorem search_any (wd : Bool) (A : Option Addr) (n c : Nat) (ot : Int) (gs : List Gl) (code : Int) (w : World) (h : Glyphs w A n c gs) (hr : Rise gs) (hn : n ≤ 1000000) :
    Calls Try.prog 25 #[.agg #[.bool wd, .slice A n c, .int .i64 ot], .int .i64 code] w fun e w' =>
      e = .returned (.tuple #[.agg #[.int .i64 (findG ot gs code).code, .int .i64 (findG ot gs code).width, .string (findG ot gs code).text], .bool (hitG gs code).isSome]) ∧ Below w.heap.size w w' := by
  have H := Lib.hid (And.intro h hr)
  have hF := Whole.made w 24 #[.bool wd, .slice A n c, .int .i64 ot]
  have hF2 := hF.old (.cells #[.int .i64 0, .int .i64 0, .string ⟨#[]⟩] 35)
  have hR := Whole.made (w.alloc (.cells #[.bool wd, .slice A n c, .int .i64 ot] 24)) 35 #[.int .i64 0, .int .i64 0, .string ⟨#[]⟩]
  simp only [World.size_alloc] at hR
  have hB : Below w.heap.size w ((w.alloc (.cells #[.bool wd, .slice A n c, .int .i64 ot] 24)).alloc (.cells #[.int .i64 0, .int .i64 0, .string ⟨#[]⟩] 35)) := by (repeat (first | with_reducible exact Below.refl _ _ | with_reducible refine Below.drew ?_ | with_reducible refine bdrewN ?_ _ | (with_reducible refine Below.setCell ?_ ?_ _; rotate_left; focus (first | exact Nat.le_refl _ | omega | (simp; omega) | (simp; done))) | (with_reducible refine Below.alloc ?_ ?_ _; rotate_left; focus (first | exact Nat.le_refl _ | omega | (simp; omega) | (simp; done))) | (with_reducible refine Below.trans ?_ (Below.mono (by assumption) ?_); rotate_left; focus (first | exact Nat.le_refl _ | omega | (simp; omega) | (simp; done)))))
  have HS := Lib.hid (And.intro hF2 (And.intro hR hB))
  clear h hr hF hF2 hR hB
  go_enter Try.func25, Try.ntmps25
  go_wp2_with fail
  refine (place_any A n c gs code _ (H.out.1.below HS.out.2.2) H.out.2 hn).mono ?_
  rintro e w1 ⟨i, b, rfl, hp, hyes, hno, hb⟩
  have hF := HS.out.1.here hb
  have hR := HS.out.2.1.here hb
  have hB := HS.out.2.2.trans (hb.mono HS.out.2.2.size)
  have hgl := H.out.1.below hB
  have cf := hF.reads
  have rd := hR.reads
  have ft := hR.thawed
  have lF := hF.lt
  have lR := hR.lt
  have HB := Lib.hid hB
  clear hb hF hR hB HS
  cases b with
  | false =>
    have hh : hitG gs code = none := hp.no H.out.2 (hno rfl)
    have hf : findG ot gs code = ⟨code, ot, ⟨#[]⟩⟩ := by unfold findG; rw [hh]; rfl
    have HF := Lib.hid (And.intro hf hh)
    clear hp hyes hno hgl hh hf
    go_wp2_with fail
    refine bodyPost_ret (v := .tuple #[.agg #[.int .i64 code, .int .i64 ot, .string ⟨#[]⟩], .bool false]) (by simp [results, Try.results25, go_sem, rd]) rfl ⟨by rw [HF.out.1, HF.out.2]; rfl, ?_⟩
    (repeat (first | with_reducible refine Below.drew ?_ | with_reducible refine bdrewN ?_ _ | (with_reducible refine Below.setCell ?_ ?_ _; rotate_left; focus (first | exact Nat.le_refl _ | omega | (simp; omega) | (simp; done))) | (with_reducible refine Below.alloc ?_ ?_ _; rotate_left; focus (first | exact Nat.le_refl _ | omega | (simp; omega) | (simp; done))))); with_reducible exact HB.out
  | true =>
    obtain ⟨g, hg, hgc⟩ := hyes rfl
    have hh : hitG gs code = some g := hp.yes hg hgc
    have hf : findG ot gs code = g := by unfold findG; rw [hh]; rfl
    have HF := Lib.hid (And.intro hf hh)
    have hin := (List.getElem?_eq_some_iff.1 hg).1
    obtain ⟨R, o, rfl, hRR, hc⟩ := hgl.at_ (by have := hgl.len; omega)
    obtain ⟨k0, k1, k2⟩ := hc i g hg
    have hin2 : i < n := by have := hgl.len; omega
    have hcap := hgl.cap
    clear hp hyes hno hgl hh hf hc hgc hg hin
    go_wp2_with fail
    refine bodyPost_ret (v := .tuple #[.agg #[.int .i64 g.code, .int .i64 g.width, .string g.text], .bool true]) (by simp [results, Try.results25, go_sem, rd]) rfl ⟨by rw [HF.out.1, HF.out.2]; rfl, ?_⟩
    (repeat (first | with_reducible refine Below.drew ?_ | with_reducible refine bdrewN ?_ _ | (with_reducible refine Below.setCell ?_ ?_ _; rotate_left; focus (first | exact Nat.le_refl _ | omega | (simp; omega) | (simp; done))) | (with_reducible refine Below.alloc ?_ ?_ _; rotate_left; focus (first | exact Nat.le_refl _ | omega | (simp; omega) | (simp; done))))); with_reducible exact HB.out
end Go.Proofs.Ytldhkhaciflmoaa
