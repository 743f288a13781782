/- font: FontNone, walked. -/
import Derived.Test.YtdlmhienolmncaaGreatFontS
import Derived.Test.YtdlmhienolmncaaGreatFontH
import Derived.Test.YtdlmhienolmncaaGreatLaidGen
namespace Go.Proofs.YtdlmhienolmncaaGreat
open Go.RowKit

theorem FB.made (w : World) (wd : Bool) (A : Option Addr) (n c : Nat) (ot : Int) : FB (w.alloc (.cells #[.bool wd, .slice A n c, .int .i64 ot] 64)) w.heap.size wd A n c ot := Whole.made _ _ _
theorem FB.here {w w' : World} {B : Nat} {wd : Bool} {A : Option Addr} {n c : Nat} {ot : Int} (h : FB w B wd A n c ot) (hb : Below w.heap.size w w') : FB w' B wd A n c ot := Whole.here h hb
def codesG (gs : List Gl) : List Int := gs.map (·.code)
theorem codesG_rise {gs : List Gl} (h : Rise gs) : (codesG gs).Pairwise (· < ·) := by
  unfold codesG
  rw [List.pairwise_map, List.pairwise_iff_getElem]
  intro i j hi hj hij
  exact h i j _ _ hij (List.getElem?_eq_getElem hi) (List.getElem?_eq_getElem hj)
theorem hit_own {gs : List Gl} (h : Rise gs) {g : Gl} (hg : g ∈ gs) : hitG gs g.code = some g := by
  obtain ⟨i, hi, rfl⟩ := List.mem_iff_getElem.1 hg
  unfold hitG
  rw [List.find?_eq_some_iff_getElem]
  refine ⟨by simp, i, hi, rfl, fun j hj => ?_⟩
  have := h j i _ _ hj (List.getElem?_eq_getElem (by omega)) (List.getElem?_eq_getElem hi)
  simp
  omega
theorem fm_self : ∀ (l : List Gl) (f : Gl → Option Gl), (∀ g ∈ l, f g = some g) → l.filterMap f = l
  | [], _, _ => rfl
  | g :: r, f, h => by
    rw [List.filterMap_cons, h g (List.mem_cons_self ..)]
    show g :: r.filterMap f = g :: r
    rw [fm_self r f (fun x hx => h x (List.mem_cons_of_mem _ hx))]
theorem cutG_all {wd : Bool} {ot : Int} {gs : List Gl} (h : Rise gs) : cutG wd ot gs (codesG gs) = gs := by
  unfold cutG
  rw [sdl_self (codesG_rise h), codesG, List.filterMap_map]
  have : ∀ g ∈ gs, (pick wd ot gs ∘ Gl.code) g = some g := fun g hg => by
    show pick wd ot gs g.code = some g
    unfold pick findG
    rw [hit_own h hg]
    rfl
  exact fm_self gs _ this
theorem cutG_none {wd : Bool} {ot : Int} {gs : List Gl} : cutG wd ot gs [] = [] := by
  have : sdl [] = [] := List.eq_nil_of_length_eq_zero (Nat.le_zero.1 (sdl_len []))
  unfold cutG
  rw [this]
  rfl
def CutSaid (wd : Bool) (ot : Int) (gs : List Gl) (keep : List Int) (w : World) (e : Ending) (w' : World) : Prop :=
  ∃ wd' A' n' c' E, e = .returned (.tuple #[.agg #[.bool wd', .slice A' n' c', .int .i64 0], .int .i64 E]) ∧ Below w.heap.size w w' ∧
    ((chkB wd ot gs = false ∧ wd' = false ∧ n' = 0 ∧ E = 1) ∨ (chkB wd ot gs = true ∧ wd' = wd ∧ E = 0 ∧ Glyphs w' A' n' c' (cutG wd ot gs keep)))
theorem cut_any (wd : Bool) (A : Option Addr) (n c : Nat) (ot : Int) (gs : List Gl) (A2 : Option Addr) (n2 c2 : Nat) (keep : List Int) (w : World) (h : Glyphs w A n c gs) (h2 : IntsAt w A2 n2 c2 keep) (hn : n ≤ 1000000) (hn2 : n2 ≤ 1000000) :
    Calls Tryz.prog 32 #[.agg #[.bool wd, .slice A n c, .int .i64 ot], .slice A2 n2 c2] w (CutSaid wd ot gs keep w) := by
  cases hk : chkB wd ot gs with
  | false => exact (cut_bad wd A n c ot gs _ w h hk).mono fun e w' ⟨he, hb⟩ => ⟨false, none, 0, 0, 1, he, hb, .inl ⟨hk, rfl, rfl, rfl⟩⟩
  | true => exact (cut_ok wd A n c ot gs A2 n2 c2 keep w h hk h2 hn hn2).mono fun e w' ⟨A', n', c', he, hg, hb⟩ => ⟨wd, A', n', c', 0, he, hb, .inr ⟨hk, rfl, rfl, hg⟩⟩
end Go.Proofs.YtdlmhienolmncaaGreat

/- font: Find at any font; two fonts that are the same; what is cut, cut again. -/
namespace Go.Proofs.YtdlmhienolmncaaGreat
open Go.RowKit

theorem hit_first {gs : List Gl} {code : Int} {k : Nat} {g : Gl} (hg : gs[k]? = some g) (hc : g.code = code) (hn : ∀ j q, j < k → gs[j]? = some q → q.code ≠ code) : hitG gs code = some g := by
  obtain ⟨hi, e⟩ := List.getElem?_eq_some_iff.1 hg
  unfold hitG
  rw [List.find?_eq_some_iff_getElem]
  refine ⟨by simpa using hc, k, hi, e, fun j hj => ?_⟩
  have := hn j gs[j] hj (List.getElem?_eq_getElem (by omega))
  simpa using this
theorem hit_never {gs : List Gl} {code : Int} (hn : ∀ j q, j < gs.length → gs[j]? = some q → q.code ≠ code) : hitG gs code = none := by
  unfold hitG
  rw [List.find?_eq_none]
  intro g hg
  obtain ⟨j, hj, rfl⟩ := List.mem_iff_getElem.1 hg
  simpa using hn j _ hj (List.getElem?_eq_getElem hj)
set_option maxRecDepth 100000 in
set_option maxHeartbeats 4000000 in
theorem find_any (wd : Bool) (A : Option Addr) (n c : Nat) (ot : Int) (gs : List Gl) (code : Int) (w : World) (h : Glyphs w A n c gs) (hn : n ≤ 1000000) :
    Calls Tryz.prog 72 #[.agg #[.bool wd, .slice A n c, .int .i64 ot], .int .i64 code] w fun e w' =>
      e = .returned (.agg #[.int .i64 (findG ot gs code).code, .int .i64 (findG ot gs code).width, .string (findG ot gs code).text]) ∧ Below w.heap.size w w' := by
  have hl := h.len
  subst hl
  have hcap := h.cap
  have H := Lib.hid h
  have hF2 := (FB.made w wd A gs.length c ot).here ((Below.refl _ _).alloc (Nat.le_refl _) (.cells #[.int .i64 0, .int .i64 0, .string ⟨#[]⟩] 73))
  have hR := Whole.made (w.alloc (.cells #[.bool wd, .slice A gs.length c, .int .i64 ot] 64)) 73 #[.int .i64 0, .int .i64 0, .string ⟨#[]⟩]
  simp only [World.size_alloc] at hR
  have hB : Below w.heap.size w ((w.alloc (.cells #[.bool wd, .slice A gs.length c, .int .i64 ot] 64)).alloc (.cells #[.int .i64 0, .int .i64 0, .string ⟨#[]⟩] 73)) := by (repeat (first | with_reducible exact Below.refl _ _ | with_reducible refine Below.drew ?_ | with_reducible refine bdrewN ?_ _ | (with_reducible refine Below.setCell ?_ ?_ _; rotate_left; focus (first | exact Nat.le_refl _ | omega | (simp; omega) | (simp; done))) | (with_reducible refine Below.alloc ?_ ?_ _; rotate_left; focus (first | exact Nat.le_refl _ | omega | (simp; omega) | (simp; done))) | (with_reducible refine Below.trans ?_ (Below.mono (by assumption) ?_); rotate_left; focus (first | exact Nat.le_refl _ | omega | (simp; omega) | (simp; done)))))
  have HS := Lib.hid (And.intro (show ∀ j q, j < 0 → gs[j]? = some q → q.code ≠ code from fun j q hj => absurd hj (by omega)) (And.intro hF2 (And.intro hR hB)))
  clear h hF2 hR hB
  go_enter Tryz.func72, Tryz.ntmps72
  go_wp2_with fail
  go_loopw [10] (fun s10 wx => ∃ k : Nat, k ≤ gs.length ∧ s10 = .int .i64 k ∧ Hid ((∀ j q, j < k → gs[j]? = some q → q.code ≠ code) ∧ FB wx w.heap.size wd A gs.length c ot ∧ Whole wx (w.heap.size + 1) 73 #[.int .i64 0, .int .i64 0, .string ⟨#[]⟩] ∧ Below w.heap.size w wx)) (fun s10 _ => gs.length - (intOf s10).toNat)
  case atStart => exact ⟨0, by omega, rfl, HS⟩
  case round =>
    clear HS
    obtain ⟨k, hk, rfl, hS⟩ := hrel
    obtain ⟨f0, f1, f2⟩ := hS.out.2.1.cells
    have lF := Whole.lt hS.out.2.1
    have rd := hS.out.2.2.1.reads
    have ft := hS.out.2.2.1.thawed
    have lR := hS.out.2.2.1.lt
    by_cases hlt : k < gs.length
    · obtain ⟨g, hg⟩ : ∃ g, gs[k]? = some g := ⟨_, List.getElem?_eq_getElem hlt⟩
      obtain ⟨R, o, rfl, hRR, hc⟩ := (H.out.below hS.out.2.2.2).at_ (by omega)
      obtain ⟨k0, k1, k2⟩ := hc k g hg
      have d1 : decide ((k : Int) < (gs.length : Int)) = true := by simp; omega
      have d2 : decide (k < gs.length) = true := by simp; omega
      have HG := Lib.hid hg
      clear hg hc
      by_cases he : g.code = code
      · have d3 : (g.code == code) = true := by simp; omega
        have HF := Lib.hid (show findG ot gs code = g by unfold findG; rw [hit_first HG.out he hS.out.1]; rfl)
        clear he
        go_wp2_with fail
        have HW := (((hS.out.2.2.1.set 0 (.int .i64 g.code)).set 1 (.int .i64 g.width)).set 2 (.string g.text)).old (.cells #[.int .i64 g.code, .int .i64 g.width, .string g.text] 73)
        refine bodyPost_ret (v := .agg #[.int .i64 g.code, .int .i64 g.width, .string g.text]) (results_find _ _ (w.heap.size + 1) _ _ _ rfl (HW.reads 0) (HW.reads 1) (HW.reads 2)) rfl ⟨by rw [HF.out], ?_⟩
        (repeat (first | with_reducible refine Below.drew ?_ | with_reducible refine bdrewN ?_ _ | (with_reducible refine Below.setCell ?_ ?_ _; rotate_left; focus (first | exact Nat.le_refl _ | omega | (simp; omega) | (simp; done))) | (with_reducible refine Below.alloc ?_ ?_ _; rotate_left; focus (first | exact Nat.le_refl _ | omega | (simp; omega) | (simp; done))))); with_reducible exact hS.out.2.2.2
      · have d3 : (g.code == code) = false := by simp; omega
        have HN := Lib.hid (show ∀ j q, j < k + 1 → gs[j]? = some q → q.code ≠ code from fun j q hj hq => by
          rcases Nat.lt_succ_iff_lt_or_eq.1 hj with h | rfl
          · exact hS.out.1 j q h hq
          · rw [HG.out] at hq; injection hq with e; subst e; exact he)
        clear he
        go_wp2_with fail
        go_roundw
        case rel => exact ⟨k + 1, by omega, by go_num, Lib.hid ⟨HN.out, hS.out.2.1.here ((Below.refl _ _).alloc (Nat.le_refl _) _), hS.out.2.2.1.old _, hS.out.2.2.2.alloc hS.out.2.2.2.size _⟩⟩
        case measure => simp [intOf]; omega
    · have d1 : decide ((k : Int) < (gs.length : Int)) = false := by simp; omega
      have d2 : decide (k < gs.length) = false := by simp; omega
      have HF := Lib.hid (show findG ot gs code = ⟨code, ot, ⟨#[]⟩⟩ by unfold findG; rw [hit_never (fun j q hj => hS.out.1 j q (by omega))]; rfl)
      go_wp2_with fail
      refine bodyPost_ret (v := .agg #[.int .i64 code, .int .i64 ot, .string ⟨#[]⟩]) (by simp [results, Tryz.results72, go_sem, rd]) rfl ⟨by rw [HF.out], ?_⟩
      (repeat (first | with_reducible refine Below.drew ?_ | with_reducible refine bdrewN ?_ _ | (with_reducible refine Below.setCell ?_ ?_ _; rotate_left; focus (first | exact Nat.le_refl _ | omega | (simp; omega) | (simp; done))) | (with_reducible refine Below.alloc ?_ ?_ _; rotate_left; focus (first | exact Nat.le_refl _ | omega | (simp; omega) | (simp; done))))); with_reducible exact hS.out.2.2.2
set_option maxRecDepth 100000 in
set_option maxHeartbeats 4000000 in
theorem same18 (A : Option Addr) (n c : Nat) (A2 : Option Addr) (c2 : Nat) (gs : List Gl) (w : World) (h : Glyphs w A n c gs) (h2 : Glyphs w A2 n c2 gs) (hn : n ≤ 1000000) :
    Calls Tryz.prog 70 #[.slice A n c, .slice A2 n c2] w fun e w' => e = .returned (.bool true) ∧ Below w.heap.size w w' := by
  have hl := h.len
  subst hl
  have hcap := h.cap
  have hcap2 := h2.cap
  have H := Lib.hid (And.intro h h2)
  clear h h2
  go_enter Tryz.func70, Tryz.ntmps70
  go_wp2_with fail
  go_loopw [5] (fun s5 wx => ∃ k : Nat, k ≤ gs.length ∧ s5 = .int .i64 k ∧ Hid (Below w.heap.size w wx)) (fun s5 _ => gs.length - (intOf s5).toNat)
  case atStart => exact ⟨0, by omega, rfl, Lib.hid (Below.refl _ _)⟩
  case round =>
    obtain ⟨k, hk, rfl, hS⟩ := hrel
    by_cases hlt : k < gs.length
    · obtain ⟨g, hg⟩ : ∃ g, gs[k]? = some g := ⟨_, List.getElem?_eq_getElem hlt⟩
      obtain ⟨R1, o1, e1, hR1, hc1⟩ := (H.out.1.below hS.out).at_ (by omega)
      obtain ⟨R2, o2, e2, hR2, hc2⟩ := (H.out.2.below hS.out).at_ (by omega)
      obtain ⟨k0, k1, k2⟩ := hc1 k g hg
      obtain ⟨m0, m1, m2⟩ := hc2 k g hg
      have d2 : decide ((k : Int) < (gs.length : Int)) = true := by simp; omega
      have d3 : decide (k < gs.length) = true := by simp; omega
      have hk0 : (0 : Int) ≤ (k : Int) := by omega
      have hk1 : (k : Int) < (gs.length : Int) := by omega
      clear hg hc1 hc2
      subst e1 e2
      go_wp2_with fail
      go_quiet (fail)
      all_goals
        go_wp2_with fail
        go_roundw
        case rel => exact ⟨k + 1, by omega, by go_num, Lib.hid (below_drewN hS.out _)⟩
        case measure => simp [intOf]; omega
    · have d2 : decide ((k : Int) < (gs.length : Int)) = false := by simp; omega
      have d3 : decide (k < gs.length) = false := by simp; omega
      go_wp2_with fail
      go_ret
      exact ⟨rfl, hS.out⟩
set_option maxRecDepth 100000 in
set_option maxHeartbeats 4000000 in
theorem same19 (wd : Bool) (A : Option Addr) (n c : Nat) (A2 : Option Addr) (c2 : Nat) (ot : Int) (gs : List Gl) (w : World) (h : Glyphs w A n c gs) (h2 : Glyphs w A2 n c2 gs) (hn : n ≤ 1000000) :
    Calls Tryz.prog 39 #[.agg #[.bool wd, .slice A n c, .int .i64 ot], .agg #[.bool wd, .slice A2 n c2, .int .i64 ot]] w fun e w' => e = .returned (.bool true) ∧ Below w.heap.size w w' := by
  have hB : Below w.heap.size w ((w.alloc (.cells #[.bool wd, .slice A n c, .int .i64 ot] 64)).alloc (.cells #[.bool wd, .slice A2 n c2, .int .i64 ot] 64)) := by (repeat (first | with_reducible exact Below.refl _ _ | with_reducible refine Below.drew ?_ | with_reducible refine bdrewN ?_ _ | (with_reducible refine Below.setCell ?_ ?_ _; rotate_left; focus (first | exact Nat.le_refl _ | omega | (simp; omega) | (simp; done))) | (with_reducible refine Below.alloc ?_ ?_ _; rotate_left; focus (first | exact Nat.le_refl _ | omega | (simp; omega) | (simp; done))) | (with_reducible refine Below.trans ?_ (Below.mono (by assumption) ?_); rotate_left; focus (first | exact Nat.le_refl _ | omega | (simp; omega) | (simp; done)))))
  have H := Lib.hid (And.intro (h.below hB) (And.intro (h2.below hB) hB))
  clear h h2 hB
  go_enter Tryz.func39, Tryz.ntmps39
  go_wp2_with fail
  refine (same18 A n c A2 c2 gs _ H.out.1 H.out.2.1 hn).mono ?_
  rintro e w1 ⟨rfl, hb⟩
  have HB := Lib.hid (H.out.2.2.trans (hb.mono H.out.2.2.size))
  clear hb
  go_wp2_with fail
  go_ret
  exact ⟨rfl, HB.out⟩

theorem hit_code {gs : List Gl} {code : Int} {g : Gl} (h : hitG gs code = some g) : g.code = code ∧ g ∈ gs := by
  unfold hitG at h
  exact ⟨by simpa using List.find?_some h, List.mem_of_find?_eq_some h⟩
theorem pick_code {wd : Bool} {ot : Int} {gs : List Gl} {x : Int} {g : Gl} (h : pick wd ot gs x = some g) : g.code = x := by
  unfold pick at h
  split at h
  · injection h with e
    subst e
    unfold findG
    cases hh : hitG gs x with
    | none => rfl
    | some q => exact (hit_code hh).1
  · cases h
theorem cut_mem {wd : Bool} {ot : Int} {gs : List Gl} {keep : List Int} {g : Gl} : g ∈ cutG wd ot gs keep ↔ ∃ x ∈ keep, pick wd ot gs x = some g := by
  unfold cutG
  rw [List.mem_filterMap]
  constructor
  · rintro ⟨x, hx, e⟩; exact ⟨x, (sdl_mem _ _).1 hx, e⟩
  · rintro ⟨x, hx, e⟩; exact ⟨x, (sdl_mem _ _).2 hx, e⟩
theorem cut_rise {wd : Bool} {ot : Int} {gs : List Gl} {keep : List Int} : Rise (cutG wd ot gs keep) := by
  have hp : (cutG wd ot gs keep).Pairwise (fun a b => a.code < b.code) := by
    unfold cutG
    refine List.Pairwise.filterMap _ (fun a a' haa b hb b' hb' => ?_) (sdl_rise keep)
    have e1 := pick_code hb
    have e2 := pick_code hb'
    omega
  intro i j p g hij hi hj
  obtain ⟨h1, rfl⟩ := List.getElem?_eq_some_iff.1 hi
  obtain ⟨h2, rfl⟩ := List.getElem?_eq_some_iff.1 hj
  exact List.pairwise_iff_getElem.1 hp i j h1 h2 hij
theorem hit_cut_in {wd : Bool} {ot : Int} {gs : List Gl} {keep : List Int} {x : Int} (hx : x ∈ keep) : hitG (cutG wd ot gs keep) x = pick wd ot gs x := by
  cases hp : pick wd ot gs x with
  | some g =>
    have hc := pick_code hp
    have := hit_own (cut_rise (wd := wd) (ot := ot) (gs := gs) (keep := keep)) (cut_mem.2 ⟨x, hx, hp⟩)
    rw [hc] at this
    exact this
  | none =>
    unfold hitG
    rw [List.find?_eq_none]
    intro g hg
    obtain ⟨y, hy, e⟩ := cut_mem.1 hg
    have hc := pick_code e
    simp only [beq_iff_eq]
    intro e2
    have : y = x := by omega
    subst this
    rw [hp] at e
    cases e
theorem hit_cut_out {wd : Bool} {ot : Int} {gs : List Gl} {keep : List Int} {x : Int} (hx : ¬ x ∈ keep) : hitG (cutG wd ot gs keep) x = none := by
  unfold hitG
  rw [List.find?_eq_none]
  intro g hg
  obtain ⟨y, hy, e⟩ := cut_mem.1 hg
  have hc := pick_code e
  simp only [beq_iff_eq]
  intro e2
  have : y = x := by omega
  subst this
  exact hx hy
theorem fm_congr {f g : Int → Option Gl} : ∀ (l : List Int), (∀ x ∈ l, f x = g x) → l.filterMap f = l.filterMap g
  | [], _ => rfl
  | x :: r, h => by rw [List.filterMap_cons, List.filterMap_cons, h x (List.mem_cons_self ..), fm_congr r (fun y hy => h y (List.mem_cons_of_mem _ hy))]
theorem cut_twice {wd : Bool} {ot : Int} {gs : List Gl} {keep : List Int} : cutG wd 0 (cutG wd ot gs keep) keep = cutG wd ot gs keep := by
  show (sdl keep).filterMap _ = (sdl keep).filterMap _
  refine fm_congr _ fun x hx => ?_
  have hh := hit_cut_in (wd := wd) (ot := ot) (gs := gs) ((sdl_mem _ _).1 hx)
  cases hp : pick wd ot gs x with
  | some g =>
    rw [hp] at hh
    unfold pick findG
    rw [hh]
    rfl
  | none =>
    rw [hp] at hh
    unfold pick
    rw [hh]
    rfl
theorem cut_members {wd : Bool} {ot : Int} {gs : List Gl} {k l : List Int} (h : ∀ x, x ∈ k ↔ x ∈ l) : cutG wd ot gs k = cutG wd ot gs l := by
  have : sdl k = sdl l := rise_eq _ _ (sdl_rise k) (sdl_rise l) (fun x => by rw [sdl_mem, sdl_mem, h])
  unfold cutG
  rw [this]
theorem cut_len {wd : Bool} {ot : Int} {gs : List Gl} {keep : List Int} : (cutG wd ot gs keep).length ≤ keep.length := Nat.le_trans (List.length_filterMap_le _ _) (sdl_len keep)
theorem chk_parts {wd : Bool} {ot : Int} {gs : List Gl} (h : chkB wd ot gs = true) : widthB ot = true ∧ ∀ g ∈ gs, codeB wd g.code = true ∧ widthB g.width = true ∧ (g.text.size == 0 || textB g.text) = true := by
  unfold chkB at h
  simp only [Bool.and_eq_true, List.all_eq_true, decide_eq_true_iff] at h
  refine ⟨h.1, fun g hg => ?_⟩
  obtain ⟨i, hi, rfl⟩ := List.mem_iff_getElem.1 hg
  have := h.2.2 i (List.mem_range.2 hi)
  unfold okAt at this
  rw [List.getElem?_eq_getElem hi] at this
  simp only [Bool.and_eq_true] at this
  exact ⟨this.1, this.2.1, this.2.2.1⟩
theorem chk_cut {wd : Bool} {ot : Int} {gs : List Gl} {keep : List Int} (h : chkB wd ot gs = true) (hl : keep.length ≤ 4096) : chkB wd 0 (cutG wd ot gs keep) = true := by
  obtain ⟨h1, h2⟩ := chk_parts h
  have hall : ∀ g ∈ cutG wd ot gs keep, codeB wd g.code = true ∧ widthB g.width = true ∧ (g.text.size == 0 || textB g.text) = true := fun g hg => by
    obtain ⟨x, _, e⟩ := cut_mem.1 hg
    have hc := pick_code e
    unfold pick at e
    split at e
    next hcond =>
      injection e with e
      subst e
      cases hh : hitG gs x with
      | some q =>
        have : findG ot gs x = q := by unfold findG; rw [hh]; rfl
        rw [this]
        exact h2 q (hit_code hh).2
      | none =>
        rw [hh] at hcond
        have : findG ot gs x = ⟨x, ot, ⟨#[]⟩⟩ := by unfold findG; rw [hh]; rfl
        rw [this]
        simp only [Option.isSome_none, Bool.false_or, Bool.and_eq_true] at hcond
        exact ⟨hcond.2, h1, rfl⟩
    next => cases e
  unfold chkB
  simp only [Bool.and_eq_true, List.all_eq_true, decide_eq_true_iff]
  refine ⟨by decide, Nat.le_trans cut_len hl, fun i hi => ?_⟩
  have hi := List.mem_range.1 hi
  obtain ⟨a, b, c⟩ := hall _ (List.getElem_mem hi)
  unfold okAt
  rw [List.getElem?_eq_getElem hi]
  simp only [Bool.and_eq_true]
  refine ⟨a, b, c, ?_⟩
  rw [Bool.or_eq_true]
  rcases Nat.eq_zero_or_pos i with rfl | hp
  · exact .inl rfl
  · right
    rw [List.getElem?_eq_getElem (by omega : i - 1 < (cutG wd ot gs keep).length)]
    exact decide_eq_true (cut_rise (i - 1) i _ _ (by omega) (List.getElem?_eq_getElem _) (List.getElem?_eq_getElem hi))
theorem find_cut_in {wd : Bool} {ot : Int} {gs : List Gl} {keep : List Int} {x : Int} (h : chkB wd ot gs = true) (hx : x ∈ keep) (hc : codeB wd x = true) : findG 0 (cutG wd ot gs keep) x = findG ot gs x := by
  obtain ⟨h1, _⟩ := chk_parts h
  have hh := hit_cut_in (wd := wd) (ot := ot) (gs := gs) hx
  cases hp : pick wd ot gs x with
  | some g =>
    rw [hp] at hh
    have e1 : findG 0 (cutG wd ot gs keep) x = g := by unfold findG; rw [hh]; rfl
    rw [e1]
    unfold pick at hp
    split at hp
    · injection hp with e; exact e.symm
    · cases hp
  | none =>
    rw [hp] at hh
    have e1 : findG 0 (cutG wd ot gs keep) x = ⟨x, 0, ⟨#[]⟩⟩ := by unfold findG; rw [hh]; rfl
    rw [e1]
    unfold pick at hp
    split at hp
    · cases hp
    next hcond =>
      rw [hc, Bool.and_true, Bool.or_eq_true, not_or] at hcond
      have hz : ot = 0 := by
        unfold widthB at h1
        rw [decide_eq_true_iff] at h1
        have := hcond.2
        simp at this
        omega
      have hn : hitG gs x = none := by
        cases hq : hitG gs x with
        | none => rfl
        | some q => rw [hq] at hcond; exact absurd rfl hcond.1
      unfold findG
      rw [hn, hz]
      rfl
theorem find_cut_out {wd : Bool} {ot : Int} {gs : List Gl} {keep : List Int} {x : Int} (hx : ¬ x ∈ keep) : findG 0 (cutG wd ot gs keep) x = ⟨x, 0, ⟨#[]⟩⟩ := by
  unfold findG
  rw [hit_cut_out hx]
  rfl
end Go.Proofs.YtdlmhienolmncaaGreat
