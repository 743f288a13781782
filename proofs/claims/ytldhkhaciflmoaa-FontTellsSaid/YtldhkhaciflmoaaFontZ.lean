/- font: insertion on lists, and what a code adds to a cut font. Pure. -/
import Derived.Test.YtldhkhaciflmoaaFontY
namespace Go.Proofs.Ytldhkhaciflmoaa
open Go.RowKit

def ins (g : Gl) : List Gl → List Gl
  | [] => [g]
  | x :: r => if g.code < x.code then g :: x :: r else x :: ins g r
def finS (g : Gl) (s : List Gl × Bool) : List Gl := if s.2 then s.1 else s.1 ++ [g]
theorem insF_t (g : Gl) : ∀ (l acc : List Gl), l.foldl (insStep g) (acc, true) = (acc ++ l, true)
  | [], acc => by simp
  | x :: r, acc => by
    rw [List.foldl_cons, show insStep g (acc, true) x = (acc ++ [x], true) by unfold insStep; rw [if_neg (by simp)], insF_t g r]
    simp
theorem insF_f (g : Gl) : ∀ (l acc : List Gl), finS g (l.foldl (insStep g) (acc, false)) = acc ++ ins g l
  | [], acc => rfl
  | x :: r, acc => by
    rw [List.foldl_cons, ins]
    by_cases h : g.code < x.code
    · rw [show insStep g (acc, false) x = (acc ++ [g] ++ [x], true) by unfold insStep; rw [if_pos (by simp [h])], insF_t, if_pos h]
      simp [finS]
    · rw [show insStep g (acc, false) x = (acc ++ [x], false) by unfold insStep; rw [if_neg (by simp; omega)], insF_f g r, if_neg h]
      simp
theorem insR_ins (g : Gl) (l : List Gl) : insR g l = ins g l := by
  have := insF_f g l []
  rw [List.nil_append] at this
  exact this
theorem ins_mem {g y : Gl} : ∀ {l : List Gl}, y ∈ ins g l ↔ y = g ∨ y ∈ l
  | [] => by simp [ins]
  | x :: r => by
    rw [ins]
    split
    · simp
    · rw [List.mem_cons, ins_mem, List.mem_cons]
      constructor
      · rintro (h | h | h)
        · exact .inr (.inl h)
        · exact .inl h
        · exact .inr (.inr h)
      · rintro (h | h | h)
        · exact .inr (.inl h)
        · exact .inl h
        · exact .inr (.inr h)
theorem ins_pw {g : Gl} : ∀ {l : List Gl}, l.Pairwise (fun a b => a.code < b.code) → (∀ x ∈ l, x.code ≠ g.code) → (ins g l).Pairwise (fun a b => a.code < b.code)
  | [], _, _ => by simp [ins]
  | x :: r, h, hn => by
    obtain ⟨h1, h2⟩ := List.pairwise_cons.1 h
    have hx := hn x (List.mem_cons_self ..)
    rw [ins]
    split
    next hlt =>
      refine List.pairwise_cons.2 ⟨fun y hy => ?_, h⟩
      rcases List.mem_cons.1 hy with rfl | hy
      · exact hlt
      · have := h1 y hy; omega
    next hlt =>
      refine List.pairwise_cons.2 ⟨fun y hy => ?_, ins_pw h2 (fun y hy => hn y (List.mem_cons_of_mem _ hy))⟩
      rcases ins_mem.1 hy with rfl | hy
      · omega
      · exact h1 y hy
theorem gl_eq : ∀ (l k : List Gl), l.Pairwise (fun a b => a.code < b.code) → k.Pairwise (fun a b => a.code < b.code) → (∀ x, x ∈ l ↔ x ∈ k) → l = k
  | [], [], _, _, _ => rfl
  | [], y :: k, _, _, h => by have := (h y).2 (List.mem_cons_self ..); cases this
  | x :: l, [], _, _, h => by have := (h x).1 (List.mem_cons_self ..); cases this
  | x :: l, y :: k, hl, hk, h => by
    obtain ⟨a1, a2⟩ := List.pairwise_cons.1 hl
    obtain ⟨b1, b2⟩ := List.pairwise_cons.1 hk
    have e : x = y := by
      rcases List.mem_cons.1 ((h x).1 (List.mem_cons_self ..)) with e | h1
      · exact e
      · rcases List.mem_cons.1 ((h y).2 (List.mem_cons_self ..)) with e | h2
        · exact e.symm
        · have := a1 y h2; have := b1 x h1; omega
    subst e
    congr 1
    refine gl_eq l k a2 b2 fun z => ⟨fun hz => ?_, fun hz => ?_⟩
    · rcases List.mem_cons.1 ((h z).1 (List.mem_cons_of_mem _ hz)) with rfl | h1
      · have := a1 z hz; omega
      · exact h1
    · rcases List.mem_cons.1 ((h z).2 (List.mem_cons_of_mem _ hz)) with rfl | h1
      · have := b1 z hz; omega
      · exact h1
theorem cut_pw {wd : Bool} {ot : Int} {gs : List Gl} {keep : List Int} : (cutG wd ot gs keep).Pairwise (fun a b => a.code < b.code) := by
  unfold cutG
  refine List.Pairwise.filterMap _ (fun a a' haa b hb b' hb' => ?_) (sdl_rise keep)
  have e1 := pick_code hb
  have e2 := pick_code hb'
  omega
theorem cut_add_none {wd : Bool} {ot : Int} {gs : List Gl} {keep : List Int} {x : Int} (h : pick wd ot gs x = none) : cutG wd ot gs (keep ++ [x]) = cutG wd ot gs keep := by
  refine gl_eq _ _ cut_pw cut_pw fun y => ?_
  rw [cut_mem, cut_mem]
  constructor
  · rintro ⟨z, hz, e⟩
    rcases List.mem_append.1 hz with hz | hz
    · exact ⟨z, hz, e⟩
    · simp at hz
      subst hz
      rw [h] at e
      cases e
  · rintro ⟨z, hz, e⟩
    exact ⟨z, List.mem_append_left _ hz, e⟩
theorem cut_add_in {wd : Bool} {ot : Int} {gs : List Gl} {keep : List Int} {x : Int} (h : x ∈ keep) : cutG wd ot gs (keep ++ [x]) = cutG wd ot gs keep :=
  cut_members fun y => by
    rw [List.mem_append]
    constructor
    · rintro (h1 | h1)
      · exact h1
      · simp at h1; subst h1; exact h
    · exact .inl
theorem cut_add_new {wd : Bool} {ot : Int} {gs : List Gl} {keep : List Int} {x : Int} {g : Gl} (h : pick wd ot gs x = some g) (hx : ¬ x ∈ keep) : cutG wd ot gs (keep ++ [x]) = insR g (cutG wd ot gs keep) := by
  rw [insR_ins]
  have hgc := pick_code h
  refine gl_eq _ _ cut_pw (ins_pw cut_pw fun y hy e => ?_) fun y => ?_
  · obtain ⟨z, hz, e2⟩ := cut_mem.1 hy
    have := pick_code e2
    obtain rfl : z = x := by omega
    exact hx hz
  · rw [ins_mem, cut_mem, cut_mem]
    constructor
    · rintro ⟨z, hz, e⟩
      rcases List.mem_append.1 hz with hz | hz
      · exact .inr ⟨z, hz, e⟩
      · simp at hz
        subst hz
        rw [h] at e
        injection e with e
        exact .inl e.symm
    · rintro (rfl | ⟨z, hz, e⟩)
      · exact ⟨x, by simp, h⟩
      · exact ⟨z, List.mem_append_left _ hz, e⟩
/-- A code that the font may not have adds nothing. -/
theorem pick_bad {wd : Bool} {ot : Int} {gs : List Gl} {x : Int} (h : chkB wd ot gs = true) (hx : codeB wd x = false) : pick wd ot gs x = none := by
  have hn : hitG gs x = none := by
    cases hh : hitG gs x with
    | none => rfl
    | some g =>
      obtain ⟨e, hm⟩ := hit_code hh
      have := ((chk_parts h).2 g hm).1
      rw [e, hx] at this
      cases this
  unfold pick
  rw [hn, hx]
  simp
theorem find_code (gs : List Gl) (ot x : Int) : (findG ot gs x).code = x := by
  unfold findG
  cases hh : hitG gs x with
  | none => rfl
  | some g => exact (hit_code hh).1
/-- One code's step, as the reference takes it. -/
theorem cut_ref_step {wd : Bool} {ot : Int} {gs : List Gl} {keep : List Int} {x : Int} (hx : codeB wd x = true) :
    cutG wd ot gs (keep ++ [x]) = if ((decide (0 < ot) || (hitG gs x).isSome) && !(hitG (cutG wd ot gs keep) x).isSome) = true then insR (findG ot gs x) (cutG wd ot gs keep) else cutG wd ot gs keep := by
  have hp : pick wd ot gs x = if (decide (0 < ot) || (hitG gs x).isSome) = true then some (findG ot gs x) else none := by
    unfold pick
    rw [hx, Bool.and_true, Bool.or_comm]
  cases hc : (decide (0 < ot) || (hitG gs x).isSome) with
  | false =>
    rw [hc, if_neg (by simp)] at hp
    rw [if_neg (by simp), cut_add_none hp]
  | true =>
    rw [hc, if_pos rfl] at hp
    by_cases hk : x ∈ keep
    · rw [hit_cut_in hk, hp, if_neg (by simp), cut_add_in hk]
    · rw [hit_cut_out hk, if_pos (by simp), cut_add_new hp hk]
end Go.Proofs.Ytldhkhaciflmoaa
