/- font: the small questions: is a number a width, is it a code, is a text one; how long are codes. -/
import Derived.Test.YtdlmhienolmncaaGreatMem
import Derived.Test.YtdlmhienolmncaaGreatRows
import Derived.WalkKit
import Derived.WalkSpells
import Derived.Outline
import Derived.Lib.Hide
import Derived.Lib.SliceRun
import Derived.Deep.QuietTactic
import Derived.BigQuiet
import Derived.Lib.Strings
import Derived.IntWalk
namespace Go.Proofs.YtdlmhienolmncaaGreat
open Go.RowKit

/-- May a number be a code? -/
def codeB (wd : Bool) (x : Int) : Bool := decide (0 ≤ x ∧ x < (if wd then 65536 else 256))
def widthB (x : Int) : Bool := decide (0 ≤ x ∧ x ≤ 10000)
def textB (s : ByteArray) : Bool := decide (0 < s.size ∧ s.size ≤ 16 ∧ s.size % 2 = 0)
theorem ret_b {a b : Bool} (h : a = b) : Ending.returned (.bool a) = .returned (.bool b) := by rw [h]
theorem dec_t {p : Prop} [Decidable p] (h : p) : true = decide p := (decide_eq_true h).symm
theorem dec_f {p : Prop} [Decidable p] (h : ¬ p) : false = decide p := (decide_eq_false h).symm
theorem isWidth_any (x : Int) (w : World) : Calls Tryz.prog 86 #[.int .i64 x] w fun e w' => e = .returned (.bool (widthB x)) ∧ w = w' := by
  by_cases h0 : 0 ≤ x
  · by_cases h1 : x ≤ 10000
    all_goals
      go_enter Tryz.func86, Tryz.ntmps86
      go_wp2
      go_ret
      exact ⟨ret_b (by first | exact dec_t (by omega) | exact dec_f (by omega)), rfl⟩
  · go_enter Tryz.func86, Tryz.ntmps86
    go_wp2
    go_ret
    exact ⟨ret_b (dec_f (by omega)), rfl⟩
theorem isCode_any (wd : Bool) (A : Option Addr) (n c : Nat) (ot x : Int) (w : World) : Calls Tryz.prog 60 #[.agg #[.bool wd, .slice A n c, .int .i64 ot], .int .i64 x] w fun e w' => e = .returned (.bool (codeB wd x)) ∧ Below w.heap.size w w' := by
  cases wd
  · by_cases h0 : 0 ≤ x
    · by_cases h1 : x < 256
      all_goals
        go_enter Tryz.func60, Tryz.ntmps60
        go_wp2
        go_ret
        exact ⟨ret_b (by first | exact dec_t (by simp; omega) | exact dec_f (by simp; omega)), (Below.refl _ _).alloc (Nat.le_refl _) _⟩
    · go_enter Tryz.func60, Tryz.ntmps60
      go_wp2
      go_ret
      exact ⟨ret_b (dec_f (by simp; omega)), (Below.refl _ _).alloc (Nat.le_refl _) _⟩
  · by_cases h0 : 0 ≤ x
    · by_cases h1 : x < 65536
      all_goals
        go_enter Tryz.func60, Tryz.ntmps60
        go_wp2
        go_ret
        exact ⟨ret_b (by first | exact dec_t (by simp; omega) | exact dec_f (by simp; omega)), (Below.refl _ _).alloc (Nat.le_refl _) _⟩
    · go_enter Tryz.func60, Tryz.ntmps60
      go_wp2
      go_ret
      exact ⟨ret_b (dec_f (by simp; omega)), (Below.refl _ _).alloc (Nat.le_refl _) _⟩
def sizeOfCodes (wd : Bool) : Nat := if wd then 2 else 1
theorem full_text {s : ByteArray} (h0 : 0 < s.size) : s.toList.isEmpty = false := by
  rw [Lib.toList_data]
  have : s.data.size = s.size := rfl
  cases h : s.data.toList with
  | nil => rw [← Array.length_toList, h] at this; simp at this; omega
  | cons a l => rfl
theorem isText_any (s : ByteArray) (w : World) (hs : s.size ≤ 9223372036854775807) (h0 : 0 < s.size) : Calls Tryz.prog 87 #[.string s] w fun e w' => e = .returned (.bool (textB s)) ∧ w = w' := by
  have e1 := full_text h0
  by_cases h1 : s.size ≤ 16
  · go_enter Tryz.func87, Tryz.ntmps87
    go_wp2
    go_ret
    exact ⟨ret_b (by rw [Bool.eq_iff_iff, beq_iff_eq]; unfold textB; rw [decide_eq_true_iff]; omega), rfl⟩
  · go_enter Tryz.func87, Tryz.ntmps87
    go_wp2
    go_ret
    exact ⟨ret_b (dec_f (by omega)), rfl⟩
end Go.Proofs.YtdlmhienolmncaaGreat

/- font: rows of glyphs in memory; Check, for every font. -/
namespace Go.Proofs.YtdlmhienolmncaaGreat
open Go.RowKit

structure Gl where
  code : Int
  width : Int
  text : ByteArray
/-- A slice that reads as glyphs, nil let in. -/
structure Glyphs (w : World) (A : Option Addr) (n c : Nat) (gs : List Gl) : Prop where
  len : gs.length = n
  cap : n ≤ c
  top : c ≤ 9223372036854775807
  text : ∀ g ∈ gs, g.text.size ≤ 9223372036854775807
  at_ : 0 < n → ∃ R o, A = some ⟨R, o, none⟩ ∧ R < w.heap.size ∧ ∀ (i : Nat) (g : Gl), gs[i]? = some g →
    w.cell? ⟨R, o + i * 3, none⟩ = some (.int .i64 g.code) ∧ w.cell? ⟨R, o + i * 3 + 1, none⟩ = some (.int .i64 g.width) ∧ w.cell? ⟨R, o + i * 3 + 2, none⟩ = some (.string g.text)
theorem Glyphs.below {w w' : World} {A : Option Addr} {n c : Nat} {gs : List Gl} (h : Glyphs w A n c gs) (hg : Below w.heap.size w w') : Glyphs w' A n c gs :=
  ⟨h.len, h.cap, h.top, h.text, fun hn => by
    obtain ⟨R, o, e, hR, hc⟩ := h.at_ hn
    refine ⟨R, o, e, Nat.lt_of_lt_of_le hR hg.size, fun i g hi => ?_⟩
    obtain ⟨h0, h1, h2⟩ := hc i g hi
    exact ⟨(hg.cell (p := ⟨R, o + i * 3, none⟩) hR).trans h0, (hg.cell (p := ⟨R, o + i * 3 + 1, none⟩) hR).trans h1, (hg.cell (p := ⟨R, o + i * 3 + 2, none⟩) hR).trans h2⟩⟩
/-- Is the glyph at place i right, and behind the one ahead of it? -/
def okAt (wd : Bool) (gs : List Gl) (i : Nat) : Bool :=
  match gs[i]? with
  | none => true
  | some g => codeB wd g.code && (widthB g.width && ((g.text.size == 0 || textB g.text) && (i == 0 || match gs[i - 1]? with | none => true | some p => decide (p.code < g.code))))
def chkB (wd : Bool) (ot : Int) (gs : List Gl) : Bool := widthB ot && (decide (gs.length ≤ 4096) && (List.range gs.length).all (okAt wd gs))
def chk (wd : Bool) (ot : Int) (gs : List Gl) : Int := if chkB wd ot gs then 0 else 1
theorem chk_bad {wd : Bool} {ot : Int} {gs : List Gl} (k : Nat) (hk : k < gs.length) (h : okAt wd gs k = false) : (1 : Int) = chk wd ot gs := by
  unfold chk
  rw [if_neg]
  intro e
  unfold chkB at e
  simp only [Bool.and_eq_true, List.all_eq_true] at e
  rw [e.2.2 k (List.mem_range.2 hk)] at h
  cases h
theorem chk_ok {wd : Bool} {ot : Int} {gs : List Gl} (h1 : widthB ot = true) (h2 : gs.length ≤ 4096) (h : ∀ j, j < gs.length → okAt wd gs j = true) : (0 : Int) = chk wd ot gs := by
  unfold chk
  rw [if_pos]
  unfold chkB
  simp only [Bool.and_eq_true, List.all_eq_true, decide_eq_true_iff]
  exact ⟨h1, h2, fun j hj => h j (List.mem_range.1 hj)⟩
theorem chk_no {wd : Bool} {ot : Int} {gs : List Gl} (h : widthB ot = false ∨ 4096 < gs.length) : (1 : Int) = chk wd ot gs := by
  unfold chk
  rw [if_neg]
  intro e
  unfold chkB at e
  simp only [Bool.and_eq_true, decide_eq_true_iff] at e
  rcases h with h | h
  · rw [h] at e; cases e.1
  · omega
theorem ret_i {a b : Int} (h : a = b) : Ending.returned (.int .i64 a) = .returned (.int .i64 b) := by rw [h]
theorem below_step {B : Nat} {w wr w1 : World} {o : Obj} (h : Below B w wr) (hB : B ≤ w.heap.size) (hb : Below (wr.alloc o).heap.size (wr.alloc o) w1) : Below B w w1 :=
  (h.alloc (Nat.le_trans hB h.size) o).trans (hb.mono (by have := h.size; simp; omega))
theorem empty_text {s : ByteArray} (h0 : s.size = 0) : s.toList.isEmpty = true := by
  rw [Lib.toList_data]
  have : s.data.size = s.size := rfl
  cases h : s.data.toList with
  | nil => rfl
  | cons a l => rw [← Array.length_toList, h] at this; simp at this; omega
/-- A font's box. -/
def FB (w : World) (B : Nat) (wd : Bool) (A : Option Addr) (n c : Nat) (ot : Int) : Prop := Whole w B 64 #[.bool wd, .slice A n c, .int .i64 ot]
theorem FB.cells {w : World} {B : Nat} {wd : Bool} {A : Option Addr} {n c : Nat} {ot : Int} (h : FB w B wd A n c ot) :
    w.cell? ⟨B, 0, none⟩ = some (.bool wd) ∧ w.cell? ⟨B, 1, none⟩ = some (.slice A n c) ∧ w.cell? ⟨B, 2, none⟩ = some (.int .i64 ot) := ⟨by rw [Whole.reads h]; rfl, by rw [Whole.reads h]; rfl, by rw [Whole.reads h]; rfl⟩
set_option maxRecDepth 100000 in
set_option maxHeartbeats 4000000 in
theorem check_any (wd : Bool) (A : Option Addr) (n c : Nat) (ot : Int) (gs : List Gl) (w : World) (h : Glyphs w A n c gs) :
    Calls Tryz.prog 57 #[.agg #[.bool wd, .slice A n c, .int .i64 ot]] w fun e w' => e = .returned (.int .i64 (chk wd ot gs)) ∧ Below w.heap.size w w' := by
  have hl := h.len
  subst hl
  have hcap := h.cap
  have htop := h.top
  have H := Lib.hid h
  clear h
  cases hw : widthB ot
  · have HW := Lib.hid hw
    clear hw
    go_enter Tryz.func57, Tryz.ntmps57
    go_wp2_with (refine (isWidth_any _ _).mono ?_; rintro e w' ⟨rfl, rfl⟩; rw [HW.out])
    go_ret
    exact ⟨ret_i (chk_no (.inl HW.out)), (Below.refl _ _).alloc (Nat.le_refl _) _⟩
  have HW := Lib.hid hw
  clear hw
  by_cases hn : 4096 < gs.length
  · go_enter Tryz.func57, Tryz.ntmps57
    go_wp2_with (refine (isWidth_any _ _).mono ?_; rintro e w' ⟨rfl, rfl⟩; rw [HW.out])
    go_ret
    exact ⟨ret_i (chk_no (.inr hn)), (Below.refl _ _).alloc (Nat.le_refl _) _⟩
  have hn : gs.length ≤ 4096 := by omega
  go_enter Tryz.func57, Tryz.ntmps57
  go_wp2_with (refine (isWidth_any _ _).mono ?_; rintro e w' ⟨rfl, rfl⟩; rw [HW.out])
  go_loopw [18] (fun i wr => ∃ k : Nat, k ≤ gs.length ∧ i = .int .i64 k ∧ Hid (∀ j, j < k → okAt wd gs j = true) ∧ Below w.heap.size w wr ∧ FB wr w.heap.size wd A gs.length c ot) (fun i _ => gs.length - (intOf i).toNat)
  case atStart => exact ⟨0, by omega, rfl, Lib.hid (fun j hj => absurd hj (by omega)), (Below.refl _ _).alloc (Nat.le_refl _) _, Whole.made _ _ _⟩
  case round =>
    obtain ⟨k, hk, rfl, HO, hb, hfb⟩ := hrel
    obtain ⟨f0, f1, f2⟩ := hfb.cells
    have HF := Lib.hid (And.intro hb hfb)
    have hsz := hfb.lt
    clear hb hfb
    by_cases hlt : k < gs.length
    · obtain ⟨g, hg⟩ : ∃ g, gs[k]? = some g := ⟨_, List.getElem?_eq_getElem hlt⟩
      obtain ⟨R, o, rfl, hR, hc⟩ := (H.out.below HF.out.1).at_ (by omega)
      obtain ⟨g0, g1, g2⟩ := hc k g hg
      have ht := H.out.text g (List.mem_of_getElem? hg)
      have hok : okAt wd gs k = (codeB wd g.code && (widthB g.width && ((g.text.size == 0 || textB g.text) && (k == 0 || match gs[k - 1]? with | none => true | some p => decide (p.code < g.code))))) := by
        unfold okAt; rw [hg]
      have HK := Lib.hid hok
      have HC := Lib.hid (And.intro hc hg)
      clear hg hc hok
      cases hA : codeB wd g.code
      · have HA := Lib.hid hA
        clear hA
        go_wp2_with fail
        refine (isCode_any _ _ _ _ _ _ _).mono ?_
        rintro e w1 ⟨rfl, hb1⟩
        rw [HA.out]
        have HB := Lib.hid hb1
        clear hb1
        go_wp2
        go_ret
        exact ⟨ret_i (chk_bad k hlt (by rw [HK.out, HA.out]; rfl)), below_step HF.out.1 (Nat.le_refl _) HB.out⟩
      have HA := Lib.hid hA
      clear hA
      go_wp2_with fail
      refine (isCode_any _ _ _ _ _ _ _).mono ?_
      rintro e w1 ⟨rfl, hb1⟩
      rw [HA.out]
      have hF1 : FB w1 w.heap.size wd (some ⟨R, o, none⟩) gs.length c ot := (HF.out.2.old _).here hb1
      obtain ⟨e0, e1, e2⟩ := hF1.cells
      have hG1 : Whole w1 wr.heap.size 73 _ := (Whole.made wr _ _).here hb1
      have k0 := hG1.reads 0
      have k1 := hG1.reads 1
      have k2 := hG1.reads 2
      have hb2 : Below w.heap.size w w1 := below_step HF.out.1 (Nat.le_refl _) hb1
      have hl1 := hG1.lt
      have HB := Lib.hid (And.intro hb2 (And.intro hF1 hG1))
      have HBW := Lib.hid (below_step (Below.refl wr.heap.size wr) (Nat.le_refl _) hb1)
      clear hb1 hb2 f0 f1 f2 g0 g1 g2 hF1 hG1
      cases hB : widthB g.width
      · have HB2 := Lib.hid hB
        clear hB
        go_wp2_with fail
        refine (isWidth_any _ _).mono ?_
        rintro e w2 ⟨rfl, rfl⟩
        rw [HB2.out]
        go_wp2
        go_ret
        exact ⟨ret_i (chk_bad k hlt (by rw [HK.out, HA.out, HB2.out]; rfl)), HB.out.1⟩
      have HB2 := Lib.hid hB
      clear hB
      cases hT : (g.text.size == 0 || textB g.text)
      · have hz : g.text.size ≠ 0 := by intro h; rw [h] at hT; simp at hT
        have hz1 : textB g.text = false := by cases h : textB g.text with | false => rfl | true => rw [h] at hT; simp at hT
        have hz2 := full_text (s := g.text) (by omega)
        have HT := Lib.hid (And.intro hT hz1)
        clear hT hz1
        go_wp2_with fail
        refine (isWidth_any _ _).mono ?_
        rintro e w2 ⟨rfl, rfl⟩
        rw [HB2.out]
        go_wp2_with fail
        refine (isText_any _ _ ht (by omega)).mono ?_
        rintro e w2 ⟨rfl, rfl⟩
        rw [HT.out.2]
        go_wp2
        go_ret
        exact ⟨ret_i (chk_bad k hlt (by rw [HK.out, HA.out, HB2.out, HT.out.1]; rfl)), HB.out.1⟩
      have HT := Lib.hid hT
      clear hT
      by_cases hk0 : k = 0
      · subst hk0
        have HK0 : Hid (okAt wd gs 0 = true) := Lib.hid (by rw [HK.out, HA.out, HB2.out, HT.out]; rfl)
        by_cases hz : g.text.size = 0
        · have hz2 := empty_text hz
          have HZ := Lib.hid hz
          clear hz
          go_wp2_with fail
          refine (isWidth_any _ _).mono ?_
          rintro e w2 ⟨rfl, rfl⟩
          rw [HB2.out]
          go_wp2_with fail
          go_quiet (fail)
          go_wp2_with fail
          go_roundw
          case rel => exact ⟨1, by omega, rfl, Lib.hid (fun j hj => by obtain rfl : j = 0 := by omega
                                                                       exact HK0.out), below_drewN HB.out.1 _, Whole.drawn HB.out.2.1 _⟩
          case measure => simp [intOf]; omega
        · have hz2 := full_text (s := g.text) (by omega)
          have hz3 : textB g.text = true := by
            have h := HT.out
            simpa [hz] using h
          have HZ := Lib.hid hz3
          clear hz3
          go_wp2_with fail
          refine (isWidth_any _ _).mono ?_
          rintro e w2 ⟨rfl, rfl⟩
          rw [HB2.out]
          go_wp2_with fail
          refine (isText_any _ _ ht (by omega)).mono ?_
          rintro e w2 ⟨rfl, rfl⟩
          rw [HZ.out]
          go_wp2_with fail
          go_quiet (fail)
          go_wp2_with fail
          go_roundw
          case rel => exact ⟨1, by omega, rfl, Lib.hid (fun j hj => by obtain rfl : j = 0 := by omega
                                                                       exact HK0.out), below_drewN HB.out.1 _, Whole.drawn HB.out.2.1 _⟩
          case measure => simp [intOf]; omega
      · obtain ⟨j, rfl⟩ : ∃ j, k = j + 1 := ⟨k - 1, by omega⟩
        obtain ⟨p, hp⟩ : ∃ p, gs[j]? = some p := ⟨_, List.getElem?_eq_getElem (by omega)⟩
        obtain ⟨p0, -, -⟩ := HC.out.1 j p hp
        have p1 : w1.cell? ⟨R, o + j * 3, none⟩ = some (.int .i64 p.code) := (HBW.out.cell (p := ⟨R, o + j * 3, none⟩) hR).trans p0
        have HKp : Hid (okAt wd gs (j + 1) = decide (p.code < g.code)) := Lib.hid (by rw [HK.out, HA.out, HB2.out, HT.out, Nat.add_sub_cancel, hp]; simp)
        clear hp p0
        have jI : IntKind.i64.wrap ((j : Int) + 1 - 1) = (j : Int) := by rw [IntWalk.i64_in _ (by omega)]; omega
        by_cases hz : g.text.size = 0
        · have hz2 := empty_text hz
          have HZ := Lib.hid hz
          clear hz
          by_cases hlt2 : p.code < g.code
          · go_wp2_with fail
            refine (isWidth_any _ _).mono ?_
            rintro e w2 ⟨rfl, rfl⟩
            rw [HB2.out]
            go_wp2_with fail
            go_quiet (fail)
            go_wp2_with fail
            refine ⟨⟨j + 1 + 1, by omega, by go_num, Lib.hid (fun i hi => ?_), below_drewN HB.out.1 _, Whole.drawn HB.out.2.1 _⟩, by simp [intOf]; omega⟩
            by_cases e : i = j + 1
            · rw [e, HKp.out]; exact decide_eq_true hlt2
            · exact HO.out i (by omega)
          · go_wp2_with fail
            refine (isWidth_any _ _).mono ?_
            rintro e w2 ⟨rfl, rfl⟩
            rw [HB2.out]
            go_wp2_with fail
            go_quiet (fail)
            go_wp2_with fail
            go_ret
            exact ⟨ret_i (chk_bad (j + 1) hlt (by rw [HKp.out]; exact decide_eq_false (by omega))), below_drewN HB.out.1 _⟩
        · have hz2 := full_text (s := g.text) (by omega)
          have hz3 : textB g.text = true := by
            have h := HT.out
            simpa [hz] using h
          have HZ := Lib.hid hz3
          clear hz3
          by_cases hlt2 : p.code < g.code
          · go_wp2_with fail
            refine (isWidth_any _ _).mono ?_
            rintro e w2 ⟨rfl, rfl⟩
            rw [HB2.out]
            go_wp2_with fail
            refine (isText_any _ _ ht (by omega)).mono ?_
            rintro e w2 ⟨rfl, rfl⟩
            rw [HZ.out]
            go_wp2_with fail
            go_quiet (fail)
            go_wp2_with fail
            refine ⟨⟨j + 1 + 1, by omega, by go_num, Lib.hid (fun i hi => ?_), below_drewN HB.out.1 _, Whole.drawn HB.out.2.1 _⟩, by simp [intOf]; omega⟩
            by_cases e : i = j + 1
            · rw [e, HKp.out]; exact decide_eq_true hlt2
            · exact HO.out i (by omega)
          · go_wp2_with fail
            refine (isWidth_any _ _).mono ?_
            rintro e w2 ⟨rfl, rfl⟩
            rw [HB2.out]
            go_wp2_with fail
            refine (isText_any _ _ ht (by omega)).mono ?_
            rintro e w2 ⟨rfl, rfl⟩
            rw [HZ.out]
            go_wp2_with fail
            go_quiet (fail)
            go_wp2_with fail
            go_ret
            exact ⟨ret_i (chk_bad (j + 1) hlt (by rw [HKp.out]; exact decide_eq_false (by omega))), below_drewN HB.out.1 _⟩
    · obtain rfl : k = gs.length := by omega
      go_wp2
      go_ret
      exact ⟨ret_i (chk_ok HW.out hn HO.out), HF.out.1⟩
end Go.Proofs.YtdlmhienolmncaaGreat
