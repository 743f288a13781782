/- huff's Codes, for every row of lengths. -/
import Derived.Test.YtpcofdhhnfichaaHuffAssign
import Derived.Deep.OwnRows
namespace Go.Proofs.Ytpcofdhhnfichaa
open Go.RowKit

/-- The code that stands in cell j when assign is in round s of length L + 1. -/
def codeIn (l : List Int) (L s j : Nat) : Nat :=
  let x := (natsOf l).getD j 0
  if 0 < x ∧ (x ≤ L ∨ (x = L + 1 ∧ j < s)) then codeOf (natsOf l) j x else 0
def codesArr (l : List Int) (L s : Nat) : Array Value := ((List.range l.length).map fun j => Value.int .i64 (codeIn l L s j : Int)).toArray
theorem codesArr_size (l : List Int) (L s : Nat) : (codesArr l L s).size = l.length := by simp [codesArr]
theorem codesArr_at (l : List Int) (L s j : Nat) (h : j < l.length) : (codesArr l L s)[j]? = some (.int .i64 (codeIn l L s j : Int)) := by simp [codesArr, h]
theorem codesArr_congr {l : List Int} {L s L' s' : Nat} (h : ∀ j, j < l.length → codeIn l L s j = codeIn l L' s' j) : codesArr l L s = codesArr l L' s' := by
  unfold codesArr
  congr 1
  apply List.map_congr_left
  intro j hj
  rw [h j (List.mem_range.1 hj)]
theorem natsOf_getD {l : List Int} {s : Nat} {x : Int} (h : l[s]? = some x) : (natsOf l).getD s 0 = x.toNat := by
  rw [List.getD_eq_getElem?_getD, natsOf_at h]
  rfl
theorem codesArr_zero (l : List Int) : madeCells #[.int .i64 0] l.length = codesArr l 0 0 := by
  apply Array.ext_getElem?
  intro j
  by_cases h : j < l.length
  · rw [codesArr_at l 0 0 j h]
    have : codeIn l 0 0 j = 0 := by
      unfold codeIn
      simp only []
      rw [if_neg (by omega)]
    rw [this]
    simp [madeCells, h, Nat.mod_one]
  · rw [Array.getElem?_eq_none (by simp [madeCells]; omega), Array.getElem?_eq_none (by rw [codesArr_size]; omega)]
theorem codesArr_hit {l : List Int} {L s : Nat} (h : l[s]? = some ((L : Int) + 1)) : (codesArr l L s).setIfInBounds s (.int .i64 (codeAt l L s : Int)) = codesArr l L (s + 1) := by
  apply Array.ext_getElem?
  intro j
  have hs : s < l.length := (List.getElem?_eq_some_iff.1 h).1
  have hg := natsOf_getD h
  rw [Array.getElem?_setIfInBounds]
  by_cases hj : j < l.length
  · rw [codesArr_at l L (s + 1) j hj]
    by_cases e : s = j
    · subst e
      rw [if_pos rfl, if_pos (by rw [codesArr_size]; exact hs)]
      have : codeIn l L (s + 1) s = codeAt l L s := by
        unfold codeIn codeAt codeOf
        simp only [hg]
        rw [if_pos (by omega)]
        have e1 : ((L : Int) + 1).toNat = L + 1 := by omega
        rw [e1]
        rfl
      rw [this]
    · rw [if_neg e, codesArr_at l L s j hj]
      have : codeIn l L s j = codeIn l L (s + 1) j := by
        unfold codeIn
        have : (j < s) ↔ (j < s + 1) := by omega
        simp only [this]
      rw [this]
  · have e : s ≠ j := by omega
    rw [if_neg e, Array.getElem?_eq_none (by rw [codesArr_size]; omega), Array.getElem?_eq_none (by rw [codesArr_size]; omega)]
theorem codesArr_miss {l : List Int} {L s : Nat} {x : Int} (h : l[s]? = some x) (hx : x ≠ (L : Int) + 1) : codesArr l L s = codesArr l L (s + 1) := by
  apply codesArr_congr
  intro j _
  have hg := natsOf_getD h
  unfold codeIn
  by_cases e : j = s
  · subst e
    have : ¬ ((natsOf l).getD j 0 = L + 1) := by omega
    simp only [this, false_and]
  · have : (j < s) ↔ (j < s + 1) := by omega
    simp only [this]
theorem codesArr_next (l : List Int) (L : Nat) : codesArr l L l.length = codesArr l (L + 1) 0 := by
  apply codesArr_congr
  intro j hj
  unfold codeIn
  have : ((natsOf l).getD j 0 ≤ L ∨ ((natsOf l).getD j 0 = L + 1 ∧ j < l.length)) ↔ ((natsOf l).getD j 0 ≤ L + 1 ∨ ((natsOf l).getD j 0 = L + 1 + 1 ∧ j < 0)) := by omega
  simp only [this]

/-- What Codes$1 has caught, and the codes so far. -/
def CodesIn (w0 : World) (g v : Nat) (l : List Int) (L s : Nat) (w : World) : Prop :=
  Whole w g 3 (codesArr l L s) ∧ Whole w v 22 #[.slice (some ⟨g, 0, none⟩) l.length l.length] ∧ g ≠ v ∧ Below w0.heap.size w0 w ∧ w0.heap.size ≤ g
theorem closure_enters (args : Array Value) (w : World) : (callFunc 29 args).run Try.prog w = .ok (.enter 29 args) w := rfl
theorem codes1_any (w0 : World) (g v : Nat) (l : List Int) (L s : Nat) (w : World) (hs : s < l.length) (hx : l[s]? = some ((L : Int) + 1)) (h : CodesIn w0 g v l L s w) :
    Calls Try.prog 29 #[.int .i64 s, .int .i64 (codeAt l L s : Int), .pointer (some ⟨v, 0, none⟩)] w fun e w' => e = .returned (.tuple #[]) ∧ CodesIn w0 g v l L (s + 1) w' := by
  obtain ⟨hg, hv, hne, hb, hge⟩ := h
  have cv : w.cell? ⟨v, 0, none⟩ = some (.slice (some ⟨g, 0, none⟩) l.length l.length) := by rw [hv.reads]; rfl
  have lv := hv.lt
  have lg := hg.lt
  have cg : w.cell? ⟨g, s, none⟩ = some (.int .i64 (codeIn l L s s : Int)) := by rw [hg.reads, codesArr_at l L s s hs]
  have fg := hg.thawed s
  have h1 := hg.set s (.int .i64 (codeAt l L s : Int))
  rw [codesArr_hit hx] at h1
  have H := Lib.hid (show CodesIn w0 g v l L (s + 1) (w.setCell ⟨g, s, none⟩ (.int .i64 (codeAt l L s : Int))) from ⟨h1, hv.away (p := ⟨g, s, none⟩) (Ne.symm hne) _, hne, hb.setCell (p := ⟨g, s, none⟩) hge _, hge⟩)
  clear hg hv hne hb hge h1 hx
  go_enter Try.func29, Try.ntmps29
  go_wp2
  go_end0
  exact ⟨rfl, H.out⟩
theorem codesIn_start (w W : World) (m : Nat) (l : List Int) (hb : Below w.heap.size w W) (hm : W.heap.size = m) :
    CodesIn w m (m + 1) l 0 0 ((W.alloc (.cells (madeCells #[.int .i64 0] l.length) 3)).alloc (.cells #[.slice (some ⟨m, 0, none⟩) l.length l.length] 22)) := by
  subst hm
  refine ⟨?_, ?_, by omega, (hb.alloc hb.size _).alloc (by have := hb.size; simp; omega) _, hb.size⟩
  · have := (Whole.made W 3 (madeCells #[.int .i64 0] l.length)).old (.cells #[.slice (some ⟨W.heap.size, 0, none⟩) l.length l.length] 22)
    rwa [codesArr_zero] at this ⊢
  · have := Whole.made (W.alloc (.cells (madeCells #[.int .i64 0] l.length) 3)) 22 #[.slice (some ⟨W.heap.size, 0, none⟩) l.length l.length]
    simpa using this
/-- What Codes answers. -/
def CodesAns (l : List Int) (w : World) (e : Ending) (w' : World) : Prop :=
  Below w.heap.size w w' ∧
  ((¬ lensOk l ∧ e = .returned (.tuple #[.slice none 0 0, .int .i64 1])) ∨
   (lensOk l ∧ 32768 < share (natsOf l) l.length ∧ e = .returned (.tuple #[.slice none 0 0, .int .i64 4])) ∨
   (lensOk l ∧ share (natsOf l) l.length ≤ 32768 ∧ ∃ g, w.heap.size ≤ g ∧ Whole w' g 3 (codesArr l 15 0) ∧ e = .returned (.tuple #[.slice (some ⟨g, 0, none⟩) l.length l.length, .int .i64 0])))
set_option maxRecDepth 100000 in
set_option maxHeartbeats 4000000 in
theorem codes_any (A : Option Addr) (n c : Nat) (l : List Int) (w : World) (h : IntsAt w A n c l) :
    Calls Try.prog 9 #[.slice A n c] w (CodesAns l w) := by
  have hmf : ∀ (fn : Fn) (first cap : Array Value) (w : World), (Instr.makeFunc fn first cap).run Try.prog w = .ok (.func fn first cap) w := fun _ _ _ _ => rfl
  have hl := h.len
  subst hl
  have hcap := h.cap
  have htop := h.top
  have hm := measure_any A l.length c l w h
  have H := Lib.hid h
  have HM := Lib.hid hm
  clear h hm
  go_enter Try.func9, Try.ntmps9
  go_wp2_with fail
  refine HM.out.mono ?_
  rintro e w1 ⟨hb, h⟩
  have HB := Lib.hid hb
  clear hb
  rcases h with ⟨hno, rfl⟩ | ⟨hok, hov, rfl⟩ | ⟨hok, hle, rfl⟩
  · have HX := Lib.hid hno
    clear hno
    go_wp2
    go_ret2
    exact ⟨HB.out.alloc HB.out.size _, .inl ⟨HX.out, rfl⟩⟩
  · have HX := Lib.hid (And.intro hok hov)
    clear hok hov
    go_wp2
    go_ret2
    exact ⟨HB.out.alloc HB.out.size _, .inr (.inl ⟨HX.out.1, HX.out.2, rfl⟩)⟩
  · have HX := Lib.hid (And.intro hok hle)
    have hn := hok.1
    clear hok hle
    have hmk := fun W => run_make_row' (P := Try.prog) 22 3 (.int .i64 0) 8 Try.underlying22 (by kernel_rfl) rfl .i64 .i64 l.length (by omega) (by omega) W
    have hall : (cntArr (natsOf l) l.length).all (·.oneCell') = true := by
      rw [Array.all_eq_true_iff_forall_mem]
      intro x hx
      simp [cntArr] at hx
      obtain ⟨k, -, rfl⟩ := hx
      rfl
    have HA := Lib.hid hall
    clear hall
    have hw := Whole.made w1 56 #[.int .i64 0, .int .i64 0, .int .i64 0, .int .i64 0, .int .i64 0, .int .i64 0, .int .i64 0, .int .i64 0, .int .i64 0, .int .i64 0, .int .i64 0, .int .i64 0, .int .i64 0, .int .i64 0, .int .i64 0, .int .i64 0]
    have HW := Lib.hid hw
    clear hw
    go_wp2_with (refine wpList_store_row rfl _ _ _ rfl w1.heap.size (cntArr (natsOf l) l.length) rfl rfl 56 #[.int .i64 0, .int .i64 0, .int .i64 0, .int .i64 0, .int .i64 0, .int .i64 0, .int .i64 0, .int .i64 0, .int .i64 0, .int .i64 0, .int .i64 0, .int .i64 0, .int .i64 0, .int .i64 0, .int .i64 0, .int .i64 0] HW.out (by rw [cntArr_size]; exact sizeC) (by rw [cntArr_size]; rfl) HA.out ?_)
    have h0 := codesIn_start w _ (w1.heap.size + 1) l ((HB.out.alloc HB.out.size (.cells #[.int .i64 0, .int .i64 0, .int .i64 0, .int .i64 0, .int .i64 0, .int .i64 0, .int .i64 0, .int .i64 0, .int .i64 0, .int .i64 0, .int .i64 0, .int .i64 0, .int .i64 0, .int .i64 0, .int .i64 0, .int .i64 0] 56)).trans ((setRow_below _ (cntArr (natsOf l) l.length) HB.out.size))) (by simp)
    refine (assign_any 29 #[.pointer (some ⟨w1.heap.size + 1 + 1, 0, none⟩)] (CodesIn w (w1.heap.size + 1) (w1.heap.size + 1 + 1) l) A l.length c l w _ closure_enters H.out HX.out.1 (fun _ _ _ h => h.2.2.2.1) (fun L s w' _ hs hx h => codes1_any w _ _ l L s w' hs hx h) (fun L s w' x _ hx hne h => by rw [CodesIn, ← codesArr_miss hx hne]; exact h) (fun L w' _ h => by rw [CodesIn, ← codesArr_next]; exact h) h0).mono ?_
    rintro e w2 ⟨rfl, hp⟩
    have cv : w2.cell? ⟨w1.heap.size + 1 + 1, 0, none⟩ = some (.slice (some ⟨w1.heap.size + 1, 0, none⟩) l.length l.length) := by rw [hp.2.1.reads]; rfl
    have lv := hp.2.1.lt
    have HP := Lib.hid hp
    clear hp
    go_wp2
    go_ret2
    exact ⟨HP.out.2.2.2.1, .inr (.inr ⟨HX.out.1, HX.out.2, _, HP.out.2.2.2.2, HP.out.1, rfl⟩)⟩
end Go.Proofs.Ytpcofdhhnfichaa
