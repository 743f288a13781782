/- raster: rows of boxes; meets, meeting. -/
import Derived.Test.YtmleoagdelgddaaRasG
namespace Go.Proofs.Ytmleoagdelgddaa
open Go.RowKit Dec

/-- Do two boxes meet, and are they boxes? -/
def meetsB (a b : BV) : Bool := decide (a.Ok ∧ b.Ok) && meetB a b
set_option maxRecDepth 100000 in
set_option maxHeartbeats 4000000 in
theorem meets_ras (a b : BV) (w : World) : Calls Try.prog 60 #[a.val, b.val] w fun e w' => e = .returned (.bool (meetsB a b)) ∧ Below w.heap.size w w' := by
  have HB := Lib.hid (((Below.refl w.heap.size w).alloc (Nat.le_refl _) (.cells #[.int .i64 a.x0.m, .int .i64 a.x0.s, .int .i64 a.y0.m, .int .i64 a.y0.s, .int .i64 a.x1.m, .int .i64 a.x1.s, .int .i64 a.y1.m, .int .i64 a.y1.s] 52)).alloc (by simp) (.cells #[.int .i64 b.x0.m, .int .i64 b.x0.s, .int .i64 b.y0.m, .int .i64 b.y0.s, .int .i64 b.x1.m, .int .i64 b.x1.s, .int .i64 b.y1.m, .int .i64 b.y1.s] 52))
  by_cases h : a.Ok ∧ b.Ok
  · have HM := Lib.hid (fun w => meets_any a b w (meetB a b) 0 (.inl ⟨h.1, h.2, rfl, rfl⟩))
    have HR := Lib.hid (show meetsB a b = meetB a b by unfold meetsB; rw [decide_eq_true h, Bool.true_and])
    clear h
    unfold BV.val at HM ⊢
    cases hm : meetB a b
    all_goals
      rw [hm] at HM HR
      clear hm
      go_enter Try.func60, Try.ntmps60
      go_wp2_with fail
      refine (HM.out _).mono ?_
      rintro e w1 ⟨rfl, hb⟩
      have HB1 := Lib.hid (HB.out.trans (hb.mono HB.out.size))
      clear hb
      go_wp2_with fail
      go_ret
      rw [HR.out]
      exact ⟨rfl, HB1.out⟩
  · have HM := Lib.hid (fun w => meets_any a b w false 1 (.inr ⟨h, rfl, rfl⟩))
    have HR := Lib.hid (show meetsB a b = false by unfold meetsB; rw [decide_eq_false h, Bool.false_and])
    clear h
    unfold BV.val at HM ⊢
    go_enter Try.func60, Try.ntmps60
    go_wp2_with fail
    refine (HM.out _).mono ?_
    rintro e w1 ⟨rfl, hb⟩
    have HB1 := Lib.hid (HB.out.trans (hb.mono HB.out.size))
    clear hb
    go_wp2_with fail
    go_ret
    rw [HR.out]
    exact ⟨rfl, HB1.out⟩
/-- The cells of a box. -/
def bxV (b : BV) : List Value := [.int .i64 b.x0.m, .int .i64 b.x0.s, .int .i64 b.y0.m, .int .i64 b.y0.s, .int .i64 b.x1.m, .int .i64 b.x1.s, .int .i64 b.y1.m, .int .i64 b.y1.s]
theorem bxV_len (b : BV) : (bxV b).length = 8 := rfl
def BxAt (w : World) (R o : Nat) (b : BV) : Prop := ∀ j u, (bxV b)[j]? = some u → w.cell? ⟨R, o + j, none⟩ = some u
theorem BxAt.cells {w : World} {R o : Nat} {b : BV} (h : BxAt w R o b) : w.cell? ⟨R, o, none⟩ = some (.int .i64 b.x0.m) ∧ w.cell? ⟨R, o + 1, none⟩ = some (.int .i64 b.x0.s) ∧ w.cell? ⟨R, o + 2, none⟩ = some (.int .i64 b.y0.m) ∧ w.cell? ⟨R, o + 3, none⟩ = some (.int .i64 b.y0.s) ∧ w.cell? ⟨R, o + 4, none⟩ = some (.int .i64 b.x1.m) ∧ w.cell? ⟨R, o + 5, none⟩ = some (.int .i64 b.x1.s) ∧ w.cell? ⟨R, o + 6, none⟩ = some (.int .i64 b.y1.m) ∧ w.cell? ⟨R, o + 7, none⟩ = some (.int .i64 b.y1.s) :=
  ⟨h 0 _ rfl, h 1 _ rfl, h 2 _ rfl, h 3 _ rfl, h 4 _ rfl, h 5 _ rfl, h 6 _ rfl, h 7 _ rfl⟩
theorem eight_facts {v : World} {g : Nat} {T : TypeId} {b : BV} (h : Whole v g T #[.int .i64 b.x0.m, .int .i64 b.x0.s, .int .i64 b.y0.m, .int .i64 b.y0.s, .int .i64 b.x1.m, .int .i64 b.x1.s, .int .i64 b.y1.m, .int .i64 b.y1.s]) : (v.cell? ⟨g, 0, none⟩ = some (.int .i64 b.x0.m) ∧ v.cell? ⟨g, 1, none⟩ = some (.int .i64 b.x0.s) ∧ v.cell? ⟨g, 2, none⟩ = some (.int .i64 b.y0.m) ∧ v.cell? ⟨g, 3, none⟩ = some (.int .i64 b.y0.s) ∧ v.cell? ⟨g, 4, none⟩ = some (.int .i64 b.x1.m) ∧ v.cell? ⟨g, 5, none⟩ = some (.int .i64 b.x1.s) ∧ v.cell? ⟨g, 6, none⟩ = some (.int .i64 b.y1.m) ∧ v.cell? ⟨g, 7, none⟩ = some (.int .i64 b.y1.s)) ∧ g < v.heap.size :=
  ⟨⟨h.reads 0, h.reads 1, h.reads 2, h.reads 3, h.reads 4, h.reads 5, h.reads 6, h.reads 7⟩, h.lt⟩
/-- A slice that reads as boxes, nil let in. -/
structure BxsAt (w : World) (A : Option Addr) (n c : Nat) (l : List BV) : Prop where
  len : l.length = n
  cap : n ≤ c
  top : c ≤ 9223372036854775807
  at_ : 0 < n → ∃ R o, A = some ⟨R, o, none⟩ ∧ R < w.heap.size ∧ ∀ (i : Nat) (b : BV), l[i]? = some b → BxAt w R (o + i * 8) b
theorem BxsAt.below {w w' : World} {A : Option Addr} {n c : Nat} {l : List BV} (h : BxsAt w A n c l) (hg : Below w.heap.size w w') : BxsAt w' A n c l :=
  ⟨h.len, h.cap, h.top, fun hn => by
    obtain ⟨R, o, e, hR, hc⟩ := h.at_ hn
    exact ⟨R, o, e, Nat.lt_of_lt_of_le hR hg.size, fun i x hx j u hu => (hg.cell (p := ⟨R, o + i * 8 + j, none⟩) hR).trans (hc i x hx j u hu)⟩⟩
theorem BxsAt.fr {w w' : World} {A : Option Addr} {n c : Nat} {l : List BV} {S : Nat → Prop} (h : BxsAt w A n c l) (hf : Fr S w w') (hS : 0 < n → ∀ R o, A = some ⟨R, o, none⟩ → ¬ S R) : BxsAt w' A n c l :=
  ⟨h.len, h.cap, h.top, fun hn => by
    obtain ⟨R, o, e, hR, hc⟩ := h.at_ hn
    exact ⟨R, o, e, Nat.lt_of_lt_of_le hR hf.size, fun i x hx j u hu => (World.cell?_of_block (w := w) (a := ⟨R, o + i * 8 + j, none⟩) (hf.block R hR (hS hn R o e))).trans (hc i x hx j u hu)⟩⟩
def rowBx (l : List BV) : List Value := l.flatMap bxV
theorem rowBx_len (l : List BV) : (rowBx l).length = l.length * 8 := by
  induction l with
  | nil => rfl
  | cons a l ih => unfold rowBx at ih ⊢; rw [List.flatMap_cons, List.length_append, ih, bxV_len, List.length_cons]; omega
theorem rowBx_snoc (l : List BV) (b : BV) : rowBx l ++ [.int .i64 b.x0.m, .int .i64 b.x0.s, .int .i64 b.y0.m, .int .i64 b.y0.s, .int .i64 b.x1.m, .int .i64 b.x1.s, .int .i64 b.y1.m, .int .i64 b.y1.s] = rowBx (l ++ [b]) := by unfold rowBx; rw [List.flatMap_append]; rfl
theorem rowBx_at : ∀ (l : List BV) (i : Nat) (b : BV) (j : Nat) (u : Value), l[i]? = some b → (bxV b)[j]? = some u → (rowBx l)[i * 8 + j]? = some u
  | [], i, b, j, u, h, _ => by simp at h
  | a :: l, 0, b, j, u, h, hu => by
    simp at h
    subst h
    have hj : j < (bxV a).length := (List.getElem?_eq_some_iff.1 hu).1
    unfold rowBx
    rw [List.flatMap_cons, Nat.zero_mul, Nat.zero_add, List.getElem?_append_left hj]
    exact hu
  | a :: l, i + 1, b, j, u, h, hu => by
    have := rowBx_at l i b j u (by simpa using h) hu
    unfold rowBx at this ⊢
    rw [List.flatMap_cons, List.getElem?_append_right (by rw [bxV_len]; omega), bxV_len, show (i + 1) * 8 + j - 8 = i * 8 + j by omega]
    exact this
theorem BxsAt.of_own {w : World} {base : Nat} {v : Value} {n : Nat} {l : List BV} (h : w.ownsRow base 52 8 v n (rowBx l)) : ∃ A c, v = .slice A n c ∧ BxsAt w A n c l := by
  obtain ⟨hl, h⟩ := h
  have hl : l.length = n := by rw [rowBx_len] at hl; omega
  rcases h with ⟨rfl, rfl⟩ | ⟨g, cap, cur, rfl, hg, hw, hnc, hc, hs, ht⟩
  · exact ⟨none, 0, rfl, hl, by omega, by omega, fun h => absurd h (by omega)⟩
  · have hlt : g < w.heap.size := Whole.lt (T := 52) hw
    refine ⟨_, cap, rfl, hl, hnc, by unfold maxLen at hc; omega, fun hn => ⟨g, 0, rfl, hlt, fun i b hi j u hu => ?_⟩⟩
    have hil : i < n := by
      have := (List.getElem?_eq_some_iff.1 hi).1
      omega
    have hj : j < 8 := by
      have := (List.getElem?_eq_some_iff.1 hu).1
      rw [bxV_len] at this
      exact this
    have e1 := rowBx_at l i b j u hi hu
    rw [← ht, List.getElem?_take, if_pos (by omega)] at e1
    have hw' : Whole w g 52 cur := hw
    rw [hw'.reads, Nat.zero_add, ← e1, Array.getElem?_toList]
theorem infoBx : (Try.prog.info? 52).map (fun i => (i.zero, i.size, i.bytes)) = some (some (.agg #[.int .i64 0, .int .i64 0, .int .i64 0, .int .i64 0, .int .i64 0, .int .i64 0, .int .i64 0, .int .i64 0]), 8, 64) := by kernel_rfl
theorem info_bx : ∃ i, Try.prog.info? 52 = some i ∧ i.zero = some (.agg #[.int .i64 0, .int .i64 0, .int .i64 0, .int .i64 0, .int .i64 0, .int .i64 0, .int .i64 0, .int .i64 0]) ∧ i.size = 8 ∧ i.bytes = 64 := by
  have h := infoBx
  cases hi : Try.prog.info? 52 with
  | none => rw [hi] at h; cases h
  | some i =>
    rw [hi] at h
    injection h with h
    injection h with h1 h2
    injection h2 with h2 h3
    exact ⟨i, rfl, h1, h2, h3⟩
/-- The boxes that meet the one around some points. -/
def nearL (F : Nat → PV) (n : Nat) (l : List BV) : List BV := l.filter (meetsB (ofN F n))
theorem near_step {F : Nat → PV} {n k : Nat} {l : List BV} {b : BV} (h : l[k]? = some b) : nearL F n (l.take (k + 1)) = if meetsB (ofN F n) b = true then nearL F n (l.take k) ++ [b] else nearL F n (l.take k) := by
  unfold nearL
  rw [List.take_add_one, h, List.filter_append]
  show _ ++ List.filter _ [b] = _
  by_cases hm : meetsB (ofN F n) b = true
  · rw [if_pos hm, List.filter_cons_of_pos hm, List.filter_nil]
  · rw [if_neg hm, List.filter_cons_of_neg hm, List.filter_nil, List.append_nil]
theorem near_len (F : Nat → PV) (n : Nat) (l : List BV) : (nearL F n l).length ≤ l.length := List.length_filter_le _ _
set_option maxRecDepth 100000 in
set_option maxHeartbeats 8000000 in
theorem meeting_any (F : Nat → PV) (n c R o : Nat) (A2 : Option Addr) (n2 c2 : Nat) (l : List BV) (w : World) (hn : 0 < n) (hm : n ≤ 1000000) (hF : ∀ i < n, PAt w R (o + i * 4) (F i)) (hok : ∀ i < n, (F i).Ok) (h2 : BxsAt w A2 n2 c2 l) (hn2 : n2 ≤ 1000) :
    Calls Try.prog 55 #[.slice (some ⟨R, o, none⟩) n c, .slice A2 n2 c2] w fun e w' => ∃ A' c', e = .returned (.slice A' (nearL F n l).length c') ∧ BxsAt w' A' (nearL F n l).length c' (nearL F n l) ∧ Below w.heap.size w w' := by
  have HO := Lib.hid (of_any F n c R o w (ofN F n) 0 hn hm (Lib.hid hF) (Lib.hid (.inr (.inr ⟨hn, hok, rfl, rfl⟩))))
  have hl := h2.len
  have hcap2 := h2.cap
  have htop2 := h2.top
  have H2 := Lib.hid h2
  have HL := Lib.hid hl
  clear hF hok h2 hl
  obtain ⟨b0, hb0⟩ : ∃ b, ofN F n = b := ⟨_, rfl⟩
  have HB0 := Lib.hid hb0
  rw [hb0] at HO
  clear hb0
  go_enter Try.func55, Try.ntmps55
  go_wp2_with fail
  refine HO.out.mono ?_
  rintro e w1 ⟨rfl, hb⟩
  have HB := Lib.hid (hb.alloc hb.size (.cells #[.int .i64 b0.x0.m, .int .i64 b0.x0.s, .int .i64 b0.y0.m, .int .i64 b0.y0.s, .int .i64 b0.x1.m, .int .i64 b0.x1.s, .int .i64 b0.y1.m, .int .i64 b0.y1.s] 52))
  have HW := Lib.hid (Whole.made w1 52 #[.int .i64 b0.x0.m, .int .i64 b0.x0.s, .int .i64 b0.y0.m, .int .i64 b0.y0.s, .int .i64 b0.x1.m, .int .i64 b0.x1.s, .int .i64 b0.y1.m, .int .i64 b0.y1.s])
  unfold BV.val
  clear hb
  go_wp2_with fail
  go_loopw [7, 17] (fun v i wr => ∃ k : Nat, i = .int .i64 (k : Int) ∧ k ≤ n2 ∧ Hid (wr.ownsRow (w1.heap.size + 1) 52 8 v (nearL F n (l.take k)).length (rowBx (nearL F n (l.take k)))) ∧ Hid (Below (w1.heap.size + 1) (w1.alloc (.cells #[.int .i64 b0.x0.m, .int .i64 b0.x0.s, .int .i64 b0.y0.m, .int .i64 b0.y0.s, .int .i64 b0.x1.m, .int .i64 b0.x1.s, .int .i64 b0.y1.m, .int .i64 b0.y1.s] 52)) wr)) (fun _ i _ => n2 - (intOf i).toNat)
  case atStart => exact ⟨0, rfl, by omega, Lib.hid (World.ownsRow_nil _ _ _ _), Lib.hid (by have := Below.refl (w1.alloc (.cells #[.int .i64 b0.x0.m, .int .i64 b0.x0.s, .int .i64 b0.y0.m, .int .i64 b0.y0.s, .int .i64 b0.x1.m, .int .i64 b0.x1.s, .int .i64 b0.y1.m, .int .i64 b0.y1.s] 52)).heap.size (w1.alloc (.cells #[.int .i64 b0.x0.m, .int .i64 b0.x0.s, .int .i64 b0.y0.m, .int .i64 b0.y0.s, .int .i64 b0.x1.m, .int .i64 b0.x1.s, .int .i64 b0.y1.m, .int .i64 b0.y1.s] 52)); rwa [World.size_alloc] at this)⟩
  case round =>
    obtain ⟨k, rfl, hk, HR, HBB⟩ := hrel
    obtain ⟨a0, cc, rfl⟩ := own_sl HR.out
    have hW5 := HW.out.later HBB.out (by omega)
    have hfull := HB.out.trans (HBB.out.mono (by have := HB.out.size; simp at this; omega))
    by_cases hlt : k < n2
    · have d1 : decide ((k : Int) < (n2 : Int)) = true := decide_eq_true (by omega)
      obtain ⟨b, hb⟩ : ∃ b, l[k]? = some b := ⟨_, List.getElem?_eq_getElem (by rw [HL.out]; exact hlt)⟩
      obtain ⟨R2, o2, rfl, hR2, hcell⟩ := (H2.out.below hfull).at_ (by omega)
      obtain ⟨c0, c1, c3, c4, c5, c6, c7, c8⟩ := (hcell k b hb).cells
      obtain ⟨⟨e0, e1, e2, e3, e4, e5, e6, e7⟩, e8⟩ := eight_facts hW5
      have HM := Lib.hid (fun w => meets_ras b0 b w)
      have HS := Lib.hid (near_step (F := F) (n := n) hb)
      have HF := Lib.hid hfull
      have HW5 := Lib.hid hW5
      have hsz := HBB.out.size
      simp only [World.size_alloc] at hsz
      obtain ⟨r, hr⟩ : ∃ r, meetsB b0 b = r := ⟨_, rfl⟩
      rw [hr] at HM
      rw [HB0.out, hr] at HS
      have hkl : (nearL F n (l.take k)).length ≤ 1000 := Nat.le_trans (near_len F n _) (by rw [List.length_take]; omega)
      clear hcell hb hfull hW5 hr
      unfold BV.val at HM
      go_wp2_with fail
      refine (HM.out _).mono ?_
      rintro e w2 ⟨rfl, hb⟩
      have hown := own_frame (HR.out.alloc (.cells #[.int .i64 b.x0.m, .int .i64 b.x0.s, .int .i64 b.y0.m, .int .i64 b.y0.s, .int .i64 b.x1.m, .int .i64 b.x1.s, .int .i64 b.y1.m, .int .i64 b.y1.s] 52)) (Fr.of_below hb) (fun g e => by have := (own_lt (HR.out.alloc (.cells #[.int .i64 b.x0.m, .int .i64 b.x0.s, .int .i64 b.y0.m, .int .i64 b.y0.s, .int .i64 b.x1.m, .int .i64 b.x1.s, .int .i64 b.y1.m, .int .i64 b.y1.s] 52)) e).2.1; show ¬ _ ≤ g; omega)
      have hbb := HBB.out.trans ((((Below.refl wr.heap.size wr).alloc (Nat.le_refl _) (.cells #[.int .i64 b.x0.m, .int .i64 b.x0.s, .int .i64 b.y0.m, .int .i64 b.y0.s, .int .i64 b.x1.m, .int .i64 b.x1.s, .int .i64 b.y1.m, .int .i64 b.y1.s] 52)).trans (hb.mono (by simp))).mono (by omega))
      have hV := (Whole.made wr 52 #[.int .i64 b.x0.m, .int .i64 b.x0.s, .int .i64 b.y0.m, .int .i64 b.y0.s, .int .i64 b.x1.m, .int .i64 b.x1.s, .int .i64 b.y1.m, .int .i64 b.y1.s]).here hb
      have sb := hb.size
      simp only [World.size_alloc] at sb
      have HOB := Lib.hid (And.intro hown hbb)
      obtain ⟨⟨p0, p1, p2, p3, p4, p5, p6, p7⟩, p8⟩ := eight_facts hV
      clear hb hown hbb hV c0 c1 c3 c4 c5 c6 c7 c8 e0 e1 e2 e3 e4 e5 e6 e7
      cases r
      · go_wp2_with fail
        go_roundw
        case rel => exact ⟨k + 1, by go_num, by omega, Lib.hid (by rw [HS.out]; exact HOB.out.1), Lib.hid HOB.out.2⟩
        case measure => simp [intOf]; omega
      · obtain ⟨i0, hi, hz0, hz1, hz2⟩ := info_bx
        go_wp2_with (at_builtin; refine wpList_append_own _ rfl _ _ 43 rfl (w1.heap.size + 1) 52 i0 (.agg #[.int .i64 0, .int .i64 0, .int .i64 0, .int .i64 0, .int .i64 0, .int .i64 0, .int .i64 0, .int .i64 0]) 8 64 Try.underlying43 hi hz0 hz1 hz2 rfl (by decide) _ _ _ rfl (HOB.out.1.alloc _) ⟨w2.heap.size, 0, none⟩ 1 1 [.int .i64 b.x0.m, .int .i64 b.x0.s, .int .i64 b.y0.m, .int .i64 b.y0.s, .int .i64 b.x1.m, .int .i64 b.x1.s, .int .i64 b.y1.m, .int .i64 b.y1.s] rfl rfl (World.news_of_block (cs := #[.int .i64 b.x0.m, .int .i64 b.x0.s, .int .i64 b.y0.m, .int .i64 b.y0.s, .int .i64 b.x1.m, .int .i64 b.x1.s, .int .i64 b.y1.m, .int .i64 b.y1.s]) (t := 52) (fr := (0, 0)) (heap_alloc_new _ _)) ?p1 ?p2 ?p3 ?p4 ?_)
        case p1 => simp [Value.oneCell']
        case p2 => unfold maxLen; omega
        case p3 => omega
        case p4 => first | omega | (simp; omega)
        intro v' w5 hown' hgrow _
        have hb5 := (HOB.out.2.alloc (by have := HOB.out.2.size; simp at this; omega) (.cells #[.int .i64 b.x0.m, .int .i64 b.x0.s, .int .i64 b.y0.m, .int .i64 b.y0.s, .int .i64 b.x1.m, .int .i64 b.x1.s, .int .i64 b.y1.m, .int .i64 b.y1.s] 52)).grown hgrow (by have := HOB.out.2.size; simp at this ⊢; omega) (fun j e => (own_lt HOB.out.1 e).1)
        have hown2 : w5.ownsRow (w1.heap.size + 1) 52 8 v' (nearL F n (l.take k) ++ [b]).length (rowBx (nearL F n (l.take k) ++ [b])) := by rw [← rowBx_snoc, List.length_append]; exact hown'
        have HOB5 := Lib.hid (And.intro hown2 hb5)
        clear hown' hgrow hown2 hb5
        go_wp2_with fail
        go_roundw
        case rel => exact ⟨k + 1, by go_num, by omega, Lib.hid (by rw [HS.out]; exact HOB5.out.1), Lib.hid HOB5.out.2⟩
        case measure => simp [intOf]; omega
    · obtain rfl : k = n2 := by omega
      have d1 : decide ((k : Int) < (k : Int)) = false := by simp
      have HF := Lib.hid hfull
      have hlk : l.take k = l := List.take_of_length_le (by rw [HL.out]; exact Nat.le_refl _)
      rw [hlk] at HR
      rw [hlk]
      obtain ⟨A3, c3, e3, h3⟩ := BxsAt.of_own HR.out
      have HZ := Lib.hid (And.intro e3 h3)
      clear hfull hW5 hlk e3 h3
      go_wp2_with fail
      go_ret
      exact ⟨A3, c3, by rw [← HZ.out.1]; rfl, HZ.out.2, HF.out⟩
end Go.Proofs.Ytmleoagdelgddaa
