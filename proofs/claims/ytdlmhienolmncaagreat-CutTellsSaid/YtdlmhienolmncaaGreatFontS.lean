/- font: Cut: rows of glyphs of the call's own; what the loop knows. -/
import Derived.Test.YtdlmhienolmncaaGreatFontQ
namespace Go.Proofs.YtdlmhienolmncaaGreat
open Go.RowKit

def gv (g : Gl) : List Value := [.int .i64 g.code, .int .i64 g.width, .string g.text]
def gvs : List Gl → List Value
  | [] => []
  | g :: r => .int .i64 g.code :: .int .i64 g.width :: .string g.text :: gvs r
theorem gvs_snoc : ∀ (l : List Gl) (g : Gl), gvs (l ++ [g]) = gvs l ++ gv g
  | [], g => rfl
  | x :: r, g => by simp [gvs, gvs_snoc r g]
theorem gvs_len : ∀ l : List Gl, (gvs l).length = l.length * 3
  | [] => rfl
  | x :: r => by simp [gvs, gvs_len r]; omega
theorem gvs_at : ∀ (l : List Gl) (i : Nat) (g : Gl), l[i]? = some g → (gvs l)[i * 3]? = some (.int .i64 g.code) ∧ (gvs l)[i * 3 + 1]? = some (.int .i64 g.width) ∧ (gvs l)[i * 3 + 2]? = some (.string g.text)
  | [], i, g, h => by simp at h
  | x :: r, 0, g, h => by
    simp at h
    subst h
    exact ⟨rfl, rfl, rfl⟩
  | x :: r, i + 1, g, h => by
    have ih := gvs_at r i g (by simpa using h)
    rw [show (i + 1) * 3 = i * 3 + 1 + 1 + 1 by omega, show i * 3 + 1 + 1 + 1 + 1 = i * 3 + 1 + 1 + 1 + 1 from rfl, show i * 3 + 1 + 1 + 1 + 2 = (i * 3 + 2) + 1 + 1 + 1 by omega]
    simp only [gvs, List.getElem?_cons_succ]
    exact ⟨ih.1, ih.2.1, ih.2.2⟩
theorem Glyphs.of_own {w : World} {base n : Nat} {v : Value} {l : List Gl} (h : w.ownsRow base 73 3 v n (gvs l)) (ht : ∀ g ∈ l, g.text.size ≤ 9223372036854775807) : ∃ A c, v = .slice A n c ∧ Glyphs w A n c l := by
  have hl : l.length = n := by have := h.1; rw [gvs_len] at this; omega
  rcases h.2 with ⟨rfl, rfl⟩ | ⟨g, cap, cur, rfl, hg, hw, hnc, hc, hs, htk⟩
  · exact ⟨none, 0, rfl, hl, by omega, by omega, ht, fun h => absurd h (by omega)⟩
  · have hw' : Whole w g 73 cur := hw
    have key : ∀ j u, (gvs l)[j]? = some u → w.cell? ⟨g, 0 + j, none⟩ = some u := fun j u hu => by
      rw [← htk, List.getElem?_take] at hu
      split at hu
      · rw [hw'.reads, Nat.zero_add, ← hu, Array.getElem?_toList]
      · cases hu
    refine ⟨_, cap, rfl, hl, hnc, by unfold maxLen at hc; omega, ht, fun _ => ⟨g, 0, rfl, hw'.lt, fun i x hx => ?_⟩⟩
    obtain ⟨a0, a1, a2⟩ := gvs_at l i x hx
    exact ⟨key _ _ a0, by have := key _ _ a1; rwa [← Nat.add_assoc] at this, by have := key _ _ a2; rwa [← Nat.add_assoc] at this⟩
theorem infoGl : (Tryz.prog.info? 73).map (fun i => (i.zero, i.size, i.bytes)) = some (some (.agg #[.int .i64 0, .int .i64 0, .string ⟨#[]⟩]), 3, 32) := by kernel_rfl
theorem info_gl : ∃ i, Tryz.prog.info? 73 = some i ∧ i.zero = some (.agg #[.int .i64 0, .int .i64 0, .string ⟨#[]⟩]) ∧ i.size = 3 ∧ i.bytes = 32 := by
  have h := infoGl
  cases hi : Tryz.prog.info? 73 with
  | none => rw [hi] at h; cases h
  | some i =>
    rw [hi] at h
    injection h with h
    injection h with h1 h2
    injection h2 with h2 h3
    exact ⟨i, rfl, h1, h2, h3⟩
theorem IntsAt.moved {w w' : World} {A : Option Addr} {n c : Nat} {l : List Int} (h : IntsAt w A n c l) (hs : w.heap.size ≤ w'.heap.size) (hc : ∀ R o, A = some ⟨R, o, none⟩ → w'.heap[R]? = w.heap[R]?) : IntsAt w' A n c l :=
  ⟨h.len, h.cap, h.top, fun hn => by
    obtain ⟨R, o, e, hR, hcell⟩ := h.at_ hn
    refine ⟨R, o, e, by omega, fun i x hx => ?_⟩
    have := hcell i x hx
    unfold World.cell? at this ⊢
    rw [hc R o e]
    exact this⟩
/-- Which glyph a code leaves. -/
def pick (wd : Bool) (ot : Int) (gs : List Gl) (code : Int) : Option Gl :=
  if (hitG gs code).isSome || (decide (0 < ot) && codeB wd code) then some (findG ot gs code) else none
def cutG (wd : Bool) (ot : Int) (gs : List Gl) (keep : List Int) : List Gl := (sdl keep).filterMap (pick wd ot gs)
structure CutSt (w wx : World) (B P : Nat) (wd : Bool) (A : Option Addr) (n c : Nat) (ot : Int) (L : List Gl) (A3 : Option Addr) (K c3 : Nat) (S : List Int) : Prop where
  f : FB wx w.heap.size wd A n c ot
  r : Whole wx (w.heap.size + 1) 64 #[.bool false, .slice none 0 0, .int .i64 0]
  o : ∃ v, Whole wx P 64 #[.bool wd, v, .int .i64 0] ∧ wx.ownsRow B 73 3 v L.length (gvs L)
  s : IntsAt wx A3 K c3 S
  sb : ∀ R o, A3 = some ⟨R, o, none⟩ → R < B ∧ R ≠ P
  below : Below w.heap.size w wx
  lo : w.heap.size + 1 < P
  hi : P < B
  top : B ≤ wx.heap.size
theorem CutSt.later {w wx w' : World} {B P : Nat} {wd : Bool} {A : Option Addr} {n c : Nat} {ot : Int} {L : List Gl} {A3 : Option Addr} {K c3 : Nat} {S : List Int} (h : CutSt w wx B P wd A n c ot L A3 K c3 S) (hb : Below wx.heap.size wx w') : CutSt w w' B P wd A n c ot L A3 K c3 S :=
  ⟨Whole.here h.f hb, h.r.here hb, by
    obtain ⟨v, hv, ho⟩ := h.o
    refine ⟨v, hv.here hb, ?_⟩
    obtain ⟨hl, ho⟩ := ho
    refine ⟨hl, ?_⟩
    rcases ho with ho | ⟨g, cap, cur, e, hg, hgg, r⟩
    · exact .inl ho
    · exact .inr ⟨g, cap, cur, e, hg, by rw [hb.block g (Array.getElem?_eq_some_iff.1 hgg).1]; exact hgg, r⟩,
    h.s.below hb, h.sb, h.below.trans (hb.mono h.below.size), h.lo, h.hi, Nat.le_trans h.top hb.size⟩
theorem CutSt.push {w W W' : World} {B P : Nat} {wd : Bool} {A : Option Addr} {n c : Nat} {ot : Int} {L : List Gl} {A3 : Option Addr} {K c3 : Nat} {S : List Int} {v v' : Value} {g : Gl} (h : CutSt w W B P wd A n c ot L A3 K c3 S)
    (hv : W.ownsRow B 73 3 v L.length (gvs L)) (hP : Whole W P 64 #[.bool wd, v, .int .i64 0])
    (hown : W'.ownsRow B 73 3 v' (L.length + 1) (gvs L ++ gv g)) (hg : W.grownBy W' v.ownBlock) : CutSt w (W'.setCell ⟨P, 1, none⟩ v') B P wd A n c ot (L ++ [g]) A3 K c3 S := by
  have hB : Below B W W' := (Below.refl B W).grown hg h.top (fun k e => (hv.lt k e).1)
  have hl := h.lo
  have hi := h.hi
  have blk : ∀ k, k < B → W'.heap[k]? = W.heap[k]? := fun k hk => hB.block k hk
  have e1 : Whole W' w.heap.size 64 #[.bool wd, .slice A n c, .int .i64 ot] := (blk _ (by omega)).trans h.f
  have e2 : Whole W' (w.heap.size + 1) 64 #[.bool false, .slice none 0 0, .int .i64 0] := (blk _ (by omega)).trans h.r
  have e3 : Whole W' P 64 #[.bool wd, v, .int .i64 0] := (blk _ hi).trans hP
  refine ⟨e1.away (p := ⟨P, 1, none⟩) (by show w.heap.size ≠ P; omega) _, e2.away (p := ⟨P, 1, none⟩) (by show w.heap.size + 1 ≠ P; omega) _, ⟨v', e3.set 1 v', ?_⟩, ?_, h.sb, ?_, hl, hi, ?_⟩
  · rw [gvs_snoc, List.length_append]
    exact ownsRow_setCell_below hown (a := ⟨P, 1, none⟩) hi v'
  · refine h.s.moved (by simpa using hB.size) (fun R o e => ?_)
    obtain ⟨h1, h2⟩ := h.sb R o e
    rw [Below.heap_setCell W' ⟨P, 1, none⟩ v' R h2]
    exact blk R h1
  · exact (h.below.trans (hB.mono (by omega))).setCell (by show w.heap.size ≤ P; omega) _
  · have := hB.size; have := h.top; simp; omega
end Go.Proofs.YtdlmhienolmncaaGreat
/- font: Cut, walked. -/
namespace Go.Proofs.YtdlmhienolmncaaGreat
open Go.RowKit

theorem Whole.low {w w' : World} {B g : Nat} {T : TypeId} {cs : Array Value} (h : Whole w g T cs) (hb : Below B w w') (hg : g < B) : Whole w' g T cs := (hb.block g hg).trans h
theorem CutSt.old {w wx : World} {B P : Nat} {wd : Bool} {A : Option Addr} {n c : Nat} {ot : Int} {L : List Gl} {A3 : Option Addr} {K c3 : Nat} {S : List Int} (h : CutSt w wx B P wd A n c ot L A3 K c3 S) (o : Obj) : CutSt w (wx.alloc o) B P wd A n c ot L A3 K c3 S :=
  h.later ((Below.refl _ _).alloc (Nat.le_refl _) o)
theorem own_below3 {a b : World} {B n z : Nat} {t : TypeId} {v : Value} {xs : List Value} (h : a.ownsRow B t z v n xs) (hb : Below a.heap.size a b) : b.ownsRow B t z v n xs := by
  obtain ⟨hl, h⟩ := h
  refine ⟨hl, ?_⟩
  rcases h with h | ⟨g, cap, cur, hv, hbb, hgg, r⟩
  · exact .inl h
  · exact .inr ⟨g, cap, cur, hv, hbb, by rw [hb.block g (Array.getElem?_eq_some_iff.1 hgg).1]; exact hgg, r⟩
theorem glyphs_own {w : World} {base n c : Nat} {A : Option Addr} {l : List Gl} (h : w.ownsRow base 73 3 (.slice A n c) n (gvs l)) (ht : ∀ g ∈ l, g.text.size ≤ 9223372036854775807) : Glyphs w A n c l := by
  obtain ⟨A', c', e, hg⟩ := Glyphs.of_own h ht
  injection e with e1 e2 e3
  subst e1 e3
  exact hg
theorem findG_text {gs : List Gl} {ot x : Int} (h : ∀ g ∈ gs, g.text.size ≤ 9223372036854775807) : (findG ot gs x).text.size ≤ 9223372036854775807 := by
  unfold findG
  cases hh : hitG gs x with
  | none => show (ByteArray.size ⟨#[]⟩) ≤ _; exact Nat.zero_le _
  | some g => exact h g (List.mem_of_find?_eq_some hh)
theorem cutG_text {w : World} {A : Option Addr} {n c : Nat} {gs : List Gl} {wd : Bool} {ot : Int} {keep : List Int} (h : Glyphs w A n c gs) : ∀ g ∈ cutG wd ot gs keep, g.text.size ≤ 9223372036854775807 := by
  intro g hg
  obtain ⟨x, _, hx⟩ := List.mem_filterMap.1 hg
  unfold pick at hx
  split at hx
  · injection hx with e
    subst e
    exact findG_text h.text
  · cases hx
def CutOk (wd : Bool) (L : List Gl) (w : World) (e : Ending) (w' : World) : Prop :=
  ∃ A n c, e = .returned (.tuple #[.agg #[.bool wd, .slice A n c, .int .i64 0], .int .i64 0]) ∧ Glyphs w' A n c L ∧ Below w.heap.size w w'
set_option maxRecDepth 100000 in
set_option maxHeartbeats 4000000 in
theorem cut_bad (wd : Bool) (A : Option Addr) (n c : Nat) (ot : Int) (gs : List Gl) (kv : Value) (w : World) (h : Glyphs w A n c gs) (hk : chkB wd ot gs = false) :
    Calls Tryz.prog 32 #[.agg #[.bool wd, .slice A n c, .int .i64 ot], kv] w fun e w' => e = .returned (.tuple #[.agg #[.bool false, .slice none 0 0, .int .i64 0], .int .i64 1]) ∧ Below w.heap.size w w' := by
  have hF := (Whole.made w 64 #[.bool wd, .slice A n c, .int .i64 ot]).old (.cells #[.bool false, .slice none 0 0, .int .i64 0] 64)
  have hR := Whole.made (w.alloc (.cells #[.bool wd, .slice A n c, .int .i64 ot] 64)) 64 #[.bool false, .slice none 0 0, .int .i64 0]
  simp only [World.size_alloc] at hR
  have hB : Below w.heap.size w ((w.alloc (.cells #[.bool wd, .slice A n c, .int .i64 ot] 64)).alloc (.cells #[.bool false, .slice none 0 0, .int .i64 0] 64)) := by (repeat (first | with_reducible exact Below.refl _ _ | with_reducible refine Below.drew ?_ | with_reducible refine bdrewN ?_ _ | (with_reducible refine Below.setCell ?_ ?_ _; rotate_left; focus (first | exact Nat.le_refl _ | omega | (simp; omega) | (simp; done))) | (with_reducible refine Below.alloc ?_ ?_ _; rotate_left; focus (first | exact Nat.le_refl _ | omega | (simp; omega) | (simp; done))) | (with_reducible refine Below.trans ?_ (Below.mono (by assumption) ?_); rotate_left; focus (first | exact Nat.le_refl _ | omega | (simp; omega) | (simp; done)))))
  have H := Lib.hid (And.intro h (And.intro hR hB))
  have HK := Lib.hid (chk_f hk)
  clear h hk hF hR hB
  go_enter Tryz.func32, Tryz.ntmps32
  go_wp2_with fail
  refine (check_any wd A n c ot gs _ (H.out.1.below H.out.2.2)).mono ?_
  rw [HK.out]
  rintro e w1 ⟨rfl, hb⟩
  have hR := H.out.2.1.here hb
  have hB := H.out.2.2.trans (hb.mono H.out.2.2.size)
  have rd := hR.reads
  have ft := hR.thawed
  have lR := hR.lt
  clear hb
  go_wp2_with fail
  refine bodyPost_ret (v := .tuple #[.agg #[.bool false, .slice none 0 0, .int .i64 0], .int .i64 1]) (by simp [results, Tryz.results32, go_sem, rd]) rfl ⟨rfl, ?_⟩
  (repeat (first | with_reducible refine Below.drew ?_ | with_reducible refine bdrewN ?_ _ | (with_reducible refine Below.setCell ?_ ?_ _; rotate_left; focus (first | exact Nat.le_refl _ | omega | (simp; omega) | (simp; done))) | (with_reducible refine Below.alloc ?_ ?_ _; rotate_left; focus (first | exact Nat.le_refl _ | omega | (simp; omega) | (simp; done))))); with_reducible exact hB
set_option maxRecDepth 100000 in
set_option maxHeartbeats 8000000 in
theorem cut_ok (wd : Bool) (A : Option Addr) (n c : Nat) (ot : Int) (gs : List Gl) (A2 : Option Addr) (n2 c2 : Nat) (keep : List Int) (w : World) (h : Glyphs w A n c gs) (hk : chkB wd ot gs = true) (h2 : IntsAt w A2 n2 c2 keep) (hn : n ≤ 1000000) (hn2 : n2 ≤ 1000000) :
    Calls Tryz.prog 32 #[.agg #[.bool wd, .slice A n c, .int .i64 ot], .slice A2 n2 c2] w (CutOk wd (cutG wd ot gs keep) w) := by
  have hF := (Whole.made w 64 #[.bool wd, .slice A n c, .int .i64 ot]).old (.cells #[.bool false, .slice none 0 0, .int .i64 0] 64)
  have hR := Whole.made (w.alloc (.cells #[.bool wd, .slice A n c, .int .i64 ot] 64)) 64 #[.bool false, .slice none 0 0, .int .i64 0]
  simp only [World.size_alloc] at hR
  have hB : Below w.heap.size w ((w.alloc (.cells #[.bool wd, .slice A n c, .int .i64 ot] 64)).alloc (.cells #[.bool false, .slice none 0 0, .int .i64 0] 64)) := by (repeat (first | with_reducible exact Below.refl _ _ | with_reducible refine Below.drew ?_ | with_reducible refine bdrewN ?_ _ | (with_reducible refine Below.setCell ?_ ?_ _; rotate_left; focus (first | exact Nat.le_refl _ | omega | (simp; omega) | (simp; done))) | (with_reducible refine Below.alloc ?_ ?_ _; rotate_left; focus (first | exact Nat.le_refl _ | omega | (simp; omega) | (simp; done))) | (with_reducible refine Below.trans ?_ (Below.mono (by assumption) ?_); rotate_left; focus (first | exact Nat.le_refl _ | omega | (simp; omega) | (simp; done)))))
  have H0 := Lib.hid (And.intro hF (And.intro hR hB))
  have HK := Lib.hid (And.intro (chk_t hk) (rise_chk hk))
  have HG := Lib.hid h
  have HI := Lib.hid h2
  obtain ⟨i0, hi, hz0, hz1, hz2⟩ := info_gl
  clear h h2 hk hF hR hB
  go_enter Tryz.func32, Tryz.ntmps32
  go_wp2_with fail
  refine (check_any wd A n c ot gs _ (HG.out.below H0.out.2.2)).mono ?_
  rw [HK.out.1]
  rintro e w1 ⟨rfl, hb⟩
  have H1 := Lib.hid (And.intro (H0.out.1.here hb) (And.intro (H0.out.2.1.here hb) (H0.out.2.2.trans (hb.mono H0.out.2.2.size))))
  have cf := (H0.out.1.here hb).reads
  have lF := (H0.out.1.here hb).lt
  clear hb H0
  go_wp2_with fail
  have lR := H1.out.2.1.lt
  have H2 := Lib.hid (And.intro (H1.out.1.old (.cells #[.bool wd, .slice none 0 0, .int .i64 0] 64)) (And.intro (H1.out.2.1.old (.cells #[.bool wd, .slice none 0 0, .int .i64 0] 64)) (And.intro (Whole.made w1 64 #[.bool wd, .slice none 0 0, .int .i64 0]) (H1.out.2.2.alloc H1.out.2.2.size (.cells #[.bool wd, .slice none 0 0, .int .i64 0] 64)))))
  clear H1 cf lF
  refine (clone_any A2 n2 c2 keep _ (HI.out.below H2.out.2.2.2) hn2).mono ?_
  rintro e w2 ⟨v, rfl, hown, hb⟩
  obtain ⟨P, hP⟩ : ∃ P, w1.heap.size = P := ⟨_, rfl⟩
  have hsz0 : (w1.alloc (.cells #[.bool wd, .slice none 0 0, .int .i64 0] 64)).heap.size = P + 1 := by simp [hP]
  rw [hsz0] at hown
  have hb' : Below (P + 1) (w1.alloc (.cells #[.bool wd, .slice none 0 0, .int .i64 0] 64)) w2 := by rw [← hsz0]; exact hb
  have H3 := Lib.hid (And.intro (H2.out.1.here hb) (And.intro (H2.out.2.1.here hb) (And.intro (by have := H2.out.2.2.1.here hb; rw [hP] at this; exact this) (H2.out.2.2.2.trans (hb.mono H2.out.2.2.2.size)))))
  have hs2 : P + 1 ≤ w2.heap.size := by have := hb.size; omega
  have HO := Lib.hid hown
  clear H2 hb hb' hown hsz0
  rw [hP]
  have lR : w.heap.size + 1 < P := by omega
  clear hP
  obtain ⟨A', c', rfl⟩ : ∃ A' c', v = .slice A' n2 c' := by
    obtain ⟨a, b, e, _⟩ := IntsAt.of_own HO.out
    exact ⟨a, b, e⟩
  go_wp2_with fail
  refine (sort_own (P + 1) n2 _ keep _ HO.out hs2 hn2).mono ?_
  rintro e w3 ⟨rfl, hown, hb⟩
  have H4 := Lib.hid (And.intro (H3.out.1.low hb (by omega)) (And.intro (H3.out.2.1.low hb (by omega)) (And.intro (H3.out.2.2.1.low hb (by omega)) (H3.out.2.2.2.trans (hb.mono (by omega))))))
  have hs3 : P + 1 ≤ w3.heap.size := Nat.le_trans hs2 hb.size
  have HO3 := Lib.hid hown
  clear H3 HO hown hb hs2
  go_wp2_with fail
  refine (compact_own (P + 1) n2 _ _ _ HO3.out hs3 hn2).mono ?_
  rintro e w4 ⟨A3, c3, rfl, hints, hb, hlow⟩
  have hst : CutSt w w4 w4.heap.size P wd A n c ot [] A3 (sdl keep).length c3 (sdl keep) :=
    ⟨H4.out.1.low hb (by omega), H4.out.2.1.low hb (by omega), ⟨.slice none 0 0, H4.out.2.2.1.low hb (by omega), World.ownsRow_nil _ _ _ _⟩, hints,
      fun R o e => ⟨(hlow R o e).2, by have := (hlow R o e).1; omega⟩, H4.out.2.2.2.trans (hb.mono (by omega)), lR, by have := hb.size; omega, Nat.le_refl _⟩
  have hKn : (sdl keep).length ≤ 1000000 := by have h1 := sdl_len keep; have h2 := HI.out.len; omega
  have HS0 := Lib.hid hst
  rw [show (Lib.compact (keep.mergeSort fun x y => decide (x ≤ y))) = sdl keep from rfl]
  clear H4 HO3 hs3 hints hb hlow hst
  obtain ⟨B, hB⟩ : ∃ B, w4.heap.size = B := ⟨_, rfl⟩
  rw [hB] at HS0
  clear hB
  obtain ⟨S, hS⟩ : ∃ S, sdl keep = S := ⟨_, rfl⟩
  rw [hS] at HS0 hKn ⊢
  have HSK := Lib.hid hS
  clear hS
  go_wp2_with fail
  go_loopw [29] (fun s29 wx => ∃ k : Nat, k ≤ S.length ∧ s29 = .int .i64 k ∧ Hid (CutSt w wx B P wd A n c ot ((S.take k).filterMap (pick wd ot gs)) A3 S.length c3 S)) (fun s29 _ => S.length - (intOf s29).toNat)
  case atStart => exact ⟨0, by omega, rfl, HS0⟩
  case round =>
    clear HS0
    obtain ⟨k, hk, rfl, hS⟩ := hrel
    have cf := (hS.out.f).cells
    have lF := Whole.lt hS.out.f
    by_cases hlt : k < S.length
    · have d1 : decide ((k : Int) < (S.length : Int)) = true := by simp; omega
      have d2 : decide (k < S.length) = true := by simp; omega
      obtain ⟨x, hx⟩ : ∃ x, S[k]? = some x := ⟨_, List.getElem?_eq_getElem hlt⟩
      obtain ⟨R, o, rfl, hR, hc⟩ := hS.out.s.at_ (by omega)
      have cx := hc k x hx
      have htk : (S.take (k + 1)).filterMap (pick wd ot gs) = (S.take k).filterMap (pick wd ot gs) ++ (match pick wd ot gs x with | some g => [g] | none => []) := by
        rw [List.take_add_one, hx, List.filterMap_append]
        cases hp : pick wd ot gs x <;> simp [hp]
      have HX := Lib.hid htk
      have hk9 : k ≤ 1000000 := by omega
      clear hx hc htk
      go_wp2_with fail
      obtain ⟨L, hL⟩ : ∃ L, (S.take k).filterMap (pick wd ot gs) = L := ⟨_, rfl⟩
      have hLn : L.length ≤ 1000000 := by rw [← hL]; exact Nat.le_trans (List.length_filterMap_le _ _) (by simp; omega)
      rw [hL] at hS HX
      clear hL
      refine (search_any wd A n c ot gs x _ (HG.out.below hS.out.below) HK.out.2 hn).mono ?_
      rintro e w5 ⟨rfl, hb⟩
      obtain ⟨g, hg⟩ : ∃ g, findG ot gs x = g := ⟨_, rfl⟩
      obtain ⟨b, hbb⟩ : ∃ b, (hitG gs x).isSome = b := ⟨_, rfl⟩
      rw [hg, hbb]
      have hpk : pick wd ot gs x = if (b || (decide (0 < ot) && codeB wd x)) = true then some g else none := by unfold pick; rw [hbb, hg]
      have H5 := Lib.hid (hS.out.later hb)
      have HPK := Lib.hid hpk
      have HLL := Lib.hid hLn
      clear hLn
      clear cf lF hR cx hb hpk hg hbb
      have cf := (H5.out.f).cells
      have lF := Whole.lt H5.out.f
      obtain ⟨v5, hP5, ho5⟩ := H5.out.o
      obtain ⟨A5, c5, rfl⟩ := own_slice ho5
      have rdP := hP5.reads
      have lP := hP5.lt
      have HV := Lib.hid (And.intro hP5 ho5)
      clear hP5 ho5
      cases b with
      | true =>
        go_wp2_with (at_builtin; refine wpList_append_own _ rfl _ _ 62 rfl B 73 i0 (.agg #[.int .i64 0, .int .i64 0, .string ⟨#[]⟩]) 3 32 Tryz.underlying62 hi hz0 hz1 hz2 rfl (by decide) (.slice A5 L.length c5) L.length (gvs L) ?pa ?pb ⟨w5.heap.size + 1, 0, none⟩ 1 1 (gv g) ?pc rfl ?pd ?pe ?pf ?pg ?ph ?pi)
        case pa => rfl
        case pb => exact (HV.out.2.alloc (.cells #[.int .i64 g.code, .int .i64 g.width, .string g.text] 73)).alloc _
        case pc => rfl
        case pd =>
          have := World.news_of_block (cs := #[.int .i64 g.code, .int .i64 g.width, .string g.text]) (t := 73) (fr := (0, 0)) (heap_alloc_new (w5.alloc (.cells #[.int .i64 g.code, .int .i64 g.width, .string g.text] 73)) (.cells #[.int .i64 g.code, .int .i64 g.width, .string g.text] 73))
          simpa [gv] using this
        case pe => simp [gv, Value.oneCell']
        case pf => unfold maxLen; have := HLL.out; omega
        case pg => have := HLL.out; omega
        case ph => have := (H5.out.old (.cells #[.int .i64 g.code, .int .i64 g.width, .string g.text] 73)).top; simp at this ⊢; omega
        case pi =>
        intro v' w8 hown' hgrow _
        have hB8 := (Below.refl B _).grown hgrow (by have := (H5.out.old (.cells #[.int .i64 g.code, .int .i64 g.width, .string g.text] 73)).top; simp at this ⊢; omega) (fun k e => ((HV.out.2.alloc (.cells #[.int .i64 g.code, .int .i64 g.width, .string g.text] 73)).alloc (.cells #[.int .i64 g.code, .int .i64 g.width, .string g.text] 73)).lt k e |>.1)
        have hP8 : Whole w8 P 64 #[.bool wd, .slice A5 L.length c5, .int .i64 0] := ((HV.out.1.old (.cells #[.int .i64 g.code, .int .i64 g.width, .string g.text] 73)).old (.cells #[.int .i64 g.code, .int .i64 g.width, .string g.text] 73)).low hB8 (H5.out.old (.cells #[.int .i64 g.code, .int .i64 g.width, .string g.text] 73)).hi
        have H8 := Lib.hid (((H5.out.old (.cells #[.int .i64 g.code, .int .i64 g.width, .string g.text] 73)).old (.cells #[.int .i64 g.code, .int .i64 g.width, .string g.text] 73)).push ((HV.out.2.alloc (.cells #[.int .i64 g.code, .int .i64 g.width, .string g.text] 73)).alloc _) ((HV.out.1.old (.cells #[.int .i64 g.code, .int .i64 g.width, .string g.text] 73)).old _) hown' hgrow)
        have rd8 := hP8.reads
        have ft8 := hP8.thawed
        have lP8 := hP8.lt
        obtain ⟨A8, c8, rfl⟩ := own_slice hown'
        clear hown' hgrow hB8 hP8
        go_wp2_with fail
        go_roundw
        case rel => exact ⟨k + 1, by omega, by go_num, by rw [HX.out, HPK.out, Bool.true_or, if_pos rfl]; exact H8⟩
        case measure => simp [intOf]; omega
      | false =>
        by_cases h0 : 0 < ot
        · have d3 : decide (0 < ot) = true := by simp; omega
          have H6 := Lib.hid (H5.out.old (.cells #[.int .i64 g.code, .int .i64 g.width, .string g.text] 73))
          have HGl := Lib.hid (Whole.made w5 73 #[.int .i64 g.code, .int .i64 g.width, .string g.text])
          have HV6 := Lib.hid (And.intro (HV.out.1.old (.cells #[.int .i64 g.code, .int .i64 g.width, .string g.text] 73)) (HV.out.2.alloc (.cells #[.int .i64 g.code, .int .i64 g.width, .string g.text] 73)))
          go_wp2_with fail
          refine (isCode_any wd A n c ot x _).mono ?_
          rintro e w6 ⟨rfl, hb⟩
          clear rdP lP cf lF
          have H7 := Lib.hid (H6.out.later hb)
          have hP7 := HV6.out.1.here hb
          have ho7 := own_below3 HV6.out.2 hb
          have hG7 := HGl.out.here hb
          have rdP := hP7.reads
          have lP := hP7.lt
          have rdG := hG7.reads
          have lG := hG7.lt
          have HV7 := Lib.hid (And.intro hP7 ho7)
          have H1b : w5.heap.size + 1 ≤ w6.heap.size := by have := hb.size; simp at this; omega
          clear hb hP7 ho7 hG7 H6 HV6 HGl
          cases hcb : codeB wd x with
          | true =>
            rw [hcb, d3] at HPK
            clear hcb
            go_wp2_with (at_builtin; refine wpList_append_own _ rfl _ _ 62 rfl B 73 i0 (.agg #[.int .i64 0, .int .i64 0, .string ⟨#[]⟩]) 3 32 Tryz.underlying62 hi hz0 hz1 hz2 rfl (by decide) (.slice A5 L.length c5) L.length (gvs L) ?qa ?qb ⟨w6.heap.size, 0, none⟩ 1 1 (gv g) ?qc rfl ?qd ?qe ?qf ?qg ?qh ?qi)
            case qa => rfl
            case qb => exact (HV7.out.2).alloc _
            case qc => rfl
            case qd =>
              have := World.news_of_block (cs := #[.int .i64 g.code, .int .i64 g.width, .string g.text]) (t := 73) (fr := (0, 0)) (heap_alloc_new (w6) (.cells #[.int .i64 g.code, .int .i64 g.width, .string g.text] 73))
              simpa [gv] using this
            case qe => simp [gv, Value.oneCell']
            case qf => unfold maxLen; have := HLL.out; omega
            case qg => have := HLL.out; omega
            case qh => have := (H7.out).top; simp at this ⊢; omega
            case qi =>
            intro v' w8 hown' hgrow _
            have hB8 := (Below.refl B _).grown hgrow (by have := (H7.out).top; simp at this ⊢; omega) (fun k e => ((HV7.out.2).alloc (.cells #[.int .i64 g.code, .int .i64 g.width, .string g.text] 73)).lt k e |>.1)
            have hP8 : Whole w8 P 64 #[.bool wd, .slice A5 L.length c5, .int .i64 0] := (HV7.out.1.old (.cells #[.int .i64 g.code, .int .i64 g.width, .string g.text] 73)).low hB8 (H7.out).hi
            have H8 := Lib.hid (((H7.out).old (.cells #[.int .i64 g.code, .int .i64 g.width, .string g.text] 73)).push ((HV7.out.2).alloc _) (HV7.out.1.old _) hown' hgrow)
            have rd8 := hP8.reads
            have ft8 := hP8.thawed
            have lP8 := hP8.lt
            obtain ⟨A8, c8, rfl⟩ := own_slice hown'
            clear hown' hgrow hB8 hP8
            go_wp2_with fail
            go_roundw
            case rel => exact ⟨k + 1, by omega, by go_num, by rw [HX.out, HPK.out, show ((false || (true && true)) = true) from rfl, if_pos rfl]; exact H8⟩
            case measure => simp [intOf]; omega
          | false =>
            rw [hcb, d3] at HPK
            clear hcb
            go_wp2_with fail
            go_roundw
            case rel => exact ⟨k + 1, by omega, by go_num, by rw [HX.out, HPK.out]; simpa using H7⟩
            case measure => simp [intOf]; omega
        · have d3 : decide (0 < ot) = false := by simp; omega
          rw [d3] at HPK
          have H6 := Lib.hid (H5.out.old (.cells #[.int .i64 g.code, .int .i64 g.width, .string g.text] 73))
          go_wp2_with fail
          go_roundw
          case rel => exact ⟨k + 1, by omega, by go_num, by rw [HX.out, HPK.out]; simpa using H6⟩
          case measure => simp [intOf]; omega
    · have d1 : decide ((k : Int) < (S.length : Int)) = false := by simp; omega
      have d2 : decide (k < S.length) = false := by simp; omega
      obtain rfl : k = S.length := by omega
      obtain ⟨v5, hP5, ho5⟩ := hS.out.o
      rw [List.take_length] at ho5
      have hcg : S.filterMap (pick wd ot gs) = cutG wd ot gs keep := by unfold cutG; rw [HSK.out]
      rw [hcg] at ho5
      obtain ⟨A5, c5, e5, hgl⟩ := Glyphs.of_own ho5 (cutG_text HG.out)
      subst e5
      have hgl2 := hgl.len
      have rdP := hP5.reads
      have lP := hP5.lt
      have rd := hS.out.r.reads
      have ft := hS.out.r.thawed
      have lR := hS.out.r.lt
      have HH := Lib.hid (And.intro (ownsRow_setCell_below (ownsRow_setCell_below (ownsRow_setCell_below ho5 (a := ⟨w.heap.size + 1, 0, none⟩) (Nat.lt_trans hS.out.lo hS.out.hi) (.bool wd)) (a := ⟨w.heap.size + 1, 1, none⟩) (Nat.lt_trans hS.out.lo hS.out.hi) (.slice A5 (cutG wd ot gs keep).length c5)) (a := ⟨w.heap.size + 1, 2, none⟩) (Nat.lt_trans hS.out.lo hS.out.hi) (.int .i64 0)) hS.out.below)
      clear hgl2 hgl hP5 ho5 cf lF hcg
      go_wp2_with fail
      refine bodyPost_ret (v := .tuple #[.agg #[.bool wd, .slice A5 (cutG wd ot gs keep).length c5, .int .i64 0], .int .i64 0]) (by simp [results, Tryz.results32, go_sem, rd]) rfl ⟨A5, _, c5, rfl, glyphs_own HH.out.1 (cutG_text HG.out), ?_⟩
      (repeat (first | with_reducible refine Below.drew ?_ | with_reducible refine bdrewN ?_ _ | (with_reducible refine Below.setCell ?_ ?_ _; rotate_left; focus (first | exact Nat.le_refl _ | omega | (simp; omega) | (simp; done))) | (with_reducible refine Below.alloc ?_ ?_ _; rotate_left; focus (first | exact Nat.le_refl _ | omega | (simp; omega) | (simp; done))))); with_reducible exact HH.out.2
end Go.Proofs.YtdlmhienolmncaaGreat
