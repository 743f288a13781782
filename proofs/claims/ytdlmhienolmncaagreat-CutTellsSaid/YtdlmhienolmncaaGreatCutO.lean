/- cut: the pieces of a text: pure, and in memory. -/
import Derived.Test.YtdlmhienolmncaaGreatCutJ
import Derived.Test.YtdlmhienolmncaaGreatFontDi
namespace Go.Proofs.YtdlmhienolmncaaGreat
open Go.RowKit Dec

def totT (l : List (ByteArray × BV)) : Nat := (l.map (·.1.size)).sum
theorem totT_snoc (l : List (ByteArray × BV)) (p : ByteArray × BV) : totT (l ++ [p]) = totT l + p.1.size := by unfold totT; simp
theorem pcsFrom_snoc : ∀ (e : Nat) (l : List (ByteArray × BV)) (p : ByteArray × BV), pcsFrom e (l ++ [p]) = pcsFrom e l ++ [⟨p.1, e + totT l + p.1.size, p.2⟩]
  | e, [], (t, b) => by simp [pcsFrom, totT]
  | e, (t, b) :: l, p => by
    rw [List.cons_append, pcsFrom, pcsFrom, pcsFrom_snoc (e + t.size) l p]
    simp only [List.cons_append, List.cons.injEq, true_and]
    congr 2
    unfold totT
    simp only [List.map_cons, List.sum_cons, Pc.mk.injEq, true_and, and_true]
    omega
theorem txOf_step (fs : List Nm) {l : List Mk} {k : Nat} {x : Mk} (h : l[k]? = some x) : txOf fs (l.take (k + 1)) = if glyphB x = true then txOf fs (l.take k) ++ [(textS (rawOf fs x), x.box)] else txOf fs (l.take k) := by
  unfold txOf
  rw [filt_step glyphB h]
  split <;> simp
theorem pcs_step (fs : List Nm) {l : List Mk} {k : Nat} {x : Mk} (h : l[k]? = some x) : pcs fs (l.take (k + 1)) = if glyphB x = true then pcs fs (l.take k) ++ [⟨textS (rawOf fs x), totT (txOf fs (l.take k)) + (textS (rawOf fs x)).size, x.box⟩] else pcs fs (l.take k) := by
  unfold pcs
  rw [txOf_step fs h]
  split
  · rw [pcsFrom_snoc, Nat.zero_add]
  · rfl
theorem totT_step (fs : List Nm) {l : List Mk} {k : Nat} {x : Mk} (h : l[k]? = some x) : totT (txOf fs (l.take (k + 1))) = if glyphB x = true then totT (txOf fs (l.take k)) + (textS (rawOf fs x)).size else totT (txOf fs (l.take k)) := by
  rw [txOf_step fs h]
  split
  · rw [totT_snoc]
  · rfl
theorem pcsFrom_len : ∀ (e : Nat) (l : List (ByteArray × BV)), (pcsFrom e l).length = l.length
  | _, [] => rfl
  | e, (t, b) :: l => by rw [pcsFrom, List.length_cons, List.length_cons, pcsFrom_len]
theorem pcs_len (fs : List Nm) (l : List Mk) : (pcs fs l).length ≤ l.length := by
  unfold pcs txOf
  rw [pcsFrom_len, List.length_map]
  exact List.length_filter_le _ _
theorem nms_mem {fs : List Nm} (h : nmsB fs = true) {f : Nm} (hf : f ∈ fs) : nmB f = true := by
  unfold nmsB at h
  simp only [Bool.and_eq_true, List.all_eq_true] at h
  obtain ⟨i, hi, rfl⟩ := List.mem_iff_getElem.1 hf
  have := h.2 i (List.mem_range.2 hi)
  rw [nmsAt_is (List.getElem?_eq_getElem hi)] at this
  simp only [Bool.and_eq_true] at this
  exact this.2
theorem fontOf_mem {fs : List Nm} {name : ByteArray} {f : Nm} (h : fontOf fs name = some f) : f ∈ fs ∧ f.name = name := by
  unfold fontOf at h
  exact ⟨List.mem_of_find?_eq_some h, by simpa using List.find?_some h⟩
theorem chk_text {wd : Bool} {ot : Int} {gs : List Gl} (h : chkB wd ot gs = true) {g : Gl} (hg : g ∈ gs) : g.text.size ≤ 16 := by
  unfold chkB at h
  simp only [Bool.and_eq_true, List.all_eq_true] at h
  obtain ⟨i, hi, rfl⟩ := List.mem_iff_getElem.1 hg
  have := h.2.2 i (List.mem_range.2 hi)
  unfold okAt at this
  rw [List.getElem?_eq_getElem hi] at this
  simp only [Bool.and_eq_true, Bool.or_eq_true, beq_iff_eq] at this
  rcases this.2.2.1 with h | h
  · omega
  · unfold textB at h
    rw [decide_eq_true_iff] at h
    omega
theorem findG_small {wd : Bool} {ot : Int} {gs : List Gl} (h : chkB wd ot gs = true) (x : Int) : (findG ot gs x).text.size ≤ 16 := by
  unfold findG
  cases hh : hitG gs x with
  | none => show (ByteArray.size ⟨#[]⟩) ≤ _; exact Nat.zero_le _
  | some g => exact chk_text h (List.mem_of_find?_eq_some hh)
theorem raw_small {fs : List Nm} (h : nmsB fs = true) (x : Mk) : (rawOf fs x).size ≤ 16 := by
  unfold rawOf
  split
  · rename_i f hf
    exact findG_small (nms_mem h (fontOf_mem hf).1) _
  · show (ByteArray.size ⟨#[]⟩) ≤ _; exact Nat.zero_le _
theorem textS_small (s : ByteArray) : (textS s).size ≤ 2 * s.size := by
  unfold textS
  split
  · rename_i o ho
    rw [strB_size, ← size_list]
    exact (textU_most _ _ o (Nat.le_refl _) ho).1
  · show (ByteArray.size ⟨#[]⟩) ≤ _; exact Nat.zero_le _
theorem totT_small {fs : List Nm} (h : nmsB fs = true) : ∀ (l : List Mk), totT (txOf fs l) ≤ 32 * l.length
  | [] => Nat.zero_le _
  | x :: l => by
    have ih := totT_small h l
    have h1 := raw_small h x
    have h2 := textS_small (rawOf fs x)
    rw [List.length_cons]
    unfold txOf totT at ih ⊢
    rw [List.filter_cons]
    split
    · simp only [List.map_cons, List.sum_cons]
      omega
    · omega
/-- A piece's ten cells. -/
def pcV (p : Pc) : List Value := [.string p.text, .int .i64 (p.fin : Int), .int .i64 p.box.x0.m, .int .i64 p.box.x0.s, .int .i64 p.box.y0.m, .int .i64 p.box.y0.s, .int .i64 p.box.x1.m, .int .i64 p.box.x1.s, .int .i64 p.box.y1.m, .int .i64 p.box.y1.s]
theorem pcV_len (p : Pc) : (pcV p).length = 10 := rfl
structure PcsAt (w : World) (A : Option Addr) (n c : Nat) (l : List Pc) : Prop where
  row : RowAt w A n c 10 (l.map pcV)
  small : ∀ p ∈ l, p.text.size ≤ 32 ∧ p.fin ≤ 1000000000 ∧ p.text.size ≤ p.fin
theorem PcsAt.below {w w' : World} {A : Option Addr} {n c : Nat} {l : List Pc} (h : PcsAt w A n c l) (hg : Below w.heap.size w w') : PcsAt w' A n c l := ⟨h.row.below hg, h.small⟩
theorem PcsAt.len {w : World} {A : Option Addr} {n c : Nat} {l : List Pc} (h : PcsAt w A n c l) : l.length = n := by have := h.row.len; rwa [List.length_map] at this
theorem PcsAt.get {w : World} {A : Option Addr} {n c : Nat} {l : List Pc} (h : PcsAt w A n c l) {i : Nat} {p : Pc} (hx : l[i]? = some p) : ∃ R o, A = some ⟨R, o, none⟩ ∧ R < w.heap.size ∧
    (w.cell? ⟨R, o + i * 10, none⟩ = some (.string p.text) ∧ w.cell? ⟨R, o + i * 10 + 1, none⟩ = some (.int .i64 (p.fin : Int)) ∧ w.cell? ⟨R, o + i * 10 + 2, none⟩ = some (.int .i64 p.box.x0.m) ∧ w.cell? ⟨R, o + i * 10 + 3, none⟩ = some (.int .i64 p.box.x0.s) ∧ w.cell? ⟨R, o + i * 10 + 4, none⟩ = some (.int .i64 p.box.y0.m) ∧ w.cell? ⟨R, o + i * 10 + 5, none⟩ = some (.int .i64 p.box.y0.s) ∧ w.cell? ⟨R, o + i * 10 + 6, none⟩ = some (.int .i64 p.box.x1.m) ∧ w.cell? ⟨R, o + i * 10 + 7, none⟩ = some (.int .i64 p.box.x1.s) ∧ w.cell? ⟨R, o + i * 10 + 8, none⟩ = some (.int .i64 p.box.y1.m) ∧ w.cell? ⟨R, o + i * 10 + 9, none⟩ = some (.int .i64 p.box.y1.s)) ∧ p.text.size ≤ 32 ∧ p.fin ≤ 1000000000 ∧ p.text.size ≤ p.fin := by
  have hi := (List.getElem?_eq_some_iff.1 hx).1
  have hl := h.len
  obtain ⟨R, o, e, hR, hk⟩ := RowAt.at_ h.row (by omega)
  have hk2 := fun j u hu => hk i (pcV p) (by rw [List.getElem?_map, hx]; rfl) j u hu
  exact ⟨R, o, e, hR, ⟨hk2 0 _ rfl, hk2 1 _ rfl, hk2 2 _ rfl, hk2 3 _ rfl, hk2 4 _ rfl, hk2 5 _ rfl, hk2 6 _ rfl, hk2 7 _ rfl, hk2 8 _ rfl, hk2 9 _ rfl⟩, h.small p (List.mem_of_getElem? hx)⟩
def rowPc (l : List Pc) : List Value := (l.map pcV).flatten
theorem rowPc_snoc (l : List Pc) (p : Pc) : rowPc l ++ [.string p.text, .int .i64 (p.fin : Int), .int .i64 p.box.x0.m, .int .i64 p.box.x0.s, .int .i64 p.box.y0.m, .int .i64 p.box.y0.s, .int .i64 p.box.x1.m, .int .i64 p.box.x1.s, .int .i64 p.box.y1.m, .int .i64 p.box.y1.s] = rowPc (l ++ [p]) := by unfold rowPc; rw [List.map_append]; exact flat_snoc _ _
theorem pcV_all (l : List Pc) : ∀ cs ∈ l.map pcV, cs.length = 10 := fun cs h => by
  obtain ⟨x, -, rfl⟩ := List.mem_map.1 h
  rfl
theorem infoPc : (Tryz.prog.info? 119).map (fun i => (i.zero, i.size, i.bytes)) = some (some (.agg #[.string ⟨#[]⟩, .int .i64 0, .int .i64 0, .int .i64 0, .int .i64 0, .int .i64 0, .int .i64 0, .int .i64 0, .int .i64 0, .int .i64 0]), 10, 88) := by kernel_rfl
theorem info_pc : ∃ i, Tryz.prog.info? 119 = some i ∧ i.zero = some (.agg #[.string ⟨#[]⟩, .int .i64 0, .int .i64 0, .int .i64 0, .int .i64 0, .int .i64 0, .int .i64 0, .int .i64 0, .int .i64 0, .int .i64 0]) ∧ i.size = 10 ∧ i.bytes = 88 := by
  have h := infoPc
  cases hi : Tryz.prog.info? 119 with
  | none => rw [hi] at h; cases h
  | some i =>
    rw [hi] at h
    injection h with h
    injection h with h1 h2
    injection h2 with h2 h3
    exact ⟨i, rfl, h1, h2, h3⟩
end Go.Proofs.YtdlmhienolmncaaGreat
/- cut: read: the texts of all glyphs. -/
namespace Go.Proofs.YtdlmhienolmncaaGreat
open Go.RowKit Dec

def readL (fs : List Nm) (l : List Mk) : List Pc := if readE fs l = 0 then pcs fs l else []
theorem read_bad {fs : List Nm} {l : List Mk} (h : knownB fs l = false) : readE fs l = 1 ∧ readL fs l = [] := by
  have e : readE fs l = 1 := by unfold readE; rw [h]; rfl
  exact ⟨e, by unfold readL; rw [e]; rfl⟩
theorem read_form {fs : List Nm} {l : List Mk} (h : knownB fs l = true) (h2 : l.all (txB fs) = false) : readE fs l = 4 ∧ readL fs l = [] := by
  have e : readE fs l = 4 := by unfold readE; rw [h, h2]; rfl
  exact ⟨e, by unfold readL; rw [e]; rfl⟩
theorem read_ok {fs : List Nm} {l : List Mk} (h : knownB fs l = true) (h2 : l.all (txB fs) = true) : readE fs l = 0 ∧ readL fs l = pcs fs l := by
  have e : readE fs l = 0 := by unfold readE; rw [h, h2]; rfl
  exact ⟨e, by unfold readL; rw [e]; rfl⟩
def ReadSaid (fs : List Nm) (l : List Mk) (w : World) (e : Ending) (w' : World) : Prop :=
  ∃ A' c', e = .returned (.tuple #[.slice A' (readL fs l).length c', .int .i64 (readE fs l)]) ∧ PcsAt w' A' (readL fs l).length c' (readL fs l) ∧ Below w.heap.size w w'
theorem pcs_nil (w : World) : PcsAt w none 0 0 [] := ⟨RowAt.none _ _, fun p hp => by simp at hp⟩
theorem known_font {fs : List Nm} {l : List Mk} (h : knownB fs l = true) {x : Mk} (hx : x ∈ l) (hg : glyphB x = true) : ∃ f, fontOf fs x.name = some f := by
  unfold knownB at h
  simp only [Bool.and_eq_true, List.all_eq_true] at h
  have := h.2 x hx
  unfold hasB at this
  rw [hg, Bool.not_true, Bool.false_or] at this
  exact Option.isSome_iff_exists.1 this
theorem pcs_small {fs : List Nm} (h : nmsB fs = true) {l : List Mk} (hl : l.length ≤ 1000000) : ∀ p ∈ pcs fs l, p.text.size ≤ 32 ∧ p.fin ≤ 1000000000 ∧ p.text.size ≤ p.fin := by
  have key : ∀ (m : List (ByteArray × BV)) (e : Nat), (∀ q ∈ m, q.1.size ≤ 32) → ∀ p ∈ pcsFrom e m, p.text.size ≤ 32 ∧ p.fin ≤ e + totT m ∧ p.text.size ≤ p.fin := by
    intro m
    induction m with
    | nil => intro e _ p hp; simp [pcsFrom] at hp
    | cons q m ih =>
      intro e hq p hp
      obtain ⟨t, b⟩ := q
      have hs : totT ((t, b) :: m) = t.size + totT m := by unfold totT; simp
      rw [pcsFrom] at hp
      rcases List.mem_cons.1 hp with rfl | hp
      · exact ⟨hq _ (List.mem_cons_self ..), by show e + t.size ≤ _; omega, by show t.size ≤ e + t.size; omega⟩
      · have := ih (e + t.size) (fun q hm => hq q (List.mem_cons_of_mem _ hm)) p hp
        exact ⟨this.1, by omega, this.2.2⟩
  intro p hp
  have h2 := totT_small h l
  have := key (txOf fs l) 0 (fun q hq => by
    unfold txOf at hq
    obtain ⟨x, -, rfl⟩ := List.mem_map.1 hq
    have h1 := raw_small h x
    have h2 := textS_small (rawOf fs x)
    show (textS (rawOf fs x)).size ≤ 32
    omega) p hp
  exact ⟨this.1, by omega, this.2.2⟩
theorem PcsAt.of_own {w : World} {base : Nat} {v : Value} {n : Nat} {l : List Pc} (h : w.ownsRow base 119 10 v n (rowPc l)) (hs : ∀ p ∈ l, p.text.size ≤ 32 ∧ p.fin ≤ 1000000000 ∧ p.text.size ≤ p.fin) : ∃ A c, v = .slice A n c ∧ PcsAt w A n c l := by
  obtain ⟨A, c, e, hr, -⟩ := RowAt.of_own (pcV_all l) (by decide) h
  exact ⟨A, c, e, hr, hs⟩
set_option maxRecDepth 100000 in
set_option maxHeartbeats 8000000 in
theorem read_any (A : Option Addr) (n c : Nat) (l : List Mk) (A2 : Option Addr) (n2 c2 : Nat) (fs : List Nm) (w : World) (h : MarksAt w A n c l) (hn : n ≤ 1000000) (h2 : NmsAt w A2 n2 c2 fs) (h60 : ∀ f ∈ fs, f.s.n ≤ 1000000) :
    Calls Tryz.prog 40 #[.slice A n c, .slice A2 n2 c2] w (ReadSaid fs l w) := by
  have hcap := h.row.cap
  have htop := h.row.top
  have HL := Lib.hid h.len
  have HM := Lib.hid h
  have HN := Lib.hid h2
  have H60 := Lib.hid h60
  have HC := Lib.hid (known_any A2 n2 c2 fs A n c l w h2 h)
  obtain ⟨q, hq⟩ : ∃ q, knownB fs l = q := ⟨_, rfl⟩
  have HQ := Lib.hid hq
  have HE := Lib.hid (show knownE fs l = if q = true then 0 else 1 by rw [← hq]; rfl)
  rw [HE.out] at HC
  clear h h2 hq h60
  cases q
  · simp only [Bool.false_eq_true, if_false] at HC
    go_enter Tryz.func40, Tryz.ntmps40
    go_wp2_with fail
    refine HC.out.mono ?_
    rintro e w1 ⟨rfl, hb⟩
    have HB := Lib.hid hb
    clear hb
    go_wp2_with fail
    go_ret2
    obtain ⟨e1, e2⟩ := read_bad HQ.out
    exact ⟨none, 0, by rw [e1, e2]; rfl, by rw [e2]; exact pcs_nil _, HB.out⟩
  simp only [if_true] at HC
  have HNB := Lib.hid (show nmsB fs = true by have := HQ.out; unfold knownB at this; simp only [Bool.and_eq_true] at this; exact this.1)
  obtain ⟨i0, hi, hz0, hz1, hz2⟩ := info_pc
  go_enter Tryz.func40, Tryz.ntmps40
  go_wp2_with fail
  refine HC.out.mono ?_
  rintro e wa ⟨rfl, hb⟩
  have HA := Lib.hid hb
  clear hb
  go_wp2_with fail
  go_loopw [7, 8, 23] (fun v s8 i wr => ∃ k : Nat, i = .int .i64 (k : Int) ∧ k ≤ n ∧ s8 = .int .i64 (totT (txOf fs (l.take k)) : Nat) ∧ Hid ((l.take k).all (txB fs) = true) ∧ Hid (wr.ownsRow w.heap.size 119 10 v (pcs fs (l.take k)).length (rowPc (pcs fs (l.take k)))) ∧ Hid (Below w.heap.size w wr)) (fun _ _ i _ => n - (intOf i).toNat)
  case atStart => exact ⟨0, rfl, by omega, rfl, Lib.hid (by simp), Lib.hid (World.ownsRow_nil _ _ _ _), HA⟩
  case round =>
    obtain ⟨j, rfl, hj, rfl, HK, HR, HB⟩ := hrel
    obtain ⟨a0, cc, rfl⟩ := own_slM HR.out
    by_cases hlt : j < n
    · have d1 : decide ((j : Int) < (n : Int)) = true := decide_eq_true (by omega)
      obtain ⟨x, hx⟩ : ∃ x, l[j]? = some x := ⟨_, List.getElem?_eq_getElem (by rw [HL.out]; exact hlt)⟩
      obtain ⟨R, o, rfl, hR, hc, hns, -⟩ := (HM.out.below HB.out).get hx
      have HAT := Lib.hid (show ∀ (i : Nat) (u : Value), (mkA x).toList[i]? = some u → wr.cell? ⟨R, o + j * 25 + i, none⟩ = some u from hc)
      have HS := Lib.hid (all_step (txB fs) hx HK.out)
      have HNO := Lib.hid (fun h => all_no (txB fs) hx h)
      have HPS := Lib.hid (pcs_step fs hx)
      have HTS := Lib.hid (totT_step fs hx)
      have hpl : (pcs fs (l.take j)).length ≤ 1000000 := Nat.le_trans (pcs_len _ _) (by rw [List.length_take]; omega)
      have htl : totT (txOf fs (l.take j)) ≤ 32000000 := Nat.le_trans (totT_small HNB.out _) (by rw [List.length_take]; omega)
      obtain ⟨w1, hw1⟩ : ∃ w1, wr.alloc (.cells (mkA x) 55) = w1 := ⟨_, rfl⟩
      have hb0 : Below wr.heap.size wr w1 := by rw [← hw1]; exact (Below.refl _ _).alloc (Nat.le_refl _) _
      have hW1 : Whole w1 wr.heap.size 55 (mkA x) := by rw [← hw1]; exact Whole.made _ _ _
      have HB1 := Lib.hid (HB.out.trans (hb0.mono HB.out.size))
      have HO1 := Lib.hid (own_below3 HR.out hb0)
      have HW1 := Lib.hid hw1
      have k0 : w1.cell? ⟨wr.heap.size, 0, none⟩ = some (.int .i64 x.kind) := hW1.reads 0
      have k13 : w1.cell? ⟨wr.heap.size, 13, none⟩ = some (.string x.name) := hW1.reads 13
      have l1 := hW1.lt
      have HWW := Lib.hid hW1
      by_cases hg : x.kind = 1
      · have d2 : (x.kind != 1) = false := by simp [hg]
        have hgb : glyphB x = true := by unfold glyphB; exact decide_eq_true hg
        obtain ⟨f, hf⟩ := known_font HQ.out (List.mem_of_getElem? hx) hgb
        have HF := Lib.hid (fun w' (hb : Below w.heap.size w w') => nfind_any A2 n2 c2 fs x.name w' (HN.out.below hb))
        rw [hf] at HF
        simp only [fontV, Option.isSome_some] at HF
        have hfm := (fontOf_mem hf).1
        have HG := Lib.hid (fun w' (hb : Below w.heap.size w w') => find_any f.wd f.s.A f.s.n f.s.c f.ot f.gs x.code w' (((HN.out.ok f hfm).later hb).2) (H60.out f hfm))
        have hraw : rawOf fs x = (findG f.ot f.gs x.code).text := by unfold rawOf; rw [hf]
        obtain ⟨g, hge⟩ : ∃ g, findG f.ot f.gs x.code = g := ⟨_, rfl⟩
        rw [hge] at HG hraw
        have hgs : g.text.size ≤ 16 := by have := raw_small HNB.out x; rw [hraw] at this; exact this
        have HT := Lib.hid (fun w => text_any g.text w (by omega))
        have HTX := Lib.hid (show txB fs x = (textU g.text.data.toList).isSome by unfold txB; rw [hgb, hraw]; rfl)
        rw [hgb, if_pos rfl, hraw] at HPS HTS
        clear hx hc hw1 hW1 hb0 hg hgb hf hfm hraw hge
        go_wp2_with (first
          | (refine wpList_load_at rfl _ _ rfl R (o + j * 25) rfl (mkA x) _ HAT.out Tryz.underlying55 rfl (szMk x) ?_)
          | (refine wpList_store_let rfl _ _ _ rfl rfl _ _ (mkA x) HW1.out rfl rfl (szMk x) rfl (mkA_one x) ?_))
        refine (HF.out _ HB1.out).mono ?_
        rintro e w2 ⟨rfl, hb⟩
        have hb2 := HB1.out.trans (hb.mono HB1.out.size)
        have HB2 := Lib.hid (hb2.alloc hb2.size (.cells #[.bool f.wd, .slice f.s.A f.s.n f.s.c, .int .i64 f.ot] 64))
        have hO2 := own_below3 (own_below3 HO1.out hb) ((Below.refl w2.heap.size w2).alloc (Nat.le_refl _) (.cells #[.bool f.wd, .slice f.s.A f.s.n f.s.c, .int .i64 f.ot] 64))
        have hW2 := (HWW.out.here hb).old (.cells #[.bool f.wd, .slice f.s.A f.s.n f.s.c, .int .i64 f.ot] 64)
        have HO2 := Lib.hid (And.intro hO2 hW2)
        have k14 : w2.cell? ⟨wr.heap.size, 14, none⟩ = some (.int .i64 x.code) := (HWW.out.here hb).reads 14
        have l2 := (HWW.out.here hb).lt
        clear hb hb2 hO2 hW2 k0 k13 l1
        go_wp2_with fail
        refine (HG.out _ HB2.out).mono ?_
        rintro e w3 ⟨rfl, hb⟩
        have HB3 := Lib.hid (HB2.out.trans (hb.mono HB2.out.size))
        have HO3 := Lib.hid (And.intro (own_below3 HO2.out.1 hb) (HO2.out.2.here hb))
        clear hb k14 l2
        have hfld : ∀ w : World, (Instr.field 73 (.agg #[.int .i64 g.code, .int .i64 g.width, .string g.text]) 2).run Tryz.prog w = .ok (.string g.text) w := fun _ => rfl
        go_wp2_with fail
        refine (HT.out _).mono ?_
        rintro e w4 ⟨rfl, hb⟩
        have HB4 := Lib.hid (HB3.out.trans (hb.mono HB3.out.size))
        have hO4 := own_below3 HO3.out.1 hb
        have hW4 := HO3.out.2.here hb
        obtain ⟨ts, hts⟩ : ∃ ts, textS g.text = ts := ⟨_, rfl⟩
        have hsz : ts.size ≤ 32 := by have := textS_small g.text; rw [hts] at this; omega
        rw [hts] at HPS HTS ⊢
        have HO4 := Lib.hid hO4
        have HW4 := Lib.hid hW4
        have m0 : w4.cell? ⟨wr.heap.size, 17, none⟩ = some (.int .i64 x.box.x0.m) := hW4.reads 17
        have m1 : w4.cell? ⟨wr.heap.size, 18, none⟩ = some (.int .i64 x.box.x0.s) := hW4.reads 18
        have m2 : w4.cell? ⟨wr.heap.size, 19, none⟩ = some (.int .i64 x.box.y0.m) := hW4.reads 19
        have m3 : w4.cell? ⟨wr.heap.size, 20, none⟩ = some (.int .i64 x.box.y0.s) := hW4.reads 20
        have m4 : w4.cell? ⟨wr.heap.size, 21, none⟩ = some (.int .i64 x.box.x1.m) := hW4.reads 21
        have m5 : w4.cell? ⟨wr.heap.size, 22, none⟩ = some (.int .i64 x.box.x1.s) := hW4.reads 22
        have m6 : w4.cell? ⟨wr.heap.size, 23, none⟩ = some (.int .i64 x.box.y1.m) := hW4.reads 23
        have m7 : w4.cell? ⟨wr.heap.size, 24, none⟩ = some (.int .i64 x.box.y1.s) := hW4.reads 24
        have l4 := hW4.lt
        have hs4 := HB4.out.size
        clear hb hO4 hW4 hts hfld
        cases hu : textU g.text.data.toList with
        | none =>
          rw [(textS_none hu).2]
          rw [hu] at HTX
          have HF4 := Lib.hid (read_form HQ.out (HNO.out (by rw [HTX.out]; rfl)))
          clear hu m0 m1 m2 m3 m4 m5 m6 m7 l4
          go_wp2_with fail
          go_ret2
          exact ⟨none, 0, by rw [HF4.out.1, HF4.out.2]; rfl, by rw [HF4.out.2]; exact pcs_nil _, HB4.out⟩
        | some o' =>
          rw [(textS_some hu).2]
          rw [hu] at HTX
          clear hu
          have ew : IntKind.i64.wrap ((totT (txOf fs (l.take j)) : Int) + (ts.size : Int)) = ((totT (txOf fs (l.take j)) + ts.size : Nat) : Int) := by rw [IntKind.wrap_i64]; omega
          obtain ⟨T, hT⟩ : ∃ T, totT (txOf fs (l.take j)) + ts.size = T := ⟨_, rfl⟩
          rw [hT] at ew HPS HTS
          clear hT
          go_wp2_with (at_builtin; refine wpList_append_own _ rfl _ _ 78 rfl w.heap.size 119 i0 (.agg #[.string ⟨#[]⟩, .int .i64 0, .int .i64 0, .int .i64 0, .int .i64 0, .int .i64 0, .int .i64 0, .int .i64 0, .int .i64 0, .int .i64 0]) 10 88 Tryz.underlying78 hi hz0 hz1 hz2 rfl (by decide) _ _ _ rfl (HO4.out.alloc _) ⟨w4.heap.size, 0, none⟩ 1 1 [.string ts, .int .i64 (T : Int), .int .i64 x.box.x0.m, .int .i64 x.box.x0.s, .int .i64 x.box.y0.m, .int .i64 x.box.y0.s, .int .i64 x.box.x1.m, .int .i64 x.box.x1.s, .int .i64 x.box.y1.m, .int .i64 x.box.y1.s] rfl rfl (World.news_of_block (cs := #[.string ts, .int .i64 (T : Int), .int .i64 x.box.x0.m, .int .i64 x.box.x0.s, .int .i64 x.box.y0.m, .int .i64 x.box.y0.s, .int .i64 x.box.x1.m, .int .i64 x.box.x1.s, .int .i64 x.box.y1.m, .int .i64 x.box.y1.s]) (t := 119) (fr := (0, 0)) (heap_alloc_new _ _)) ?p1 ?p2 ?p3 ?p4 ?_)
          case p1 => simp [Value.oneCell']
          case p2 => unfold maxLen; omega
          case p3 => omega
          case p4 => first | omega | (simp; omega)
          intro v' w5 hown' hgrow _
          have hb5 := (HB4.out.alloc HB4.out.size (.cells #[.string ts, .int .i64 (T : Int), .int .i64 x.box.x0.m, .int .i64 x.box.x0.s, .int .i64 x.box.y0.m, .int .i64 x.box.y0.s, .int .i64 x.box.x1.m, .int .i64 x.box.x1.s, .int .i64 x.box.y1.m, .int .i64 x.box.y1.s] 119)).grown hgrow (by simp; omega) (fun j e => (own_lt HO4.out e).1)
          have hown2 : w5.ownsRow w.heap.size 119 10 v' (pcs fs (l.take j) ++ [Pc.mk ts T x.box]).length (rowPc (pcs fs (l.take j) ++ [Pc.mk ts T x.box])) := by rw [← rowPc_snoc, List.length_append]; exact hown'
          have HOB5 := Lib.hid (And.intro hown2 hb5)
          clear hown' hgrow hown2 hb5 m0 m1 m2 m3 m4 m5 m6 m7 l4
          go_wp2_with fail
          go_roundw
          case rel => exact ⟨j + 1, by go_num, by omega, by rw [HTS.out], Lib.hid (by rw [HS.out, HTX.out]; rfl), Lib.hid (by rw [HPS.out]; exact HOB5.out.1), Lib.hid HOB5.out.2⟩
          case measure => simp [intOf]; omega
      · have d2 : (x.kind != 1) = true := by simp [hg]
        have hgb : glyphB x = false := by unfold glyphB; exact decide_eq_false hg
        have HTX := Lib.hid (show txB fs x = true by unfold txB; rw [hgb]; rfl)
        rw [hgb, if_neg (by decide)] at HPS HTS
        clear hx hc hw1 hW1 hb0 hg hgb
        go_wp2_with (first
          | (refine wpList_load_at rfl _ _ rfl R (o + j * 25) rfl (mkA x) _ HAT.out Tryz.underlying55 rfl (szMk x) ?_)
          | (refine wpList_store_let rfl _ _ _ rfl rfl _ _ (mkA x) HW1.out rfl rfl (szMk x) rfl (mkA_one x) ?_))
        go_roundw
        case rel => exact ⟨j + 1, by go_num, by omega, by rw [HTS.out], Lib.hid (by rw [HS.out, HTX.out]), Lib.hid (by rw [HPS.out]; exact HO1.out), HB1⟩
        case measure => simp [intOf]; omega
    · obtain rfl : j = n := by omega
      have d1 : decide ((j : Int) < (j : Int)) = false := by simp
      rw [List.take_of_length_le (by rw [HL.out]; exact Nat.le_refl _)] at HR HK
      obtain ⟨e1, e2⟩ := read_ok HQ.out HK.out
      obtain ⟨A3, c3, e3, h3⟩ := PcsAt.of_own HR.out (pcs_small HNB.out (by rw [HL.out]; exact hn))
      rw [← e2] at e3 h3
      have HZ := Lib.hid (And.intro e1 (And.intro e3 h3))
      rw [List.take_of_length_le (by rw [HL.out]; exact Nat.le_refl _)]
      clear e1 e2 e3 h3
      go_wp2_with fail
      go_ret2
      refine ⟨A3, c3, ?_, HZ.out.2.2, HB.out⟩
      rw [HZ.out.1, ← HZ.out.2.1]
      first | rfl | (unfold readL; rw [HZ.out.1]; rfl)
end Go.Proofs.YtdlmhienolmncaaGreat
