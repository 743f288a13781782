/- cut: the pieces of a text: pure, and in memory. -/
import Derived.Test.YtdlmhienolmncaaCutJ
import Derived.Test.YtdlmhienolmncaaFontDi
namespace Go.Proofs.Ytdlmhienolmncaa
open Go.RowKit Dec

def totT (l : List (ByteArray × BV)) : Nat := (l.map (·.1.size)).sum
theorem totT_snoc (l : List (ByteArray × BV)) (p : ByteArray × BV) : totT (l ++ [p]) = totT l + p.1.size := by unfold totT; simp
theorem pcsFrom_snoc : ∀ (e : Nat) (l : List (ByteArray × BV)) (p : ByteArray × BV), pcsFrom e (l ++ [p]) = pcsFrom e l ++ [⟨p.1, e + totT l + p.1.size, p.2⟩]
  | e, [], (t, b) => by simp [pcsFrom, totT]
  | e, (t, b) :: l, p => by
    rw [List.cons_append, pcsFrom, pcsFrom, pcsFrom_snoc (e + t.size) l p]
    simp only [List.cons_append, List.cons.injEq, true_and]
    congr 2
    unfold totT
    simp only [List.map_cons, List.sum_cons, Pc.mk.injEq, true_and, and_true]
    omega
theorem txOf_step (fs : List Nm) {l : List Mk} {k : Nat} {x : Mk} (h : l[k]? = some x) : txOf fs (l.take (k + 1)) = if glyphB x = true then txOf fs (l.take k) ++ [(textS (rawOf fs x), x.box)] else txOf fs (l.take k) := by
  unfold txOf
  rw [filt_step glyphB h]
  split <;> simp
theorem pcs_step (fs : List Nm) {l : List Mk} {k : Nat} {x : Mk} (h : l[k]? = some x) : pcs fs (l.take (k + 1)) = if glyphB x = true then pcs fs (l.take k) ++ [⟨textS (rawOf fs x), totT (txOf fs (l.take k)) + (textS (rawOf fs x)).size, x.box⟩] else pcs fs (l.take k) := by
  unfold pcs
  rw [txOf_step fs h]
  split
  · rw [pcsFrom_snoc, Nat.zero_add]
  · rfl
theorem totT_step (fs : List Nm) {l : List Mk} {k : Nat} {x : Mk} (h : l[k]? = some x) : totT (txOf fs (l.take (k + 1))) = if glyphB x = true then totT (txOf fs (l.take k)) + (textS (rawOf fs x)).size else totT (txOf fs (l.take k)) := by
  rw [txOf_step fs h]
  split
  · rw [totT_snoc]
  · rfl
theorem pcsFrom_len : ∀ (e : Nat) (l : List (ByteArray × BV)), (pcsFrom e l).length = l.length
  | _, [] => rfl
  | e, (t, b) :: l => by rw [pcsFrom, List.length_cons, List.length_cons, pcsFrom_len]
theorem pcs_len (fs : List Nm) (l : List Mk) : (pcs fs l).length ≤ l.length := by
  unfold pcs txOf
  rw [pcsFrom_len, List.length_map]
  exact List.length_filter_le _ _
theorem nms_mem {fs : List Nm} (h : nmsB fs = true) {f : Nm} (hf : f ∈ fs) : nmB f = true := by
  unfold nmsB at h
  simp only [Bool.and_eq_true, List.all_eq_true] at h
  obtain ⟨i, hi, rfl⟩ := List.mem_iff_getElem.1 hf
  have := h.2 i (List.mem_range.2 hi)
  rw [nmsAt_is (List.getElem?_eq_getElem hi)] at this
  simp only [Bool.and_eq_true] at this
  exact this.2
theorem fontOf_mem {fs : List Nm} {name : ByteArray} {f : Nm} (h : fontOf fs name = some f) : f ∈ fs ∧ f.name = name := by
  unfold fontOf at h
  exact ⟨List.mem_of_find?_eq_some h, by simpa using List.find?_some h⟩
theorem chk_text {wd : Bool} {ot : Int} {gs : List Gl} (h : chkB wd ot gs = true) {g : Gl} (hg : g ∈ gs) : g.text.size ≤ 16 := by
  unfold chkB at h
  simp only [Bool.and_eq_true, List.all_eq_true] at h
  obtain ⟨i, hi, rfl⟩ := List.mem_iff_getElem.1 hg
  have := h.2.2 i (List.mem_range.2 hi)
  unfold okAt at this
  rw [List.getElem?_eq_getElem hi] at this
  simp only [Bool.and_eq_true, Bool.or_eq_true, beq_iff_eq] at this
  rcases this.2.2.1 with h | h
  · omega
  · unfold textB at h
    rw [decide_eq_true_iff] at h
    omega
theorem findG_small {wd : Bool} {ot : Int} {gs : List Gl} (h : chkB wd ot gs = true) (x : Int) : (findG ot gs x).text.size ≤ 16 := by
  unfold findG
  cases hh : hitG gs x with
  | none => show (ByteArray.size ⟨#[]⟩) ≤ _; exact Nat.zero_le _
  | some g => exact chk_text h (List.mem_of_find?_eq_some hh)
theorem raw_small {fs : List Nm} (h : nmsB fs = true) (x : Mk) : (rawOf fs x).size ≤ 16 := by
  unfold rawOf
  split
  · rename_i f hf
    exact findG_small (nms_mem h (fontOf_mem hf).1) _
  · show (ByteArray.size ⟨#[]⟩) ≤ _; exact Nat.zero_le _
theorem textS_small (s : ByteArray) : (textS s).size ≤ 2 * s.size := by
  unfold textS
  split
  · rename_i o ho
    rw [strB_size, ← size_list]
    exact (textU_most _ _ o (Nat.le_refl _) ho).1
  · show (ByteArray.size ⟨#[]⟩) ≤ _; exact Nat.zero_le _
theorem totT_small {fs : List Nm} (h : nmsB fs = true) : ∀ (l : List Mk), totT (txOf fs l) ≤ 32 * l.length
  | [] => Nat.zero_le _
  | x :: l => by
    have ih := totT_small h l
    have h1 := raw_small h x
    have h2 := textS_small (rawOf fs x)
    rw [List.length_cons]
    unfold txOf totT at ih ⊢
    rw [List.filter_cons]
    split
    · simp only [List.map_cons, List.sum_cons]
      omega
    · omega
/-- A piece's ten cells. -/
def pcV (p : Pc) : List Value := [.string p.text, .int .i64 (p.fin : Int), .int .i64 p.box.x0.m, .int .i64 p.box.x0.s, .int .i64 p.box.y0.m, .int .i64 p.box.y0.s, .int .i64 p.box.x1.m, .int .i64 p.box.x1.s, .int .i64 p.box.y1.m, .int .i64 p.box.y1.s]
theorem pcV_len (p : Pc) : (pcV p).length = 10 := rfl
structure PcsAt (w : World) (A : Option Addr) (n c : Nat) (l : List Pc) : Prop where
  row : RowAt w A n c 10 (l.map pcV)
  small : ∀ p ∈ l, p.text.size ≤ 32 ∧ p.fin ≤ 1000000000 ∧ p.text.size ≤ p.fin
theorem PcsAt.below {w w' : World} {A : Option Addr} {n c : Nat} {l : List Pc} (h : PcsAt w A n c l) (hg : Below w.heap.size w w') : PcsAt w' A n c l := ⟨h.row.below hg, h.small⟩
theorem PcsAt.len {w : World} {A : Option Addr} {n c : Nat} {l : List Pc} (h : PcsAt w A n c l) : l.length = n := by have := h.row.len; rwa [List.length_map] at this
theorem PcsAt.get {w : World} {A : Option Addr} {n c : Nat} {l : List Pc} (h : PcsAt w A n c l) {i : Nat} {p : Pc} (hx : l[i]? = some p) : ∃ R o, A = some ⟨R, o, none⟩ ∧ R < w.heap.size ∧
    (w.cell? ⟨R, o + i * 10, none⟩ = some (.string p.text) ∧ w.cell? ⟨R, o + i * 10 + 1, none⟩ = some (.int .i64 (p.fin : Int)) ∧ w.cell? ⟨R, o + i * 10 + 2, none⟩ = some (.int .i64 p.box.x0.m) ∧ w.cell? ⟨R, o + i * 10 + 3, none⟩ = some (.int .i64 p.box.x0.s) ∧ w.cell? ⟨R, o + i * 10 + 4, none⟩ = some (.int .i64 p.box.y0.m) ∧ w.cell? ⟨R, o + i * 10 + 5, none⟩ = some (.int .i64 p.box.y0.s) ∧ w.cell? ⟨R, o + i * 10 + 6, none⟩ = some (.int .i64 p.box.x1.m) ∧ w.cell? ⟨R, o + i * 10 + 7, none⟩ = some (.int .i64 p.box.x1.s) ∧ w.cell? ⟨R, o + i * 10 + 8, none⟩ = some (.int .i64 p.box.y1.m) ∧ w.cell? ⟨R, o + i * 10 + 9, none⟩ = some (.int .i64 p.box.y1.s)) ∧ p.text.size ≤ 32 ∧ p.fin ≤ 1000000000 ∧ p.text.size ≤ p.fin := by
  have hi := (List.getElem?_eq_some_iff.1 hx).1
  have hl := h.len
  obtain ⟨R, o, e, hR, hk⟩ := RowAt.at_ h.row (by omega)
  have hk2 := fun j u hu => hk i (pcV p) (by rw [List.getElem?_map, hx]; rfl) j u hu
  exact ⟨R, o, e, hR, ⟨hk2 0 _ rfl, hk2 1 _ rfl, hk2 2 _ rfl, hk2 3 _ rfl, hk2 4 _ rfl, hk2 5 _ rfl, hk2 6 _ rfl, hk2 7 _ rfl, hk2 8 _ rfl, hk2 9 _ rfl⟩, h.small p (List.mem_of_getElem? hx)⟩
def rowPc (l : List Pc) : List Value := (l.map pcV).flatten
theorem rowPc_snoc (l : List Pc) (p : Pc) : rowPc l ++ [.string p.text, .int .i64 (p.fin : Int), .int .i64 p.box.x0.m, .int .i64 p.box.x0.s, .int .i64 p.box.y0.m, .int .i64 p.box.y0.s, .int .i64 p.box.x1.m, .int .i64 p.box.x1.s, .int .i64 p.box.y1.m, .int .i64 p.box.y1.s] = rowPc (l ++ [p]) := by unfold rowPc; rw [List.map_append]; exact flat_snoc _ _
theorem pcV_all (l : List Pc) : ∀ cs ∈ l.map pcV, cs.length = 10 := fun cs h => by
  obtain ⟨x, -, rfl⟩ := List.mem_map.1 h
  rfl
theorem infoPc : (Try.prog.info? 111).map (fun i => (i.zero, i.size, i.bytes)) = some (some (.agg #[.string ⟨#[]⟩, .int .i64 0, .int .i64 0, .int .i64 0, .int .i64 0, .int .i64 0, .int .i64 0, .int .i64 0, .int .i64 0, .int .i64 0]), 10, 88) := by kernel_rfl
theorem info_pc : ∃ i, Try.prog.info? 111 = some i ∧ i.zero = some (.agg #[.string ⟨#[]⟩, .int .i64 0, .int .i64 0, .int .i64 0, .int .i64 0, .int .i64 0, .int .i64 0, .int .i64 0, .int .i64 0, .int .i64 0]) ∧ i.size = 10 ∧ i.bytes = 88 := by
  have h := infoPc
  cases hi : Try.prog.info? 111 with
  | none => rw [hi] at h; cases h
  | some i =>
    rw [hi] at h
    injection h with h
    injection h with h1 h2
    injection h2 with h2 h3
    exact ⟨i, rfl, h1, h2, h3⟩
end Go.Proofs.Ytdlmhienolmncaa
