/- cut: Text; where a text stands: what Find walks (pure). -/
import Derived.Test.YtdlmhienolmncaaCutQ
namespace Go.Proofs.Ytdlmhienolmncaa
open Go.RowKit Dec

theorem index_room {s t : List UInt8} (ht : t ≠ []) : ∀ (i : Nat), Lib.index s t = (i : Int) → i + t.length ≤ s.length := by
  induction s with
  | nil =>
    intro i h
    unfold Lib.index at h
    cases t with
    | nil => exact absurd rfl ht
    | cons a t => simp at h <;> omega
  | cons b s ih =>
    intro i h
    unfold Lib.index at h
    split at h
    · rename_i hp
      have := (List.isPrefixOf_iff_prefix.1 hp).length_le
      omega
    · split at h
      · omega
      · rename_i h1
        have hne : Lib.index s t ≠ -1 := by simpa using h1
        have hg := Lib.index_ge s t
        have := ih (i - 1) (by omega)
        simp only [List.length_cons]
        omega
theorem pcsFrom_has : ∀ (l : List (ByteArray × BV)) (e k : Nat), k < e + totT l → k < e ∨ ∃ p ∈ pcsFrom e l, k < p.fin
  | [], e, k, h => .inl (by unfold totT at h; simpa using h)
  | (t, b) :: l, e, k, h => by
    have hs : totT ((t, b) :: l) = t.size + totT l := by unfold totT; simp
    rcases pcsFrom_has l (e + t.size) k (by omega) with h1 | ⟨p, hp, h2⟩
    · exact .inr ⟨_, by rw [pcsFrom]; exact List.mem_cons_self .., h1⟩
    · exact .inr ⟨p, by rw [pcsFrom]; exact List.mem_cons_of_mem _ hp, h2⟩
theorem allT_from : ∀ (l : List (ByteArray × BV)) (e : Nat), (allT (pcsFrom e l)).length = totT l
  | [], e => rfl
  | (t, b) :: l, e => by
    have ih := allT_from l (e + t.size)
    unfold allT at ih ⊢
    rw [pcsFrom, List.map_cons, List.flatten_cons, List.length_append, ih]
    have e2 : t.data.toList.length = t.size := Array.length_toList
    show t.data.toList.length + _ = _
    rw [e2]
    unfold totT
    simp
theorem pcs_has {fs : List Nm} {l : List Mk} {k : Nat} (h : k < (allT (pcs fs l)).length) : ∃ p ∈ pcs fs l, k < p.fin := by
  unfold pcs at h ⊢
  rw [allT_from] at h
  rcases pcsFrom_has (txOf fs l) 0 k (by omega) with h1 | h1
  · omega
  · exact h1
theorem behind_pos {p : Pc} {ps : List Pc} {k : Nat} (h : p.fin ≤ k) : behindP (p :: ps) k = behindP ps k := by
  unfold behindP
  rw [List.dropWhile_cons_of_pos (by simpa using h)]
theorem behind_neg {p : Pc} {ps : List Pc} {k : Nat} (h : k < p.fin) : behindP (p :: ps) k = p :: ps := by
  unfold behindP
  rw [List.dropWhile_cons_of_neg (by simp; omega)]
theorem dropWhile_more (ps : List Pc) {a b : Nat} (h : a ≤ b) : behindP ps b = behindP (behindP ps a) b := by
  induction ps with
  | nil => rfl
  | cons p ps ih =>
    by_cases hp : p.fin ≤ a
    · rw [behind_pos hp, behind_pos (by omega), ih]
    · rw [behind_neg (k := a) (by omega)]
theorem behind_has : ∀ (ps : List Pc) (k : Nat), behindP ps k ≠ [] ↔ ∃ p ∈ ps, k < p.fin
  | [], k => by simp [behindP]
  | p :: ps, k => by
    by_cases hp : p.fin ≤ k
    · rw [behind_pos hp, behind_has ps k]
      constructor
      · rintro ⟨q, hq, h⟩; exact ⟨q, List.mem_cons_of_mem _ hq, h⟩
      · rintro ⟨q, hq, h⟩
        rcases List.mem_cons.1 hq with rfl | hq
        · omega
        · exact ⟨q, hq, h⟩
    · rw [behind_neg (by omega)]
      exact ⟨fun _ => ⟨p, List.mem_cons_self .., by omega⟩, fun _ => by simp⟩
theorem behind_some {ps qs : List Pc} {k : Nat} (he : behindP ps k = behindP qs k) (h : ∃ p ∈ ps, k < p.fin) : ∃ p ∈ qs, k < p.fin := by
  rw [← behind_has] at h ⊢
  rwa [← he]
theorem findP_none {ps : List Pc} {t : List UInt8} {f a : Nat} (h : Lib.index ((allT ps).drop a) t < 0) : findP ps t (f + 1) a = some [] := by rw [findP, if_pos h]
theorem findP_bad {ps : List Pc} {t : List UInt8} {f a i : Nat} (h : Lib.index ((allT ps).drop a) t = (i : Int)) (hb : aroundP (behindP ps (a + i)) (a + i + t.length) = none) : findP ps t (f + 1) a = none := by
  rw [findP, if_neg (by omega), h, Int.toNat_natCast, hb]
theorem findP_step {ps : List Pc} {t : List UInt8} {f a i : Nat} {b : BV} (h : Lib.index ((allT ps).drop a) t = (i : Int)) (hb : aroundP (behindP ps (a + i)) (a + i + t.length) = some b) : findP ps t (f + 1) a = (findP ps t f (a + i + t.length)).map (b :: ·) := by
  rw [findP, if_neg (by omega), h, Int.toNat_natCast, hb]
def MX (w : World) : Prop := 0 < w.heap.size ∧ ∃ m, w.cell? ⟨0, 0, none⟩ = some (.int .i64 m)
theorem MX.below {w w' : World} {B : Nat} (h : MX w) (hb : Below B w w') (hB : 0 < B) : MX w' := by
  obtain ⟨h0, m, hm⟩ := h
  exact ⟨Nat.lt_of_lt_of_le h0 hb.size, m, (hb.cell (p := ⟨0, 0, none⟩) hB).trans hm⟩
theorem MX.later {w w' : World} (h : MX w) (hb : Below w.heap.size w w') : MX w' := h.below hb h.1
set_option maxRecDepth 100000 in
set_option maxHeartbeats 4000000 in
theorem textC_any (A : Option Addr) (n c : Nat) (l : List Mk) (A2 : Option Addr) (n2 c2 : Nat) (fs : List Nm) (w : World) (h : MarksAt w A n c l) (hn : n ≤ 1000000) (h2 : NmsAt w A2 n2 c2 fs) (h60 : ∀ f ∈ fs, f.s.n ≤ 1000000) :
    Calls Try.prog 13 #[.slice A n c, .slice A2 n2 c2] w fun e w' => e = .returned (.tuple #[.string ⟨(textR fs l).toArray⟩, .int .i64 (readE fs l)]) ∧ Below w.heap.size w w' := by
  have HR := Lib.hid (read_any A n c l A2 n2 c2 fs w h hn h2 h60)
  have HLL := Lib.hid (show (readL fs l).length ≤ 1000000 by
    unfold readL
    split
    · exact Nat.le_trans (pcs_len _ _) (by rw [h.len]; exact hn)
    · simp)
  obtain ⟨q, hq⟩ : ∃ q, readE fs l = q := ⟨_, rfl⟩
  have HT := Lib.hid (show textR fs l = if q = 0 then allT (readL fs l) else [] by unfold textR readL; rw [hq]; split <;> rfl)
  have hq3 : q = 0 ∨ q = 1 ∨ q = 4 := by
    rw [← hq]
    unfold readE
    split
    · split
      · exact .inl rfl
      · exact .inr (.inr rfl)
    · exact .inr (.inl rfl)
  unfold ReadSaid at HR
  rw [hq] at HR ⊢
  clear h h2 h60 hq
  by_cases h0 : q = 0
  · subst h0
    rw [if_pos rfl] at HT
    clear hq3
    go_enter Try.func13, Try.ntmps13
    go_wp2_with fail
    refine HR.out.mono ?_
    rintro e w1 ⟨A', c', rfl, hp, hb⟩
    have HB := Lib.hid hb
    have HJ := Lib.hid (join_any A' _ c' _ w1 hp HLL.out)
    clear hp hb
    go_wp2_with fail
    refine HJ.out.mono ?_
    rintro e w2 ⟨rfl, hb⟩
    have HB2 := Lib.hid (HB.out.trans (hb.mono HB.out.size))
    clear hb
    go_wp2_with fail
    go_ret2
    exact ⟨by rw [HT.out]; rfl, HB2.out⟩
  · rw [if_neg h0] at HT
    have d0 : (q != 0) = true := by simp [h0]
    rcases hq3 with h | rfl | rfl
    · exact absurd h h0
    all_goals
      clear h0 d0
      go_enter Try.func13, Try.ntmps13
      go_wp2_with fail
      refine HR.out.mono ?_
      rintro e w1 ⟨A', c', rfl, hp, hb⟩
      have HB := Lib.hid hb
      clear hp hb
      go_wp2_with fail
      go_ret2
      exact ⟨by rw [HT.out]; rfl, HB.out⟩
end Go.Proofs.Ytdlmhienolmncaa
/- The program's own variable that a search looks at (the cut seat): every world that is shaped has it. -/
namespace Go.Proofs.Ytdlmhienolmncaa
open Go.RowKit

theorem mx_of {W : World} (h : W.ShapedOpen Try.prog) : MX W := by
  obtain ⟨m, hm⟩ := Try.laysM143.s1_3 W h
  exact ⟨World.block_lt_of_cell? _ _ hm, m, hm⟩
end Go.Proofs.Ytdlmhienolmncaa
