/- predict's rows while they are undone: what lies in memory. -/
import Derived.Test.YtjligbfijjejmaaPredG
import Derived.Test.YtjligbfijjejmaaChunk
import Derived.Deep.DeepAppendRoom
namespace Go.Proofs.Ytjligbfijjejmaa
open Go.RowKit

/-- A slice cut at k, wherever it ends. -/
theorem Bytes.cut {w : World} {A : Option Addr} {n c k : Nat} {bs : List Nat} (h : Bytes w A n c bs) (hk : k ≤ n) {A' : Option Addr} (hA : ∀ R o, A = some ⟨R, o, none⟩ → k < n → A' = some ⟨R, o + k, none⟩) : Bytes w A' (n - k) (c - k) (bs.drop k) := by
  have hl := h.len
  have hcap := h.cap
  have htop := h.top
  refine ⟨by rw [List.length_drop, hl], by omega, by omega, fun b hb => h.byte b (List.mem_of_mem_drop hb), fun hn => ?_⟩
  obtain ⟨R, o, e, hR, hc⟩ := h.at_ (by omega)
  refine ⟨R, o + k, hA R o e (by omega), hR, fun i b hb => ?_⟩
  rw [List.getElem?_drop] at hb
  rw [show o + k + i = o + (k + i) by omega]
  exact hc _ _ hb
theorem bvs_set (q : List Nat) (k x : Nat) : bvs (q.set k x) = (bvs q).set k (.int .u8 (x : Int)) := by simp [bvs, List.map_set]
theorem own_set {W : World} {base g n cap : Nat} {q : List Nat} (h : W.ownsRow base 5 1 (.slice (some ⟨g, 0, none⟩) n cap) n (bvs q)) (k x : Nat) :
    (W.setCell ⟨g, k, none⟩ (.int .u8 (x : Int))).ownsRow base 5 1 (.slice (some ⟨g, 0, none⟩) n cap) n (bvs (q.set k x)) := by
  obtain ⟨hl, h⟩ := h
  refine ⟨by rw [bvs_set, List.length_set]; exact hl, ?_⟩
  rcases h with ⟨h0, _⟩ | ⟨g', cap', cur, hv, hb, hw, hn, hc, hs, ht⟩
  · cases h0
  · cases hv
    refine .inr ⟨g, cap, cur.setIfInBounds k (.int .u8 (x : Int)), rfl, hb, Whole.set (T := 5) hw k _, hn, hc, by simpa using hs, ?_⟩
    rw [bvs_set, ← ht, Array.toList_setIfInBounds, List.take_set]
theorem own_part {W : World} {base g n cap : Nat} {q : List Nat} (h : W.ownsRow base 5 1 (.slice (some ⟨g, 0, none⟩) n cap) n (bvs q)) (hb : ∀ x ∈ q, x < 256) (j e c : Nat) (he : j + e ≤ n) (hec : e ≤ c) (hc : c ≤ 9223372036854775807) :
    Bytes W (some ⟨g, j, none⟩) e c ((q.drop j).take e) := by
  have hl := h.1
  rw [bvs_length] at hl
  refine ⟨by rw [List.length_take, List.length_drop]; omega, hec, hc, fun x hx => hb x (List.mem_of_mem_drop (List.mem_of_mem_take hx)), fun h0 => ⟨g, j, rfl, (h.lt g rfl).2, fun i b hi => ?_⟩⟩
  have hi2 := (List.getElem?_eq_some_iff.1 hi).1
  rw [List.length_take, List.length_drop] at hi2
  rw [List.getElem?_take, if_pos (by omega), List.getElem?_drop] at hi
  have := h.cells (g := g) rfl (j + i) (.int .u8 (b : Int)) (by simp [bvs, hi])
  have e2 : ∀ k, (⟨g, 0, none⟩ : Addr).add k = ⟨g, k, none⟩ := fun k => by
    unfold Addr.add; by_cases h0 : k = 0 <;> simp [h0]
  rw [e2] at this
  exact this
/-- While rows are undone: q has been laid behind one another in block L + 1, v stands in the upper row's box. -/
structure IV (w W : World) (L N : Nat) (lay zs : Array Value) (v : Value) (q : List Nat) : Prop where
  pos : w.heap.size + 3 ≤ L
  res : Boxed W (w.heap.size + 1) 24 (.slice none 0 0)
  err : Boxed W (w.heap.size + 1 + 1) 26 (.int .i64 0)
  lay : Whole W L 46 lay
  out : Boxed W (L + 2) 24 (.slice (some ⟨L + 1, 0, none⟩) q.length N)
  own : W.ownsRow w.heap.size 5 1 (.slice (some ⟨L + 1, 0, none⟩) q.length N) q.length (bvs q)
  zer : Whole W (L + 3) 5 zs
  up : Boxed W (L + 4) 24 v
  byte : ∀ x ∈ q, x < 256
  below : Below w.heap.size w W
/-- What a piece of a round does to the world. -/
def Did (w : World) (L B0 : Nat) (W W' : World) : Prop := KeepsFrom B0 W W' ∧ Fr (fun k => w.heap.size ≤ k ∧ k ≠ L + 5 ∧ k ≠ L + 6) W W'
theorem Did.trans {w a b c : World} {L B0 : Nat} (h : Did w L B0 a b) (k : Did w L B0 b c) : Did w L B0 a c := ⟨h.1.trans k.1, Fr.trans h.2 k.2 (fun _ _ e => e)⟩
theorem Did.refl (w a : World) (L B0 : Nat) : Did w L B0 a a := ⟨KeepsFrom.refl _ _, Fr.refl _ _⟩
theorem Did.of_below {w a b : World} {L B0 : Nat} (h : Below a.heap.size a b) : Did w L B0 a b :=
  ⟨⟨h.size, fun k o _ hk _ => (h.block k (Array.getElem?_eq_some_iff.1 hk).1).trans hk⟩, (Fr.of_below h).more (fun j hj e => by omega)⟩
theorem Did.set {w a : World} {L B0 : Nat} (p : Addr) (v : Value) (h1 : w.heap.size ≤ p.block) (h2 : p.block ≠ L + 5) (h3 : p.block ≠ L + 6) : Did w L B0 a (a.setCell p v) :=
  ⟨(KeepsOthers.setCell _ _ _).from _, (Fr.refl _ a).set (fun _ => ⟨h1, h2, h3⟩) v⟩
theorem Did.grown {w a b : World} {L B0 g : Nat} {cs : Array Value} {t : TypeId} (h : a.grownBy b (some g)) (hg : Whole a g t cs) (h1 : w.heap.size ≤ g) (h2 : g ≠ L + 5) (h3 : g ≠ L + 6) : Did w L B0 a b := by
  refine ⟨(KeepsOthers.of_grownBy h fun j o ej hj => ?_).from _, (Fr.of_grown h).more (fun j _ e => by injection e with e; subst e; exact ⟨h1, h2, h3⟩)⟩
  injection ej with ej
  subst ej
  rw [show a.heap[g]? = _ from hg] at hj
  injection hj with hj
  subst hj
  rfl
section
variable {w W W' : World} {L N : Nat} {lay zs : Array Value} {v : Value} {q : List Nat}
theorem IV.kept (h : IV w W L N lay zs v q) (k : Kept w.heap.size (fun _ => False) W W') : IV w W' L N lay zs v q :=
  ⟨h.pos, k.boxed h.res (fun e => e), k.boxed h.err (fun e => e), k.whole h.lay (fun e => e), k.boxed h.out (fun e => e), k.own h.own (fun _ _ e => e), k.whole h.zer (fun e => e), k.boxed h.up (fun e => e), h.byte, k.below h.below (Nat.le_refl _)⟩
theorem IV.later (h : IV w W L N lay zs v q) (hb : Below W.heap.size W W') : IV w W' L N lay zs v q := by
  have hf : Fr (fun _ => False) W W' := ⟨hb.os, hb.tape, hb.output, hb.size, fun k hk _ => hb.block k hk⟩
  exact h.kept (Kept.of_fr hf (fun _ _ e => e))
theorem IV.row (h : IV w W L N lay zs v q) : ∃ cs, Whole W (L + 1) 5 cs := (own_lt h.own (g := L + 1) rfl).2.2
/-- A byte is laid. -/
theorem IV.put (h : IV w W L N lay zs v q) (k x : Nat) (hx : x < 256) : IV w (W.setCell ⟨L + 1, k, none⟩ (.int .u8 (x : Int))) L N lay zs v (q.set k x) := by
  have hl : (q.set k x).length = q.length := List.length_set ..
  have hf : Fr (fun j => j = L + 1) W (W.setCell ⟨L + 1, k, none⟩ (.int .u8 (x : Int))) := (Fr.refl _ W).setB k _
  have hp := h.pos
  refine ⟨hp, (hf.block _ h.res.lt (by omega)).trans h.res, (hf.block _ h.err.lt (by omega)).trans h.err, h.lay.frame hf (by omega), ?_, ?_, h.zer.frame hf (by omega), (hf.block _ h.up.lt (by omega)).trans h.up, ?_, h.below.setCell (p := ⟨L + 1, k, none⟩) (by simp; omega) _⟩
  · rw [hl]; exact (hf.block _ h.out.lt (by omega)).trans h.out
  · rw [hl]; exact own_set h.own k x
  · intro y hy
    rcases List.mem_or_eq_of_mem_set hy with hy | rfl
    · exact h.byte y hy
    · exact hx
/-- Another upper row. -/
theorem IV.top (h : IV w W L N lay zs v q) (v' : Value) : IV w (W.setCell ⟨L + 4, 0, none⟩ v') L N lay zs v' q := by
  have hf : Fr (fun j => j = L + 4) W (W.setCell ⟨L + 4, 0, none⟩ v') := (Fr.refl _ W).setB 0 _
  have hp := h.pos
  exact ⟨hp, (hf.block _ h.res.lt (by omega)).trans h.res, (hf.block _ h.err.lt (by omega)).trans h.err, h.lay.frame hf (by omega), (hf.block _ h.out.lt (by omega)).trans h.out, own_frame h.own hf (fun g hg e => by have e1 : some (L + 1) = some g := hg; injection e1; omega), h.zer.frame hf (by omega), h.up.set _, h.byte, h.below.setCell (p := ⟨L + 4, 0, none⟩) (by simp; omega) _⟩
/-- Bytes are laid behind. -/
theorem IV.push {w1 : World} {r : List Nat} {m : Nat} (h : IV w W L N lay zs v q) (hm : m = r.length) (hr : ∀ x ∈ r, x < 256) (hown : w1.ownsRow w.heap.size 5 1 (.slice (some ⟨L + 1, 0, none⟩) (q.length + m) N) (q.length + m) (bvs q ++ bvs r)) (hg : W.grownBy w1 (some (L + 1))) :
    Boxed w1 (L + 2) 24 (.slice (some ⟨L + 1, 0, none⟩) q.length N) ∧ IV w (w1.setCell ⟨L + 2, 0, none⟩ (.slice (some ⟨L + 1, 0, none⟩) (q.length + m) N)) L N lay zs v (q ++ r) := by
  subst hm
  have hl : (q ++ r).length = q.length + r.length := List.length_append
  have hp := h.pos
  have hf0 : Fr (fun j => j = L + 1) W w1 := (Fr.of_grown hg).more (fun j _ e => by injection e)
  have hf : Fr (fun j => j = L + 1 ∨ j = L + 2) W (w1.setCell ⟨L + 2, 0, none⟩ (.slice (some ⟨L + 1, 0, none⟩) (q.length + r.length) N)) := (hf0.more (fun j _ e => .inl e)).set (fun _ => .inr rfl) _
  have ho : Boxed w1 (L + 2) 24 (.slice (some ⟨L + 1, 0, none⟩) q.length N) := (hf0.block _ h.out.lt (by omega)).trans h.out
  refine ⟨ho, hp, (hf.block _ h.res.lt (by omega)).trans h.res, (hf.block _ h.err.lt (by omega)).trans h.err, h.lay.frame hf (by omega), ?_, ?_, h.zer.frame hf (by omega), (hf.block _ h.up.lt (by omega)).trans h.up, ?_, ?_⟩
  · rw [hl]; exact ho.set _
  · rw [hl, bvs_append]
    exact own_frame hown ((Fr.refl (fun j => j = L + 2) w1).setB 0 _) (fun g hg e => by have e1 : some (L + 1) = some g := hg; injection e1; omega)
  · intro x hx
    rcases List.mem_append.1 hx with hx | hx
    · exact h.byte x hx
    · exact hr x hx
  · exact h.below.trans (hf.below h.below.size (fun j hj e => by omega))
theorem IV.part (h : IV w W L N lay zs v q) (j e c : Nat) (he : j + e ≤ q.length) (hec : e ≤ c) (hc : c ≤ 9223372036854775807) : Bytes W (some ⟨L + 1, j, none⟩) e c ((q.drop j).take e) := own_part h.own h.byte j e c he hec hc
end
/-- The upper row of m rows. -/
def UpIs (L N n m k : Nat) (v : Value) : Prop := (m = 0 ∧ v = .slice (some ⟨L + 3, 0, none⟩) n n) ∨ (0 < m ∧ k = m * n ∧ v = .slice (some ⟨L + 1, (m - 1) * n, none⟩) n (N - (m - 1) * n))
theorem getD_replicate (n k : Nat) : (List.replicate n 0).getD k 0 = 0 := by
  rw [List.getD_eq_getElem?_getD, List.getElem?_replicate]
  split <;> rfl
theorem IV.upper {w W : World} {L N n m : Nat} {lay zs : Array Value} {v : Value} {o r : List Nat} (h : IV w W L N lay zs v (o ++ r)) (hzs : (bvs (List.replicate n 0)).toArray = zs) (hu : UpIs L N n m o.length v) (hN : (o ++ r).length ≤ N) (hNm : N ≤ 1000000000) (hn : 1 ≤ n) (hn2 : n ≤ 1000000000) (hlen : o.length = m * n) :
    ∃ A c U, v = .slice A n c ∧ Bytes W A n c U ∧ ∀ k, U.getD k 0 = (upU o n m).getD k 0 := by
  subst hzs
  rcases hu with ⟨rfl, rfl⟩ | ⟨hm, -, rfl⟩
  · refine ⟨_, _, List.replicate n 0, rfl, ⟨by simp, Nat.le_refl _, by omega, fun x hx => by have := List.eq_of_mem_replicate hx; omega, fun _ => ⟨L + 3, 0, rfl, h.zer.lt, fun i b hi => ?_⟩⟩, fun k => ?_⟩
    · rw [h.zer.reads, List.getElem?_toArray, Nat.zero_add]
      unfold bvs
      rw [List.getElem?_map, hi]
      rfl
    · rw [getD_replicate]; rfl
  · obtain ⟨k, rfl⟩ : ∃ k, m = k + 1 := ⟨m - 1, by omega⟩
    have e1 : (k + 1) * n = k * n + n := by rw [Nat.add_mul, Nat.one_mul]
    have e2 : k + 1 - 1 = k := rfl
    rw [e2]
    have hl : (o ++ r).length = o.length + r.length := List.length_append
    have := h.part (k * n) n (N - k * n) (by omega) (by omega) (by omega)
    refine ⟨_, _, _, rfl, this, fun j => ?_⟩
    show _ = (o.drop (k * n)).getD j 0
    rw [List.drop_append_of_le_length (by omega), List.take_append_of_le_length (by rw [List.length_drop]; omega), List.take_of_length_le (by rw [List.length_drop]; omega)]
end Go.Proofs.Ytjligbfijjejmaa
