/- predict's rows while they are done: what lies in memory. -/
import Derived.Test.YtjligbfijjejmaaPredUa
import Derived.Test.YtjligbfijjejmaaPredMath2
namespace Go.Proofs.Ytjligbfijjejmaa
open Go.RowKit

theorem own_slice {w : World} {base : Nat} {e : TypeId} {size : Nat} {v : Value} {n : Nat} {xs : List Value} (h : w.ownsRow base e size v n xs) : ∃ a c, v = .slice a n c := by
  rcases h.2 with ⟨rfl, rfl⟩ | ⟨g, cap, cur, rfl, _⟩
  · exact ⟨_, _, rfl⟩
  · exact ⟨_, _, rfl⟩
theorem wpListIn_here {F : Fence} {n : Nat} {P : Program} {ops : Array Oper} {rest : List Oper} {o : Oper} {a : Act} {Q : Exit → Act → World → Prop} {w : World} (h : wpListIn F n P ops Q (o :: rest) a w) : wpListIn F n P ops Q (o :: rest) a w := h
theorem Bytes.back {w W : World} {A : Option Addr} {n c : Nat} {bs : List Nat} (h : Bytes W A n c bs) (hb : Below w.heap.size w W) (hA : 0 < n → ∀ R o, A = some ⟨R, o, none⟩ → R < w.heap.size) : Bytes w A n c bs :=
  ⟨h.len, h.cap, h.top, h.byte, fun h0 => by
    obtain ⟨R, o, e, _, hc⟩ := h.at_ h0
    exact ⟨R, o, e, hA h0 R o e, fun i b hi => (hb.cell (p := ⟨R, o + i, none⟩) (hA h0 R o e)).symm.trans (hc i b hi)⟩⟩
theorem row_not {W : World} {base n g : Nat} {v : Value} {xs : List Value} {t : TypeId} {cs : Array Value} (h : W.ownsRow base 5 1 v n xs) (hb : Whole W g t cs) (ht : 5 ≠ t) : v.ownBlock ≠ some g := fun e => by
  obtain ⟨_, _, cs', hw⟩ := own_lt h e
  exact hw.apart hb ht rfl
/-- While rows are done: q has been laid in a row of one's own (ov), v stands in the upper row's box. -/
structure JV (w W : World) (L T : Nat) (lay zs : Array Value) (v ov : Value) (q : List Nat) : Prop where
  pos : w.heap.size + 2 ≤ L
  tag : Boxed W (w.heap.size + 1) 3 (.int .i64 (T : Int))
  lay : Whole W L 46 lay
  out : Boxed W (L + 1) 24 ov
  own : W.ownsRow (L + 3) 5 1 ov q.length (bvs q)
  zer : Whole W (L + 2) 5 zs
  up : Boxed W (L + 3) 24 v
  byte : ∀ x ∈ q, x < 256
  below : Below w.heap.size w W
def DidJ (w : World) (L B0 : Nat) (W W' : World) : Prop := KeepsFrom B0 W W' ∧ Fr (fun k => w.heap.size ≤ k ∧ k ≠ L + 4 ∧ k ≠ L + 5) W W'
theorem DidJ.trans {w a b c : World} {L B0 : Nat} (h : DidJ w L B0 a b) (k : DidJ w L B0 b c) : DidJ w L B0 a c := ⟨h.1.trans k.1, Fr.trans h.2 k.2 (fun _ _ e => e)⟩
theorem DidJ.refl (w a : World) (L B0 : Nat) : DidJ w L B0 a a := ⟨KeepsFrom.refl _ _, Fr.refl _ _⟩
theorem DidJ.of_below {w a b : World} {L B0 : Nat} (h : Below a.heap.size a b) : DidJ w L B0 a b :=
  ⟨⟨h.size, fun k o _ hk _ => (h.block k (Array.getElem?_eq_some_iff.1 hk).1).trans hk⟩, (Fr.of_below h).more (fun j hj e => by omega)⟩
theorem DidJ.set {w a : World} {L B0 : Nat} (p : Addr) (v : Value) (h1 : w.heap.size ≤ p.block) (h2 : p.block ≠ L + 4) (h3 : p.block ≠ L + 5) : DidJ w L B0 a (a.setCell p v) :=
  ⟨(KeepsOthers.setCell _ _ _).from _, (Fr.refl _ a).set (fun _ => ⟨h1, h2, h3⟩) v⟩
section
variable {w W W' : World} {L T : Nat} {lay zs : Array Value} {v ov : Value} {q : List Nat}
theorem JV.kept (h : JV w W L T lay zs v ov q) (k : Kept w.heap.size (fun _ => False) W W') : JV w W' L T lay zs v ov q :=
  ⟨h.pos, k.boxed h.tag (fun e => e), k.whole h.lay (fun e => e), k.boxed h.out (fun e => e), k.own h.own (fun _ _ e => e), k.whole h.zer (fun e => e), k.boxed h.up (fun e => e), h.byte, k.below h.below (Nat.le_refl _)⟩
theorem JV.later (h : JV w W L T lay zs v ov q) (hb : Below W.heap.size W W') : JV w W' L T lay zs v ov q := by
  have hf : Fr (fun _ => False) W W' := ⟨hb.os, hb.tape, hb.output, hb.size, fun k hk _ => hb.block k hk⟩
  exact h.kept (Kept.of_fr hf (fun _ _ e => e))
/-- Another upper row. -/
theorem JV.top (h : JV w W L T lay zs v ov q) (v' : Value) : JV w (W.setCell ⟨L + 3, 0, none⟩ v') L T lay zs v' ov q := by
  have hf : Fr (fun j => j = L + 3) W (W.setCell ⟨L + 3, 0, none⟩ v') := (Fr.refl _ W).setB 0 _
  have hp := h.pos
  exact ⟨hp, (hf.block _ h.tag.lt (by omega)).trans h.tag, h.lay.frame hf (by omega), (hf.block _ h.out.lt (by omega)).trans h.out, own_frame h.own hf (fun g hg e => row_not h.own (show Whole W (L + 3) 24 #[v] from h.up) (by decide) (e ▸ hg)), h.zer.frame hf (by omega), h.up.set _, h.byte, h.below.setCell (p := ⟨L + 3, 0, none⟩) (by simp; omega) _⟩
/-- Bytes are laid behind: the world W has gone on to Wm, in which an append has been done. -/
theorem JV.push {Wm w1 : World} {r : List Nat} {m : Nat} {ov' : Value} {B0 : Nat} (h : JV w W L T lay zs v ov q) (hWm : Below W.heap.size W Wm) (hm : m = r.length) (hr : ∀ x ∈ r, x < 256) (hown : w1.ownsRow (L + 3) 5 1 ov' (q.length + m) (bvs q ++ bvs r)) (hg : Wm.grownBy w1 ov.ownBlock) (hB1 : ∃ x, Boxed W (L + 4) 24 x) (hB2 : ∃ x, Boxed W (L + 5) 3 x) :
    Boxed w1 (L + 1) 24 ov ∧ JV w (w1.setCell ⟨L + 1, 0, none⟩ ov') L T lay zs v ov' (q ++ r) ∧ DidJ w L B0 W (w1.setCell ⟨L + 1, 0, none⟩ ov') ∧ Boxed w1 (w.heap.size + 1) 3 (.int .i64 (T : Int)) ∧ Whole w1 L 46 lay ∧ Boxed w1 (L + 3) 24 v := by
  subst hm
  have hl : (q ++ r).length = q.length + r.length := List.length_append
  have hp := h.pos
  have hj := h.later hWm
  have hn : ∀ {t : TypeId} {g : Nat} {cs : Array Value}, Whole Wm g t cs → 5 ≠ t → some g ≠ ov.ownBlock := fun hw ht e => row_not hj.own hw ht e.symm
  have ho : Boxed w1 (L + 1) 24 ov := hj.out.kept hg (hn (show Whole Wm (L + 1) 24 #[ov] from hj.out) (by decide))
  have hf : Fr (fun j => j = L + 1) w1 (w1.setCell ⟨L + 1, 0, none⟩ ov') := (Fr.refl _ w1).setB 0 _
  have ht := hj.tag.kept hg (hn (show Whole Wm (w.heap.size + 1) 3 #[.int .i64 (T : Int)] from hj.tag) (by decide))
  have hla := hj.lay.kept hg (hn hj.lay (by decide))
  have hu := hj.up.kept hg (hn (show Whole Wm (L + 3) 24 #[v] from hj.up) (by decide))
  have hz : Whole w1 (L + 2) 5 zs := hj.zer.kept hg (fun e => by have := (own_lt hj.own e.symm).1; omega)
  have hrow : ∀ j, ov.ownBlock = some j → L + 3 ≤ j ∧ j ≠ L + 4 ∧ j ≠ L + 5 := fun j hj' => ⟨(own_lt hj.own hj').1, fun e => by
    obtain ⟨x, hx⟩ := hB1
    exact row_not hj.own (show Whole Wm (L + 4) 24 #[x] from (hWm.block _ hx.lt).trans hx) (by decide) (e ▸ hj'), fun e => by
    obtain ⟨x, hx⟩ := hB2
    exact row_not hj.own (show Whole Wm (L + 5) 3 #[x] from (hWm.block _ hx.lt).trans hx) (by decide) (e ▸ hj')⟩
  refine ⟨ho, ⟨hp, (hf.block _ ht.lt (by omega)).trans ht, hla.frame hf (by omega), ho.set _, ?_, hz.frame hf (by omega), (hf.block _ hu.lt (by omega)).trans hu, ?_, ?_⟩, ?_, ht, hla, hu⟩
  · rw [hl, bvs_append]
    exact own_frame hown hf (fun g hg e => row_not hown (show Whole w1 (L + 1) 24 #[ov] from ho) (by decide) (e ▸ hg))
  · intro x hx
    rcases List.mem_append.1 hx with hx | hx
    · exact h.byte x hx
    · exact hr x hx
  · exact ((hj.below).grown hg hj.below.size (fun j hj' => by have := (hrow j hj').1; omega)).setCell (p := ⟨L + 1, 0, none⟩) (by simp; omega) _
  · refine ((DidJ.of_below hWm).trans ⟨?_, ?_⟩).trans (DidJ.set _ _ (by simp; omega) (by simp) (by simp))
    · refine (KeepsOthers.of_grownBy hg fun j o ej hj' => ?_).from _
      obtain ⟨_, _, cs, hw⟩ := own_lt hj.own ej
      have e := hj'.symm.trans (show Wm.heap[j]? = some (.cells cs 5 (0, 0)) from hw)
      injection e with e
      subst e
      rfl
    · exact (Fr.of_grown hg).more (fun j _ e => by obtain ⟨a, b, c⟩ := hrow j e.symm; exact ⟨by omega, b, c⟩)
end
/-- The upper row of m rows. -/
def UpD (w : World) (L n m : Nat) (bs : List Nat) (v : Value) : Prop := (m = 0 ∧ v = .slice (some ⟨L + 2, 0, none⟩) n n) ∨ (∃ k A c, m = k + 1 ∧ v = .slice A n c ∧ Bytes w A n c (rowM bs n k))
theorem JV.upper {w W : World} {L T n m : Nat} {lay zs : Array Value} {v ov : Value} {bs q : List Nat} (h : JV w W L T lay zs v ov q) (hzs : (bvs (List.replicate n 0)).toArray = zs) (hu : UpD w L n m bs v) (hn2 : n ≤ 1000000000) :
    ∃ A c U, v = .slice A n c ∧ Bytes W A n c U ∧ ∀ k, U.getD k 0 = (upD bs n m).getD k 0 := by
  subst hzs
  rcases hu with ⟨rfl, rfl⟩ | ⟨k, A, c, rfl, rfl, hb⟩
  · refine ⟨_, _, List.replicate n 0, rfl, ⟨by simp, Nat.le_refl _, by omega, fun x hx => by have := List.eq_of_mem_replicate hx; omega, fun _ => ⟨L + 2, 0, rfl, h.zer.lt, fun i b hi => ?_⟩⟩, fun k => ?_⟩
    · rw [h.zer.reads, List.getElem?_toArray, Nat.zero_add]
      unfold bvs
      rw [List.getElem?_map, hi]
      rfl
    · rw [getD_replicate]; rfl
  · exact ⟨A, c, _, rfl, hb.below h.below, fun _ => rfl⟩
end Go.Proofs.Ytjligbfijjejmaa
