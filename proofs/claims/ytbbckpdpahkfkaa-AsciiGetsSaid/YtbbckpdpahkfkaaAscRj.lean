/- ascii's reference: Get: two rows of one's own side by side. -/
import Derived.Test.YtbbckpdpahkfkaaAscRi
namespace Go.Proofs.Ytbbckpdpahkfkaa
open Go.RowKit

/-- A row of one's own stays when one of another element type grows. -/
theorem own_other {W W' : World} {B n1 n2 : Nat} {t1 t2 : TypeId} {v1 v2 : Value} {xs ys : List Value} (h1 : W.ownsRow B t1 1 v1 n1 xs) (h2 : W.ownsRow B t2 1 v2 n2 ys) (ht : t1 ≠ t2) (hg : W.grownBy W' v1.ownBlock) : W'.ownsRow B t2 1 v2 n2 ys := by
  obtain ⟨hl, h⟩ := h2
  refine ⟨hl, ?_⟩
  rcases h with h | ⟨g, cap, cur, hv, hb, hgg, r⟩
  · exact .inl h
  · refine .inr ⟨g, cap, cur, hv, hb, ?_, r⟩
    rw [hg.block g (Array.getElem?_eq_some_iff.1 hgg).1 ?_]
    · exact hgg
    · intro e
      obtain ⟨_, _, cs, hcs⟩ := own_lt h1 e.symm
      have : W.heap[g]? = some (.cells cs t1 (0, 0)) := hcs
      rw [hgg] at this
      injection this with this
      injection this with _ h3
      exact ht h3.symm
/-- The state of the second loop. -/
structure GS (w : World) (m : Nat) (R : Int × List Nat) (body : List Nat) (p : Nat) (l out : List Nat) (v1 v2 : Value) (wr : World) : Prop where
  four : l.length ≤ 4
  dig : ∀ d ∈ l, d < 85
  byte : ∀ b ∈ out, b < 256
  len : out.length ≤ 4 * p
  row : wr.ownsRow w.heap.size 3 1 v1 l.length (iiv (natI l))
  told : wr.ownsRow w.heap.size 5 1 v2 out.length (bvs out)
  below : Below w.heap.size w wr
  rest : restG (body.drop p) l out (m : Int) = R
theorem GS.start (w : World) (m : Nat) (body : List Nat) : GS w m (restG body [] [] m) body 0 [] [] (.slice none 0 0) (.slice none 0 0) w :=
  ⟨by simp, by simp, by simp, by simp, World.ownsRow_nil _ _ _ _, World.ownsRow_nil _ _ _ _, Below.refl _ _, rfl⟩
theorem GS.white {w wr : World} {m p c : Nat} {R : Int × List Nat} {body l out : List Nat} {v1 v2 : Value} (h : GS w m R body p l out v1 v2 wr) (hc : body.drop p = c :: body.drop (p + 1)) (hw : isW c = true) : GS w m R body (p + 1) l out v1 v2 wr :=
  ⟨h.four, h.dig, h.byte, by have := h.len; omega, h.row, h.told, h.below, by rw [← h.rest, hc, restG_white hw]⟩
theorem GS.z {w wr w' : World} {m p : Nat} {R : Int × List Nat} {body out : List Nat} {v1 v2 v' : Value} {o : Obj} (h : GS w m R body p [] out v1 v2 wr) (hc : body.drop p = 122 :: body.drop (p + 1))
    (hown : w'.ownsRow w.heap.size 5 1 v' (out.length + 4) (bvs (out ++ [0, 0, 0, 0]))) (hg : (wr.alloc o).grownBy w' v2.ownBlock) : GS w m R body (p + 1) [] (out ++ [0, 0, 0, 0]) v1 v' w' :=
  ⟨h.four, h.dig, fun b hb => by
      rcases List.mem_append.1 hb with hb | hb
      · exact h.byte b hb
      · simp at hb; omega, by have := h.len; simp; omega,
    own_other (h.told.alloc o) (h.row.alloc o) (by decide) hg, by simpa using hown,
    (h.below.alloc h.below.size o).grown hg (by have := h.below.size; simp; omega) (fun j e => (own_lt h.told e).1), by rw [← h.rest, hc, restG_z]⟩
theorem GS.more {w wr w' : World} {m p c : Nat} {R : Int × List Nat} {body l out : List Nat} {v1 v2 v' : Value} {o : Obj} (h : GS w m R body p l out v1 v2 wr) (hc : body.drop p = c :: body.drop (p + 1))
    (hw : isW c = false) (hb : ¬ (c < 33 ∨ 117 < c)) (hl : l.length ≠ 4)
    (hown : w'.ownsRow w.heap.size 3 1 v' (l.length + 1) (iiv (natI l) ++ [.int .i64 ((c - 33 : Nat) : Int)])) (hg : (wr.alloc o).grownBy w' v1.ownBlock) : GS w m R body (p + 1) (l ++ [c - 33]) out v' v2 w' :=
  ⟨by have := h.four; simp; omega, fun d hd => by
      rcases List.mem_append.1 hd with hd | hd
      · exact h.dig d hd
      · simp at hd; omega, h.byte, by have := h.len; omega,
    by rw [natI_snoc, iiv_append, List.length_append]; exact hown,
    own_other (h.row.alloc o) (h.told.alloc o) (by decide) hg,
    (h.below.alloc h.below.size o).grown hg (by have := h.below.size; simp; omega) (fun j e => (own_lt h.row e).1), by rw [← h.rest, hc, restG_more hw hb hl]⟩
end Go.Proofs.Ytbbckpdpahkfkaa
