/- ascii's reference: Get: a five of signs done. -/
import Derived.Test.YtbbckpdpahkfkaaAscRj
namespace Go.Proofs.Ytbbckpdpahkfkaa
open Go.RowKit

theorem own_below {a b : World} {B n : Nat} {t : TypeId} {v : Value} {xs : List Value} (h : a.ownsRow B t 1 v n xs) (hb : Below a.heap.size a b) : b.ownsRow B t 1 v n xs := by
  obtain ⟨hl, h⟩ := h
  refine ⟨hl, ?_⟩
  rcases h with h | ⟨g, cap, cur, hv, hbb, hgg, r⟩
  · exact .inl h
  · exact .inr ⟨g, cap, cur, hv, hbb, by rw [hb.block g (Array.getElem?_eq_some_iff.1 hgg).1]; exact hgg, r⟩
/-- Behind the append of the fifth sign: the row of five, the bytes, the frame. -/
theorem GS.fifth {w wr w' : World} {m p c : Nat} {R : Int × List Nat} {body l out : List Nat} {v1 v2 v' : Value} {o : Obj} (h : GS w m R body p l out v1 v2 wr)
    (hown : w'.ownsRow w.heap.size 3 1 v' (l.length + 1) (iiv (natI l) ++ [.int .i64 ((c - 33 : Nat) : Int)])) (hg : (wr.alloc o).grownBy w' v1.ownBlock) :
    w'.ownsRow w.heap.size 3 1 v' (l.length + 1) (iiv (natI (l ++ [c - 33]))) ∧ w'.ownsRow w.heap.size 5 1 v2 out.length (bvs out) ∧ Below w.heap.size w w' :=
  ⟨by rw [natI_snoc, iiv_append]; exact hown, own_other (h.row.alloc o) (h.told.alloc o) (by decide) hg,
    (h.below.alloc h.below.size o).grown hg (by have := h.below.size; simp; omega) (fun j e => (own_lt h.row e).1)⟩
theorem GS.five {w wr w5 w6 w7 : World} {m p c : Nat} {R : Int × List Nat} {body l out : List Nat} {v1 v2 v' : Value} (h : GS w m R body p l out v1 v2 wr) (hc : body.drop p = c :: body.drop (p + 1))
    (hw : isW c = false) (hb : ¬ (c < 33 ∨ 117 < c)) (hl : l.length = 4) (hn : ¬ 4294967295 < num5 (l ++ [c - 33]) 0)
    (h5 : w5.ownsRow w.heap.size 5 1 v2 out.length (bvs out)) (hb5 : Below w.heap.size w w5) (hb6 : Below w5.heap.size w5 w6)
    (hown : w7.ownsRow w.heap.size 5 1 v' (out.length + 4) (bvs (out ++ fourB (num5 (l ++ [c - 33]) 0)))) (hg : w6.grownBy w7 v2.ownBlock) :
    GS w m R body (p + 1) [] (out ++ fourB (num5 (l ++ [c - 33]) 0)) (.slice none 0 0) v' w7 :=
  ⟨by simp, by simp, fun b hbb => by
      rcases List.mem_append.1 hbb with hbb | hbb
      · exact h.byte b hbb
      · simp only [fourB, List.mem_cons, List.not_mem_nil, or_false] at hbb
        omega, by have := h.len; simp [fourB]; omega, World.ownsRow_nil _ _ _ _, by simpa [fourB] using hown,
    (hb5.trans (hb6.mono hb5.size)).grown hg (hb5.trans (hb6.mono hb5.size)).size (fun j e => (own_lt h5 e).1), by rw [← h.rest, hc, restG_five hw hb hl hn]⟩
theorem four_zero (w : World) : Bytes (w.alloc (.cells #[.int .u8 0, .int .u8 0, .int .u8 0, .int .u8 0] 5)) (some ⟨w.heap.size, 0, none⟩) 4 4 [0, 0, 0, 0] :=
  bytes_lit w [0, 0, 0, 0] (by decide) (by decide)
end Go.Proofs.Ytbbckpdpahkfkaa
