/- ascii's reference: Get: where its text ends, and what its second loop's state stands for. No program stands in it. -/
import Derived.Test.YtbbckpdpahkfkaaAscRg
namespace Go.Proofs.Ytbbckpdpahkfkaa

/-- Where the search for the end stands: at place e. -/
def CutTo (t : List Nat) (e : Nat) : Prop := cut2 t = (cut2 (t.drop e)).map (t.take e ++ ·)
theorem CutTo.start (t : List Nat) : CutTo t 0 := by
  unfold CutTo
  simp
theorem CutTo.step {t : List Nat} {e c d : Nat} (h : CutTo t e) (hc : t[e]? = some c) (hd : t[e + 1]? = some d) (hn : ¬ (c = 126 ∧ d = 62)) : CutTo t (e + 1) := by
  unfold CutTo at *
  obtain ⟨h1, h2⟩ := List.getElem?_eq_some_iff.1 hc
  obtain ⟨h3, h4⟩ := List.getElem?_eq_some_iff.1 hd
  have e1 : t.drop e = c :: t.drop (e + 1) := by rw [List.drop_eq_getElem_cons h1, h2]
  have e2 : t.drop (e + 1) = d :: t.drop (e + 1 + 1) := by rw [List.drop_eq_getElem_cons h3, h4]
  have e3 : cut2 (t.drop e) = (cut2 (t.drop (e + 1))).map (c :: ·) := by
    rw [e1, e2, cut2, if_neg hn]
  have e4 : t.take (e + 1) = t.take e ++ [c] := by rw [List.take_add_one, hc]; rfl
  rw [h, e3, e4, Option.map_map]
  congr 1
  funext b
  simp
theorem CutTo.none {t : List Nat} {e : Nat} (h : CutTo t e) (he : t.length ≤ e + 1) : cut2 t = Option.none := by
  unfold CutTo at h
  have : cut2 (t.drop e) = Option.none := by
    have hl : (t.drop e).length ≤ 1 := by rw [List.length_drop]; omega
    match t.drop e, hl with
    | [], _ => rfl
    | [_], _ => rfl
  rw [h, this]
  rfl
theorem CutTo.some {t : List Nat} {e : Nat} (h : CutTo t e) (hc : t[e]? = Option.some 126) (hd : t[e + 1]? = Option.some 62) : cut2 t = Option.some (t.take e) := by
  unfold CutTo at h
  obtain ⟨h1, h2⟩ := List.getElem?_eq_some_iff.1 hc
  obtain ⟨h3, h4⟩ := List.getElem?_eq_some_iff.1 hd
  have e1 : t.drop e = 126 :: t.drop (e + 1) := by rw [List.drop_eq_getElem_cons h1, h2]
  have e2 : t.drop (e + 1) = 62 :: t.drop (e + 1 + 1) := by rw [List.drop_eq_getElem_cons h3, h4]
  rw [h, e1, e2, cut2, if_pos ⟨rfl, rfl⟩]
  simp
/-- The answer when the state is l, out and this body lies ahead. -/
def restG (body l out : List Nat) (most : Int) : Int × List Nat :=
  match getM body l out with
  | none => (4, [])
  | some (l, out) => match endM l out with
    | none => (4, [])
    | some o => if most < (o.length : Int) then (2, []) else (0, o)
theorem restG_start {t b : List Nat} {most : Int} (hm : ¬ (most < 0 ∨ 1048576 < most)) (hc : cut2 t = some b) : getR t most = restG b [] [] most := by
  unfold getR restG
  rw [if_neg hm, hc]
  rfl
theorem restG_white {c : Nat} {r l out : List Nat} {most : Int} (h : isW c = true) : restG (c :: r) l out most = restG r l out most := by
  unfold restG
  rw [getM, if_pos h]
theorem restG_z {r out : List Nat} {most : Int} : restG (122 :: r) [] out most = restG r [] (out ++ [0, 0, 0, 0]) most := by
  unfold restG
  rw [getM, if_neg (by decide), if_pos ⟨rfl, rfl⟩]
theorem restG_bad {c : Nat} {r l out : List Nat} {most : Int} (h : isW c = false) (hz : ¬ (c = 122 ∧ l = [])) (hb : c < 33 ∨ 117 < c) : restG (c :: r) l out most = (4, []) := by
  unfold restG
  rw [getM, if_neg (by rw [h]; decide), if_neg hz, if_pos hb]
theorem restG_more {c : Nat} {r l out : List Nat} {most : Int} (h : isW c = false) (hb : ¬ (c < 33 ∨ 117 < c)) (hl : l.length ≠ 4) : restG (c :: r) l out most = restG r (l ++ [c - 33]) out most := by
  unfold restG
  rw [getM, if_neg (by rw [h]; decide), if_neg (by omega), if_neg hb, if_neg hl]
theorem restG_big {c : Nat} {r l out : List Nat} {most : Int} (h : isW c = false) (hb : ¬ (c < 33 ∨ 117 < c)) (hl : l.length = 4) (hn : 4294967295 < num5 (l ++ [c - 33]) 0) : restG (c :: r) l out most = (4, []) := by
  unfold restG
  rw [getM, if_neg (by rw [h]; decide), if_neg (by omega), if_neg hb, if_pos hl, if_pos hn]
theorem restG_five {c : Nat} {r l out : List Nat} {most : Int} (h : isW c = false) (hb : ¬ (c < 33 ∨ 117 < c)) (hl : l.length = 4) (hn : ¬ 4294967295 < num5 (l ++ [c - 33]) 0) : restG (c :: r) l out most = restG r [] (out ++ fourB (num5 (l ++ [c - 33]) 0)) most := by
  unfold restG
  rw [getM, if_neg (by rw [h]; decide), if_neg (by omega), if_neg hb, if_pos hl, if_neg hn]
end Go.Proofs.Ytbbckpdpahkfkaa
