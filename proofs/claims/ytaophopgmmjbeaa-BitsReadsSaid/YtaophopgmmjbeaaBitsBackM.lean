/- The plain mathematics of BitsBack: which calls are taken, and the number of their bits. No program stands in it. -/
import Derived.Test.YtaophopgmmjbeaaLaidOps
namespace Go.Proofs.Ytaophopgmmjbeaa
open Go.RowKit

/-- A call that a writer takes. -/
def OpV.ok (x : OpV) : Bool := decide (0 ≤ x.n ∧ x.n ≤ 24 ∧ 0 ≤ x.v ∧ x.v < ((2 ^ x.n.toNat : Nat) : Int))
theorem OpV.ok_iff {x : OpV} : x.ok = true ↔ 0 ≤ x.n ∧ x.n ≤ 24 ∧ 0 ≤ x.v ∧ x.v < ((2 ^ x.n.toNat : Nat) : Int) := by simp [OpV.ok]
/-- The first i calls, those that are taken. -/
def kept (F : Nat → OpV) : Nat → List OpV
  | 0 => []
  | i + 1 => if (F i).ok then kept F i ++ [F i] else kept F i
theorem kept_ok (F : Nat → OpV) : ∀ i, ∀ x ∈ kept F i, x.ok = true
  | 0, x, h => by simp [kept] at h
  | i + 1, x, h => by
    unfold kept at h
    split at h
    · rename_i ho
      rcases List.mem_append.1 h with h | h
      · exact kept_ok F i x h
      · simp at h; subst h; exact ho
    · exact kept_ok F i x h
theorem kept_len (F : Nat → OpV) : ∀ i, (kept F i).length ≤ i
  | 0 => by simp [kept]
  | i + 1 => by
    have := kept_len F i
    unfold kept
    split
    · simp; omega
    · omega
/-- How many bits they have, and their number. -/
def sumN : List OpV → Nat
  | [] => 0
  | x :: l => x.n.toNat + sumN l
def packed : List OpV → Nat
  | [] => 0
  | x :: l => x.v.toNat + 2 ^ x.n.toNat * packed l
theorem sumN_append (l : List OpV) (x : OpV) : sumN (l ++ [x]) = sumN l + x.n.toNat := by
  induction l with
  | nil => simp [sumN]
  | cons y l ih => simp only [List.cons_append, sumN, ih]; omega
theorem packed_append (l : List OpV) (x : OpV) : packed (l ++ [x]) = packed l + 2 ^ sumN l * x.v.toNat := by
  induction l with
  | nil => simp [packed, sumN]
  | cons y l ih =>
    simp only [List.cons_append, packed, sumN, ih, Nat.mul_add, Nat.pow_add]
    rw [Nat.mul_assoc]
    omega
theorem sumN_le (l : List OpV) (h : ∀ x ∈ l, x.ok = true) : sumN l ≤ 24 * l.length := by
  induction l with
  | nil => simp [sumN]
  | cons y l ih =>
    have h1 := OpV.ok_iff.1 (h y (List.mem_cons_self ..))
    have h2 := ih (fun x hx => h x (List.mem_cons_of_mem _ hx))
    simp only [sumN, List.length_cons]
    omega
theorem packed_head {x : OpV} {l : List OpV} (h : x.ok = true) : packed (x :: l) % 2 ^ x.n.toNat = x.v.toNat ∧ packed (x :: l) / 2 ^ x.n.toNat = packed l := by
  obtain ⟨h1, h2, h3, h4⟩ := OpV.ok_iff.1 h
  have hv : x.v.toNat < 2 ^ x.n.toNat := by
    have : ((x.v.toNat : Nat) : Int) = x.v := Int.toNat_of_nonneg h3
    exact Int.ofNat_lt.1 (by rw [this]; exact h4)
  rw [show packed (x :: l) = x.v.toNat + 2 ^ x.n.toNat * packed l from rfl]
  exact ⟨by rw [Nat.add_mul_mod_self_left, Nat.mod_eq_of_lt hv], by rw [Nat.add_mul_div_left _ _ (Nat.two_pow_pos _), Nat.div_eq_of_lt hv, Nat.zero_add]⟩
theorem sumN_take {l : List OpV} {j : Nat} {x : OpV} (h : l[j]? = some x) : sumN (l.take (j + 1)) = sumN (l.take j) + x.n.toNat := by
  obtain ⟨hj, rfl⟩ := List.getElem?_eq_some_iff.1 h
  rw [List.take_succ_eq_append_getElem hj, sumN_append]
theorem sumN_part (l : List OpV) (j : Nat) : sumN (l.take j) ≤ sumN l := by
  induction l generalizing j with
  | nil => simp [sumN]
  | cons y l ih =>
    cases j with
    | zero => simp [sumN]
    | succ j =>
      have := ih j
      simp only [List.take_succ_cons, sumN]
      omega
theorem packed_drop {l : List OpV} {j : Nat} {x : OpV} (h : l[j]? = some x) (hx : x.ok = true) : packed (l.drop j) % 2 ^ x.n.toNat = x.v.toNat ∧ packed (l.drop j) / 2 ^ x.n.toNat = packed (l.drop (j + 1)) := by
  obtain ⟨hj, rfl⟩ := List.getElem?_eq_some_iff.1 h
  rw [List.drop_eq_getElem_cons hj]
  exact packed_head hx
theorem OAt.fr {w w' : World} {R o : Nat} {x : OpV} {S : Nat → Prop} (h : OAt w R o x) (hf : Fr S w w') (hR : R < w.heap.size) (hn : ¬ S R) : OAt w' R o x :=
  have k : ∀ i, w'.cell? ⟨R, i, none⟩ = w.cell? ⟨R, i, none⟩ := fun _ => World.cell?_of_block (w := w) (hf.block R hR hn)
  ⟨(k _).trans h.1, (k _).trans h.2.1, (k _).trans h.2.2⟩
/-- The cells of calls. -/
def cellsO (l : List OpV) : List Value := l.flatMap fun x => [.int .i64 x.c, .int .i64 x.v, .int .i64 x.n]
theorem cellsO_append (l : List OpV) (x : OpV) : cellsO (l ++ [x]) = cellsO l ++ [.int .i64 x.c, .int .i64 x.v, .int .i64 x.n] := by simp [cellsO]
theorem cellsO_length (l : List OpV) : (cellsO l).length = l.length * 3 := by
  induction l with
  | nil => rfl
  | cons y l ih => simp only [cellsO, List.flatMap_cons, List.length_append, List.length_cons, List.length_nil] at ih ⊢; omega
theorem cellsO_at : ∀ (l : List OpV) (i : Nat) (x : OpV), l[i]? = some x → (cellsO l)[i * 3]? = some (.int .i64 x.c) ∧ (cellsO l)[i * 3 + 1]? = some (.int .i64 x.v) ∧ (cellsO l)[i * 3 + 2]? = some (.int .i64 x.n)
  | [], i, x, h => by simp at h
  | y :: l, 0, x, h => by simp at h; subst h; simp [cellsO]
  | y :: l, i + 1, x, h => by
    have ih := cellsO_at l i x (by simpa using h)
    have e : cellsO (y :: l) = .int .i64 y.c :: .int .i64 y.v :: .int .i64 y.n :: cellsO l := by simp [cellsO]
    rw [e, show (i + 1) * 3 = i * 3 + 3 by omega, show i * 3 + 3 + 1 = i * 3 + 1 + 3 by omega, show i * 3 + 3 + 2 = i * 3 + 2 + 3 by omega]
    simpa using ih
/-- A row of its own that holds calls: its cells. -/
theorem own_ops {w : World} {base : Nat} {T : TypeId} {v : Value} {l : List OpV} (h : w.ownsRow base T 3 v l.length (cellsO l)) : ∃ A c, v = .slice A l.length c ∧ l.length ≤ c ∧
    (0 < l.length → ∃ g, A = some ⟨g, 0, none⟩ ∧ v.ownBlock = some g ∧ ∀ i x, l[i]? = some x → OAt w g (i * 3) x) := by
  obtain ⟨hl, h⟩ := h
  rcases h with ⟨rfl, h0⟩ | ⟨g, cap, cur, rfl, hg, hw, hnc, hc, hs, ht⟩
  · exact ⟨none, 0, by rw [h0], by omega, fun h => absurd h (by omega)⟩
  · refine ⟨_, cap, rfl, hnc, fun _ => ⟨g, rfl, rfl, fun i x hx => ?_⟩⟩
    have hi := (List.getElem?_eq_some_iff.1 hx).1
    obtain ⟨k0, k1, k2⟩ := cellsO_at l i x hx
    have key : ∀ j u, j < l.length * 3 → (cellsO l)[j]? = some u → w.cell? ⟨g, j, none⟩ = some u := fun j u hj hu => by
      rw [← ht, List.getElem?_take, if_pos hj, Array.getElem?_toList] at hu
      rw [Whole.reads (T := T) hw]
      exact hu
    exact ⟨key _ _ (by omega) k0, key _ _ (by omega) k1, key _ _ (by omega) k2⟩
end Go.Proofs.Ytaophopgmmjbeaa
