/- inflate: bits behind the last one turn nothing: pure. -/
import Derived.Test.YtnjdnldoopgcpaaInfA
namespace Go.Proofs.Ytnjdnldoopgcpaa
open Go.RowKit

/-- More bits, in whole bytes, behind those that are read. -/
structure Grows {α : Type} (p : Ps α) : Prop where
  ok : ∀ (N L : Nat) (a : α) (N' L' : Nat), N < 2 ^ L → p N L = .ok (a, N', L') → N' < 2 ^ L' ∧ L' ≤ L ∧ ∀ X m : Nat, p (N + 2 ^ L * X) (L + 8 * m) = .ok (a, N' + 2 ^ L' * X, L' + 8 * m)
  er : ∀ (N L : Nat) (e : Int), N < 2 ^ L → p N L = .error e → e ≠ 6 → ∀ X m : Nat, p (N + 2 ^ L * X) (L + 8 * m) = .error e
theorem low_div {N L X k : Nat} (h : k ≤ L) : (N + 2 ^ L * X) / 2 ^ k = N / 2 ^ k + 2 ^ (L - k) * X := by
  have e : 2 ^ L = 2 ^ k * 2 ^ (L - k) := by rw [← Nat.pow_add]; congr 1; omega
  rw [e, Nat.mul_assoc, Nat.add_mul_div_left _ _ (Nat.two_pow_pos k)]
theorem low_mod {N L X k : Nat} (h : k ≤ L) : (N + 2 ^ L * X) % 2 ^ k = N % 2 ^ k := by
  have e : 2 ^ L = 2 ^ k * 2 ^ (L - k) := by rw [← Nat.pow_add]; congr 1; omega
  rw [e, Nat.mul_assoc, Nat.add_mul_mod_self_left]
theorem low_lt {N L k : Nat} (h : k ≤ L) (hN : N < 2 ^ L) : N / 2 ^ k < 2 ^ (L - k) := by
  have e : 2 ^ L = 2 ^ k * 2 ^ (L - k) := by rw [← Nat.pow_add]; congr 1; omega
  rw [e] at hN
  exact Nat.div_lt_of_lt_mul hN
theorem Grows.rtn {α : Type} (a : α) : Grows (rtn a) := ⟨fun N L b N' L' h e => by
  injection e with e
  injection e with e1 e
  injection e with e2 e3
  subst e1 e2 e3
  exact ⟨h, Nat.le_refl _, fun X m => rfl⟩, fun N L e _ h => by cases h⟩
theorem Grows.bad {α : Type} (e : Int) : Grows (bad e : Ps α) := ⟨fun _ _ _ _ _ _ h => (by cases h), fun _ _ _ _ h _ _ _ => h⟩
theorem Grows.bnd {α β : Type} {p : Ps α} {f : α → Ps β} (hp : Grows p) (hf : ∀ a, Grows (f a)) : Grows (bnd p f) := by
  constructor
  · intro N L b N' L' hN h
    cases hpn : p N L with
    | error e => rw [bnd_er hpn] at h; cases h
    | ok r =>
      obtain ⟨a, N1, L1⟩ := r
      rw [bnd_ok hpn] at h
      obtain ⟨h1, h2, h3⟩ := hp.ok N L a N1 L1 hN hpn
      obtain ⟨g1, g2, g3⟩ := (hf a).ok N1 L1 b N' L' h1 h
      exact ⟨g1, Nat.le_trans g2 h2, fun X m => by rw [bnd_ok (h3 X m)]; exact g3 X m⟩
  · intro N L e hN h he X m
    cases hpn : p N L with
    | error e' =>
      rw [bnd_er hpn] at h
      injection h with h
      subst h
      exact bnd_er (hp.er N L e' hN hpn he X m)
    | ok r =>
      obtain ⟨a, N1, L1⟩ := r
      rw [bnd_ok hpn] at h
      obtain ⟨h1, h2, h3⟩ := hp.ok N L a N1 L1 hN hpn
      rw [bnd_ok (h3 X m)]
      exact (hf a).er N1 L1 e h1 h he X m
theorem Grows.bits (k : Nat) : Grows (bitsP k) := by
  constructor
  · intro N L a N' L' hN h
    unfold bitsP at h
    by_cases hk : k ≤ L
    · rw [if_pos hk] at h
      injection h with h
      injection h with e1 h
      injection h with e2 e3
      subst e1 e2 e3
      refine ⟨low_lt hk hN, by omega, fun X m => ?_⟩
      unfold bitsP
      rw [if_pos (by omega), low_div hk, low_mod hk, show L + 8 * m - k = L - k + 8 * m by omega]
    · rw [if_neg hk] at h; cases h
  · intro N L e hN h he X m
    unfold bitsP at h
    by_cases hk : k ≤ L
    · rw [if_pos hk] at h; cases h
    · rw [if_neg hk] at h; injection h with h; exact absurd h.symm he
theorem Grows.align : Grows alignP := by
  constructor
  · intro N L a N' L' hN h
    unfold alignP at h
    injection h with h
    injection h with e1 h
    injection h with e2 e3
    subst e2 e3
    have hk : L % 8 ≤ L := Nat.mod_le _ _
    refine ⟨low_lt hk hN, by omega, fun X m => ?_⟩
    unfold alignP
    rw [show (L + 8 * m) % 8 = L % 8 by omega, low_div hk, show L + 8 * m - L % 8 = L - L % 8 + 8 * m by omega]
  · intro N L e hN h he X m
    cases h
theorem digit_low {N L X i : Nat} (h : 8 * i + 8 ≤ L) : digit (N + 2 ^ L * X) i = digit N i := by
  unfold digit
  rw [show (256 : Nat) ^ i = 2 ^ (8 * i) by rw [Nat.pow_mul], low_div (by omega), show (256 : Nat) = 2 ^ 8 from rfl, low_mod (by omega)]
theorem Grows.bytes (n : Nat) : Grows (bytesP n) := by
  constructor
  · intro N L a N' L' hN h
    unfold bytesP at h
    by_cases hk : n ≤ L / 8
    · rw [if_pos hk] at h
      injection h with h
      injection h with e1 h
      injection h with e2 e3
      subst e1 e2 e3
      refine ⟨low_lt (by omega) hN, by omega, fun X m => ?_⟩
      unfold bytesP
      rw [if_pos (by omega), low_div (by omega), show L + 8 * m - 8 * n = L - 8 * n + 8 * m by omega]
      congr 2
      refine List.map_congr_left fun i hi => ?_
      have := List.mem_range.1 hi
      exact digit_low (by omega)
    · rw [if_neg hk] at h; cases h
  · intro N L e hN h he X m
    unfold bytesP at h
    by_cases hk : n ≤ L / 8
    · rw [if_pos hk] at h; cases h
    · rw [if_neg hk] at h; injection h with h; exact absurd h.symm he
theorem revB_low {c c' k : Nat} : ∀ i, i ≤ k → c % 2 ^ k = c' % 2 ^ k → revB c i = revB c' i
  | 0, _, _ => rfl
  | i + 1, h, e => by
    have e1 : c.testBit i = c'.testBit i := by
      have h1 := congrArg (fun x => Nat.testBit x i) e
      simp only [Nat.testBit_mod_two_pow] at h1
      have h2 : decide (i < k) = true := decide_eq_true h
      simpa [h2] using h1
    rw [Nat.testBit_eq_decide_div_mod_eq, Nat.testBit_eq_decide_div_mod_eq] at e1
    have e2 : (c / 2 ^ i % 2 = 1) ↔ (c' / 2 ^ i % 2 = 1) := by simpa using e1
    unfold revB
    rw [revB_low i (by omega) e]
    have h1 := Nat.mod_two_eq_zero_or_one (c / 2 ^ i)
    have h2 := Nat.mod_two_eq_zero_or_one (c' / 2 ^ i)
    omega
theorem hit_low {l : List Int} {N L X k : Nat} (h : k < L) : hit l (N + 2 ^ L * X) k = hit l N k := by
  have e : revB (N + 2 ^ L * X) (k + 1) = revB N (k + 1) := revB_low (k + 1) (Nat.le_refl _) (low_mod h)
  unfold hit
  rw [e]
theorem Grows.readGo (l : List Int) : ∀ f k, Grows (readGo l f k)
  | 0, k => Grows.bad 4
  | f + 1, k => by
    have ih := Grows.readGo l f (k + 1)
    constructor
    · intro N L a N' L' hN h
      rw [readGo_eq] at h
      by_cases hk : k < L
      · rw [if_pos hk] at h
        cases hh : hit l N k with
        | some s =>
          rw [hh] at h
          injection h with h
          injection h with e1 h
          injection h with e2 e3
          subst e1 e2 e3
          refine ⟨low_lt (by omega) hN, by omega, fun X m => ?_⟩
          rw [readGo_eq, if_pos (by omega), hit_low hk, hh]
          simp only []
          rw [low_div (by omega), show L + 8 * m - (k + 1) = L - (k + 1) + 8 * m by omega]
        | none =>
          rw [hh] at h
          obtain ⟨h1, h2, h3⟩ := ih.ok N L a N' L' hN h
          refine ⟨h1, h2, fun X m => ?_⟩
          rw [readGo_eq, if_pos (by omega), hit_low hk, hh]
          exact h3 X m
      · rw [if_neg hk] at h; cases h
    · intro N L e hN h he X m
      rw [readGo_eq] at h
      by_cases hk : k < L
      · rw [if_pos hk] at h
        cases hh : hit l N k with
        | some s => rw [hh] at h; cases h
        | none =>
          rw [hh] at h
          rw [readGo_eq, if_pos (by omega), hit_low hk, hh]
          exact ih.er N L e hN h he X m
      · rw [if_neg hk] at h; injection h with h; exact absurd h.symm he
theorem Grows.read (l : List Int) : Grows (readP l) := Grows.readGo l 15 0
theorem Grows.fields : ∀ ks, Grows (fieldsP ks)
  | [] => Grows.rtn []
  | k :: ks => Grows.bnd (Grows.bits k) fun v => Grows.bnd (Grows.fields ks) fun vs => Grows.rtn (v :: vs)
theorem Grows.add (most : Int) (t : Tk) (a : Acc) : Grows (addP most t a) := by
  unfold addP
  split
  · exact Grows.bad _
  · exact Grows.rtn _
theorem Grows.addAll (most : Int) : ∀ (bs : List Nat) (a : Acc), Grows (addAll most bs a)
  | [], a => Grows.rtn a
  | _ :: bs, a => Grows.bnd (Grows.add most _ a) fun a' => Grows.addAll most bs a'
theorem Grows.number (tb : List (Nat × Nat)) (s : Nat) : Grows (numberP tb s) := by
  unfold numberP
  split
  · exact Grows.bad _
  · exact Grows.bnd (Grows.bits _) fun x => Grows.rtn _
theorem Grows.match_ (most : Int) (ds : List Int) (s : Nat) (a : Acc) : Grows (matchP most ds s a) := by
  refine Grows.bnd (Grows.number _ _) fun len => Grows.bnd (Grows.read _) fun t => Grows.bnd (Grows.number _ _) fun back => ?_
  split
  · exact Grows.bad _
  · exact Grows.add _ _ _
theorem Grows.syms (most : Int) (ls ds : List Int) : ∀ (f : Nat) (a : Acc), Grows (symsP most ls ds f a)
  | 0, a => Grows.bad _
  | f + 1, a => by
    refine Grows.bnd (Grows.read ls) fun s => ?_
    split
    · exact Grows.rtn _
    · refine Grows.bnd ?_ fun a' => Grows.syms most ls ds f a'
      split
      · exact Grows.add _ _ _
      · exact Grows.match_ _ _ _ _
theorem Grows.stored (most : Int) (a : Acc) : Grows (storedP most a) := by
  refine Grows.bnd Grows.align fun _ => Grows.bnd (Grows.fields _) fun n => ?_
  split
  · exact Grows.bnd (Grows.bytes _) fun bs => Grows.addAll _ _ _
  · exact Grows.bad _
theorem Grows.codeGo (cl : List Int) (n : Nat) : ∀ (f : Nat) (l : List Int), Grows (codeGo cl n f l)
  | 0, l => Grows.bad _
  | f + 1, l => by
    rw [Go.Proofs.Ytnjdnldoopgcpaa.codeGo]
    split
    · refine Grows.bnd (Grows.read cl) fun s => ?_
      split
      · exact Grows.codeGo cl n f _
      · split
        · exact Grows.bad _
        · exact Grows.bnd (Grows.bits _) fun m => Grows.codeGo cl n f _
    · split
      · exact Grows.bad _
      · exact Grows.rtn _
theorem Grows.make (l : List Int) : Grows (makeP l) := by
  unfold makeP
  split
  · split
    · exact Grows.rtn _
    · exact Grows.bad _
  · exact Grows.bad _
theorem Grows.lenCodes (k : Nat) : Grows (lenCodesP k) := Grows.bnd (Grows.fields _) fun _ => Grows.bnd (Grows.make _) fun _ => Grows.rtn _
theorem Grows.both (ls ds : List Int) : Grows (makeBoth ls ds) := by
  unfold makeBoth
  split
  · exact Grows.bad _
  · exact Grows.bnd (Grows.make _) fun _ => Grows.bnd (Grows.make _) fun _ => Grows.rtn _
theorem Grows.dyn : Grows dynP := by
  refine Grows.bnd (Grows.fields _) fun n => ?_
  split
  · exact Grows.bad _
  · exact Grows.bnd (Grows.lenCodes _) fun cl => Grows.bnd (Grows.codeGo _ _ _ _) fun l => Grows.both _ _
theorem Grows.block (most : Int) (t : Nat) (a : Acc) : Grows (blockP most t a) := by
  unfold blockP
  split
  · exact Grows.stored _ _
  · split
    · exact Grows.syms _ _ _ _ _
    · split
      · exact Grows.bnd Grows.dyn fun c => Grows.syms _ _ _ _ _
      · exact Grows.bad _
theorem Grows.blocks (most : Int) : ∀ (f : Nat) (a : Acc), Grows (blocksP most f a)
  | 0, a => Grows.bad _
  | f + 1, a => by
    refine Grows.bnd (Grows.fields _) fun h => Grows.bnd (Grows.block _ _ _) fun a' => ?_
    split
    · exact Grows.rtn _
    · exact Grows.blocks most f a'
end Go.Proofs.Ytnjdnldoopgcpaa
