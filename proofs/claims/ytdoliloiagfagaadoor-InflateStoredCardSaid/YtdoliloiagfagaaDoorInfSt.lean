/- inflate: bytes behind the last block, a greater number; a row of stored blocks: pure. -/
import Derived.Test.YtdoliloiagfagaaDoorInfX
import Derived.Test.YtdoliloiagfagaaDoorInfG
namespace Go.Proofs.YtdoliloiagfagaaDoor
open Go.RowKit

theorem num_app : ∀ (a b : List Nat), num (a ++ b) = num a + 2 ^ (8 * a.length) * num b
  | [], b => by simp [num]
  | x :: a, b => by
    have e : (2 : Nat) ^ (8 * (a.length + 1)) = 256 * 2 ^ (8 * a.length) := by rw [Nat.mul_add, Nat.pow_add]; simp [Nat.mul_comm]
    rw [List.cons_append, num, num_app a b, num, List.length_cons, e, Nat.mul_add, Nat.mul_assoc, Nat.add_assoc]
theorem num_lt8 {bs : List Nat} (h : ∀ b ∈ bs, b < 256) : num bs < 2 ^ (8 * bs.length) := by
  have := num_lt bs h
  rwa [show (256 : Nat) = 2 ^ 8 from rfl, ← Nat.pow_mul] at this
theorem tokensP_more {bs rest : List Nat} {most : Int} (hb : ∀ b ∈ bs, b < 256) {l : List Tk} {n : Nat} (h : tokensP bs most = .ok (l, n)) : tokensP (bs ++ rest) most = .ok (l, n) := by
  unfold tokensP at h ⊢
  split at h
  · rename_i hm
    rw [if_pos hm]
    cases hp : blocksP most FUEL ⟨[], 0⟩ (num bs) (8 * bs.length) with
    | error e => rw [hp] at h; cases h
    | ok r =>
      obtain ⟨a, N', L'⟩ := r
      rw [hp] at h
      injection h with h
      injection h with h1 h2
      subst h1 h2
      obtain ⟨-, hL, hx⟩ := (Grows.blocks most FUEL ⟨[], 0⟩).ok (num bs) (8 * bs.length) a N' L' (num_lt8 hb) hp
      have := hx (num rest) rest.length
      rw [← num_app, ← Nat.mul_add] at this
      rw [List.length_append, this]
      simp only [Except.ok.injEq, Prod.mk.injEq, true_and]
      omega
  · cases h
theorem tokensP_moreE {bs rest : List Nat} {most : Int} (hb : ∀ b ∈ bs, b < 256) {E : Int} (h : tokensP bs most = .error E) (hE : E ≠ 6) : tokensP (bs ++ rest) most = .error E := by
  unfold tokensP at h ⊢
  split at h
  · rename_i hm
    rw [if_pos hm]
    cases hp : blocksP most FUEL ⟨[], 0⟩ (num bs) (8 * bs.length) with
    | ok r => rw [hp] at h; cases h
    | error e =>
      rw [hp] at h
      injection h with h
      subst h
      have := (Grows.blocks most FUEL ⟨[], 0⟩).er (num bs) (8 * bs.length) e (num_lt8 hb) hp hE (num rest) rest.length
      rw [← num_app, ← Nat.mul_add] at this
      rw [List.length_append, this]
  · rename_i hm
    rw [if_neg hm]
    exact h
/-- What a greater number leaves as it was. -/
structure Wid {α : Type} (p q : Ps α) : Prop where
  ok : ∀ (N L : Nat) (r : α × Nat × Nat), p N L = .ok r → q N L = .ok r
  er : ∀ (N L : Nat), p N L = .error 4 → q N L = .error 4
theorem Wid.refl {α : Type} (p : Ps α) : Wid p p := ⟨fun _ _ _ h => h, fun _ _ h => h⟩
theorem Wid.bnd {α β : Type} {p q : Ps α} {f g : α → Ps β} (hp : Wid p q) (hf : ∀ a, Wid (f a) (g a)) : Wid (bnd p f) (bnd q g) := by
  constructor
  · intro N L r h
    cases hq : p N L with
    | error e => rw [bnd_er hq] at h; cases h
    | ok s =>
      obtain ⟨a, N1, L1⟩ := s
      rw [bnd_ok hq] at h
      rw [bnd_ok (hp.ok N L _ hq)]
      exact (hf a).ok N1 L1 r h
  · intro N L h
    cases hq : p N L with
    | error e =>
      rw [bnd_er hq] at h
      injection h with h
      subst h
      exact bnd_er (hp.er N L hq)
    | ok s =>
      obtain ⟨a, N1, L1⟩ := s
      rw [bnd_ok hq] at h
      rw [bnd_ok (hp.ok N L _ hq)]
      exact (hf a).er N1 L1 h
section
variable {most more : Int} (hm : most ≤ more)
include hm
theorem Wid.add (t : Tk) (a : Acc) : Wid (addP most t a) (addP more t a) := by
  unfold addP
  by_cases h : most - a.made < tkSize t
  · rw [if_pos h]
    exact ⟨fun _ _ _ h => by (cases h), fun _ _ h => by (cases h)⟩
  · rw [if_neg h, if_neg (by omega)]
    exact Wid.refl _
theorem Wid.addAll : ∀ (bs : List Nat) (a : Acc), Wid (addAll most bs a) (addAll more bs a)
  | [], _ => Wid.refl _
  | b :: bs, a => Wid.bnd (Wid.add hm ⟨b, 0, 0⟩ a) fun a' => Wid.addAll bs a'
theorem Wid.match_ (ds : List Int) (s : Nat) (a : Acc) : Wid (matchP most ds s a) (matchP more ds s a) := by
  refine Wid.bnd (Wid.refl _) fun len => Wid.bnd (Wid.refl _) fun t => Wid.bnd (Wid.refl _) fun back => ?_
  split
  · exact Wid.refl _
  · exact Wid.add hm _ _
theorem Wid.syms (ls ds : List Int) : ∀ (f : Nat) (a : Acc), Wid (symsP most ls ds f a) (symsP more ls ds f a)
  | 0, _ => Wid.refl _
  | f + 1, a => by
    refine Wid.bnd (Wid.refl _) fun s => ?_
    split
    · exact Wid.refl _
    · refine Wid.bnd ?_ fun a' => Wid.syms ls ds f a'
      split
      · exact Wid.add hm _ _
      · exact Wid.match_ hm _ _ _
theorem Wid.stored (a : Acc) : Wid (storedP most a) (storedP more a) := by
  refine Wid.bnd (Wid.refl _) fun _ => Wid.bnd (Wid.refl _) fun n => ?_
  split
  · exact Wid.bnd (Wid.refl _) fun bs => Wid.addAll hm _ _
  · exact Wid.refl _
theorem Wid.block (t : Nat) (a : Acc) : Wid (blockP most t a) (blockP more t a) := by
  unfold blockP
  split
  · exact Wid.stored hm _
  · split
    · exact Wid.syms hm _ _ _ _
    · split
      · exact Wid.bnd (Wid.refl _) fun c => Wid.syms hm _ _ _ _
      · exact Wid.refl _
theorem Wid.blocks : ∀ (f : Nat) (a : Acc), Wid (blocksP most f a) (blocksP more f a)
  | 0, _ => Wid.refl _
  | f + 1, a => by
    refine Wid.bnd (Wid.refl _) fun h => Wid.bnd (Wid.block hm _ _) fun a' => ?_
    split
    · exact Wid.refl _
    · exact Wid.blocks f a'
theorem tokensP_wide {bs : List Nat} (hc : more ≤ 1048576) {l : List Tk} {n : Nat} (h : tokensP bs most = .ok (l, n)) : tokensP bs more = .ok (l, n) := by
  unfold tokensP at h ⊢
  split at h
  · rename_i h0
    rw [if_pos (by omega)]
    cases hp : blocksP most FUEL ⟨[], 0⟩ (num bs) (8 * bs.length) with
    | error e => rw [hp] at h; cases h
    | ok r => rw [hp] at h; rw [(Wid.blocks hm FUEL ⟨[], 0⟩).ok _ _ _ hp]; exact h
  · cases h
theorem tokensP_wideE {bs : List Nat} (hc : more ≤ 1048576) (h : tokensP bs most = .error 4) : tokensP bs more = .error 4 := by
  unfold tokensP at h ⊢
  split at h
  · rename_i h0
    rw [if_pos (by omega)]
    cases hp : blocksP most FUEL ⟨[], 0⟩ (num bs) (8 * bs.length) with
    | ok r => rw [hp] at h; cases h
    | error e =>
      rw [hp] at h
      injection h with h
      subst h
      rw [(Wid.blocks hm FUEL ⟨[], 0⟩).er _ _ hp]
  · injection h with h
    cases h
theorem expGo_wide : ∀ {l : List Tk} {b x : List Nat}, expGo most l b = .ok x → expGo more l b = .ok x
  | [], b, x, h => h
  | t :: l, b, x, h => by
    rw [expGo] at h ⊢
    split at h
    · cases h
    · rename_i h1
      rw [if_neg h1]
      split at h
      · cases h
      · rename_i h2
        rw [if_neg (by omega)]
        exact expGo_wide h
theorem expandP_wide {l : List Tk} (hc : more ≤ 1048576) {x : List Nat} (h : expandP l most = .ok x) : expandP l more = .ok x := by
  unfold expandP at h ⊢
  split at h
  · rename_i h0
    rw [if_pos (by omega)]
    split at h
    · rename_i h1
      rw [if_pos h1]
      exact expGo_wide hm h
    · cases h
  · cases h
end
theorem inflP_tokE {bs : List Nat} {most E : Int} (h : inflP bs most = .error E) : tokensP bs most = .error E := by
  cases hq : tokensP bs most with
  | error e => rw [inflP_tok hq] at h; injection h with h; rw [h]
  | ok r =>
    obtain ⟨l, n⟩ := r
    obtain ⟨x, -, hx⟩ := tokens_expand hq
    rw [hx] at h
    cases h
theorem inflP_parts {bs : List Nat} {most : Int} {x : List Nat} {n : Nat} (h : inflP bs most = .ok (x, n)) : ∃ l, tokensP bs most = .ok (l, n) ∧ expandP l most = .ok x := by
  cases hq : tokensP bs most with
  | error e => rw [inflP_tok hq] at h; cases h
  | ok r =>
    obtain ⟨l, n'⟩ := r
    obtain ⟨x', hx, hx2⟩ := tokens_expand hq
    rw [hx2] at h
    injection h with h
    injection h with h1 h2
    subst h1 h2
    exact ⟨l, rfl, hx⟩
theorem inflP_more {bs : List Nat} (rest : List Nat) {most : Int} (hb : ∀ b ∈ bs, b < 256) {x : List Nat} {n : Nat} (h : inflP bs most = .ok (x, n)) : inflP (bs ++ rest) most = .ok (x, n) := by
  obtain ⟨l, h1, h2⟩ := inflP_parts h
  exact inflP_ok (tokensP_more hb h1) h2
theorem inflP_moreE {bs : List Nat} (rest : List Nat) {most E : Int} (hb : ∀ b ∈ bs, b < 256) (h : inflP bs most = .error E) (hE : E ≠ 6) : inflP (bs ++ rest) most = .error E := inflP_tok (tokensP_moreE hb (inflP_tokE h) hE)
theorem inflP_wide {bs : List Nat} {most more : Int} (hm : most ≤ more) (hc : more ≤ 1048576) {x : List Nat} {n : Nat} (h : inflP bs most = .ok (x, n)) : inflP bs more = .ok (x, n) := by
  obtain ⟨l, h1, h2⟩ := inflP_parts h
  exact inflP_ok (tokensP_wide hm hc h1) (expandP_wide hm hc h2)
theorem inflP_wideE {bs : List Nat} {most more : Int} (hm : most ≤ more) (hc : more ≤ 1048576) (h : inflP bs most = .error 4) : inflP bs more = .error 4 := inflP_tok (tokensP_wideE hm hc (inflP_tokE h))


theorem digit_num : ∀ (bs : List Nat), (∀ b ∈ bs, b < 256) → ∀ i b, bs[i]? = some b → digit (num bs) i = b
  | [], _, i, b, h => by simp at h
  | x :: l, hb, 0, b, h => by
    have h1 := hb x (List.mem_cons_self ..)
    simp at h
    subst h
    simp only [digit, num, Nat.pow_zero, Nat.div_one]
    omega
  | x :: l, hb, i + 1, b, h => by
    have h1 := hb x (List.mem_cons_self ..)
    have ih := digit_num l (fun y hy => hb y (List.mem_cons_of_mem _ hy)) i b (by simpa using h)
    unfold digit at ih ⊢
    rw [Nat.pow_succ, Nat.mul_comm, ← Nat.div_div_eq_div_mul]
    have : num (x :: l) / 256 = num l := by simp only [num]; omega
    rw [this]
    exact ih
/-- A stored block. -/
def blkS (last : Nat) (r : List Nat) : List Nat := last :: (r.length % 256) :: (r.length / 256) :: (255 - r.length % 256) :: (255 - r.length / 256) :: r
def encS : List (List Nat) → List Nat
  | [] => []
  | r :: t => blkS (if t = [] then 1 else 0) r ++ encS t
theorem rowOf (N : Nat) (r E : List Nat) (hr : ∀ b ∈ r, b < 256) (hN : N = num (r ++ E)) : (List.range r.length).map (digit N) = r ∧ N / 2 ^ (8 * r.length) = num E := by
  subst hN
  rw [num_app]
  have hlt := num_lt8 hr
  constructor
  · apply List.ext_getElem?
    intro i
    by_cases hi : i < r.length
    · have e : r[i]? = some r[i] := List.getElem?_eq_getElem hi
      rw [List.getElem?_map, List.getElem?_range hi, e]
      simp only [Option.map_some]
      rw [digit_low (by omega), digit_num r hr i _ e]
    · rw [List.getElem?_eq_none (by simp; omega), List.getElem?_eq_none (by omega)]
  · rw [Nat.add_mul_div_left _ _ (Nat.two_pow_pos _), Nat.div_eq_of_lt hlt, Nat.zero_add]
def tksOf (bs : List Nat) : List Tk := bs.map fun (b : Nat) => (⟨(b : Int), 0, 0⟩ : Tk)
theorem addAll_ok {most : Int} : ∀ (bs : List Nat) (a : Acc) (N L : Nat), a.made + bs.length ≤ most → addAll most bs a N L = .ok (⟨a.toks ++ tksOf bs, a.made + bs.length⟩, N, L)
  | [], a, N, L, h => by
    show Except.ok _ = _
    simp [tksOf]
  | b :: bs, a, N, L, h => by
    rw [List.length_cons] at h
    have hs : tkSize ⟨(b : Int), 0, 0⟩ = 1 := rfl
    have e : addP most ⟨(b : Int), 0, 0⟩ a N L = .ok (⟨a.toks ++ [⟨(b : Int), 0, 0⟩], a.made + 1⟩, N, L) := by
      unfold addP
      rw [hs, if_neg (by omega)]
      rfl
    show bnd _ _ N L = _
    rw [bnd_ok e, addAll_ok bs _ N L (by show a.made + 1 + (bs.length : Int) ≤ most; omega)]
    simp only [Except.ok.injEq, Prod.mk.injEq, and_true, Acc.mk.injEq]
    refine ⟨?_, ?_⟩
    · simp [tksOf]
    · rw [List.length_cons]; show a.made + 1 + (bs.length : Int) = _; omega
theorem blkS_num (last : Nat) (r E : List Nat) : num (blkS last r ++ E) = last + 256 * (r.length % 256 + 256 * (r.length / 256 + 256 * (255 - r.length % 256 + 256 * (255 - r.length / 256 + 256 * num (r ++ E))))) := rfl
theorem blkS_len (last : Nat) (r E : List Nat) : (blkS last r ++ E).length = r.length + E.length + 5 := by
  unfold blkS
  simp
theorem stored_ok {most : Int} {r E : List Nat} {a : Acc} {N L : Nat} (hr : ∀ b ∈ r, b < 256) (hl : r.length < 65536) (hm : a.made + r.length ≤ most)
    (hN : N = 32 * (r.length % 256 + 256 * (r.length / 256 + 256 * (255 - r.length % 256 + 256 * (255 - r.length / 256 + 256 * num (r ++ E)))))) (hL : L = 8 * (r.length + E.length + 4) + 5) :
    storedP most a N L = .ok (⟨a.toks ++ tksOf r, a.made + r.length⟩, num E, 8 * E.length) := by
  obtain ⟨n, hn⟩ : ∃ n, r.length = n := ⟨_, rfl⟩
  obtain ⟨Z, hZ⟩ : ∃ Z, num (r ++ E) = Z := ⟨_, rfl⟩
  have hrow := rowOf Z r E hr hZ.symm
  rw [hn] at hN hl hL hrow
  rw [hZ] at hN
  have hadd := addAll_ok (most := most) r a (num E) (8 * E.length) hm
  have e1 : alignP N L = .ok ((), n % 256 + 256 * (n / 256 + 256 * (255 - n % 256 + 256 * (255 - n / 256 + 256 * Z))), 8 * (n + E.length + 4)) := by
    unfold alignP
    have h5 : L % 8 = 5 := by omega
    rw [h5]
    simp only [Except.ok.injEq, Prod.mk.injEq, true_and]
    refine ⟨?_, by omega⟩
    rw [hN, show (2 : Nat) ^ 5 = 32 from rfl]
    omega
  have e2 : fieldsP [16, 16] (n % 256 + 256 * (n / 256 + 256 * (255 - n % 256 + 256 * (255 - n / 256 + 256 * Z)))) (8 * (n + E.length + 4)) = .ok ([n, 65535 - n], Z, 8 * (n + E.length)) := by
    have p : (2 : Nat) ^ 16 = 65536 := rfl
    have f1 : bitsP 16 (n % 256 + 256 * (n / 256 + 256 * (255 - n % 256 + 256 * (255 - n / 256 + 256 * Z)))) (8 * (n + E.length + 4)) = .ok (n, 255 - n % 256 + 256 * (255 - n / 256 + 256 * Z), 8 * (n + E.length + 2)) := by
      unfold bitsP
      rw [if_pos (by omega), p]
      simp only [Except.ok.injEq, Prod.mk.injEq]
      refine ⟨by omega, by omega, by omega⟩
    have f2 : bitsP 16 (255 - n % 256 + 256 * (255 - n / 256 + 256 * Z)) (8 * (n + E.length + 2)) = .ok (65535 - n, Z, 8 * (n + E.length)) := by
      unfold bitsP
      rw [if_pos (by omega), p]
      simp only [Except.ok.injEq, Prod.mk.injEq]
      refine ⟨by omega, by omega, by omega⟩
    unfold fieldsP fieldsP fieldsP
    rw [bnd_ok f1]
    have f3 : bnd (bitsP 16) (fun v => bnd (rtn []) fun vs => rtn (v :: vs)) (255 - n % 256 + 256 * (255 - n / 256 + 256 * Z)) (8 * (n + E.length + 2)) = .ok ([65535 - n], Z, 8 * (n + E.length)) := by
      rw [bnd_ok f2]
      rfl
    rw [bnd_ok f3]
    rfl
  have e3 : bytesP n Z (8 * (n + E.length)) = .ok (r, num E, 8 * E.length) := by
    unfold bytesP
    rw [if_pos (by omega), hrow.1, hrow.2]
    simp only [Except.ok.injEq, Prod.mk.injEq, true_and]
    omega
  unfold storedP
  rw [bnd_ok e1, bnd_ok e2]
  simp only [List.getD_cons_zero, List.getD_cons_succ]
  rw [if_pos (by omega), bnd_ok e3]
  exact hadd
theorem blocks_ok {most : Int} : ∀ (t : List (List Nat)) (f : Nat) (a : Acc), t ≠ [] → t.length ≤ f → (∀ r ∈ t, (∀ b ∈ r, b < 256) ∧ r.length < 65536) → a.made + t.flatten.length ≤ most →
    blocksP most f a (num (encS t)) (8 * (encS t).length) = .ok (⟨a.toks ++ tksOf t.flatten, a.made + t.flatten.length⟩, 0, 0)
  | [], _, _, h, _, _, _ => absurd rfl h
  | r :: t, 0, _, _, h, _, _ => by simp at h
  | r :: t, f + 1, a, _, hf, hr, hm => by
    obtain ⟨hb, hl⟩ := hr r (by simp)
    rw [List.flatten_cons, List.length_append] at hm
    obtain ⟨fl, hfl⟩ : ∃ fl, (if t = [] then 1 else 0) = fl := ⟨_, rfl⟩
    have hfl2 : fl < 2 := by rw [← hfl]; split <;> omega
    have hst := stored_ok (E := encS t) (a := a) hb hl (by omega : a.made + (r.length : Int) ≤ most) rfl rfl
    have e : encS (r :: t) = blkS fl r ++ encS t := by rw [encS, hfl]
    rw [e, blkS_num, blkS_len]
    obtain ⟨X, hX⟩ : ∃ X, r.length % 256 + 256 * (r.length / 256 + 256 * (255 - r.length % 256 + 256 * (255 - r.length / 256 + 256 * num (r ++ encS t)))) = X := ⟨_, rfl⟩
    rw [hX] at hst ⊢
    obtain ⟨M, hM⟩ : ∃ M, r.length + (encS t).length = M := ⟨_, rfl⟩
    rw [hM] at hst ⊢
    have eh : fieldsP [1, 2] (fl + 256 * X) (8 * (M + 5)) = .ok ([fl, 0], 32 * X, 8 * (M + 4) + 5) := by
      have f1 : bitsP 1 (fl + 256 * X) (8 * (M + 5)) = .ok (fl, 128 * X, 8 * (M + 5) - 1) := by
        unfold bitsP
        rw [if_pos (by omega), show (2 : Nat) ^ 1 = 2 from rfl]
        simp only [Except.ok.injEq, Prod.mk.injEq, and_true]
        refine ⟨by omega, by omega⟩
      have f2 : bitsP 2 (128 * X) (8 * (M + 5) - 1) = .ok (0, 32 * X, 8 * (M + 4) + 5) := by
        unfold bitsP
        rw [if_pos (by omega), show (2 : Nat) ^ 2 = 4 from rfl]
        simp only [Except.ok.injEq, Prod.mk.injEq]
        refine ⟨by omega, by omega, by omega⟩
      unfold fieldsP fieldsP fieldsP
      rw [bnd_ok f1]
      have f3 : bnd (bitsP 2) (fun v => bnd (rtn []) fun vs => rtn (v :: vs)) (128 * X) (8 * (M + 5) - 1) = .ok ([0], 32 * X, 8 * (M + 4) + 5) := by
        rw [bnd_ok f2]
        rfl
      rw [bnd_ok f3]
      rfl
    rw [blocksP, bnd_ok eh]
    simp only [List.getD_cons_zero, List.getD_cons_succ]
    have eb : blockP most 0 a (32 * X) (8 * (M + 4) + 5) = .ok (⟨a.toks ++ tksOf r, a.made + r.length⟩, num (encS t), 8 * (encS t).length) := by
      unfold blockP
      rw [if_pos rfl]
      exact hst
    rw [bnd_ok eb]
    by_cases ht : t = []
    · subst ht
      obtain rfl : fl = 1 := by rw [← hfl]; rfl
      rw [if_pos rfl]
      simp [rtn, encS, num]
    · obtain rfl : fl = 0 := by rw [← hfl, if_neg ht]
      rw [if_neg (by decide)]
      rw [List.length_cons] at hf
      rw [blocks_ok t f _ ht (by omega) (fun x hx => hr x (by simp [hx])) (by show a.made + (r.length : Int) + (t.flatten.length : Int) ≤ most; omega)]
      simp only [Except.ok.injEq, Prod.mk.injEq, and_true, Acc.mk.injEq, List.flatten_cons, List.length_append]
      refine ⟨by simp [tksOf], by omega⟩
theorem exp_bytes {most : Int} : ∀ (bs b : List Nat), (b.length : Int) + bs.length ≤ most → expGo most (tksOf bs) b = .ok (b ++ bs)
  | [], b, _ => by simp [tksOf, expGo]
  | x :: bs, b, h => by
    rw [List.length_cons] at h
    have e : tksOf (x :: bs) = ⟨(x : Int), 0, 0⟩ :: tksOf bs := rfl
    have hs : tkSize ⟨(x : Int), 0, 0⟩ = 1 := rfl
    rw [e, expGo, if_neg (show ¬ (b.length : Int) < 0 by omega), hs, if_neg (by omega)]
    have hx : expTk ⟨(x : Int), 0, 0⟩ b = b ++ [x] := by unfold expTk; rw [if_pos rfl]; rfl
    rw [hx, exp_bytes bs (b ++ [x]) (by simp; omega)]
    simp
theorem stored_rows {most : Int} (l : List (List Nat)) (hl : l ≠ []) (hn : l.length ≤ 20) (hr : ∀ r ∈ l, (∀ b ∈ r, b < 256) ∧ r.length < 65536) (hm : (l.flatten.length : Int) ≤ most) (hc : most ≤ 1048576) :
    inflP (encS l) most = .ok (l.flatten, (encS l).length) := by
  have hb := blocks_ok (most := most) l FUEL ⟨[], 0⟩ hl (by unfold FUEL; omega) hr (by show (0 : Int) + _ ≤ most; omega)
  have ht : tokensP (encS l) most = .ok (tksOf l.flatten, (encS l).length) := by
    unfold tokensP
    rw [if_pos (by omega), hb]
    simp
  obtain ⟨x, hx, hi⟩ := tokens_expand ht
  have hall : (tksOf l.flatten).all okTk = true := by
    rw [List.all_eq_true]
    intro t ht
    obtain ⟨b, hb, rfl⟩ := List.mem_map.1 ht
    obtain ⟨r, hr1, hr2⟩ := List.mem_flatten.1 hb
    exact byte_ok ((hr r hr1).1 b hr2)
  have : expandP (tksOf l.flatten) most = .ok l.flatten := by
    unfold expandP
    rw [if_pos (by omega), if_pos hall, exp_bytes _ _ (by simpa using hm)]
    rfl
  rw [this] at hx
  injection hx with hx
  rw [hi, ← hx]
theorem stored_none (most : Int) (h0 : 0 ≤ most) (hc : most ≤ 1048576) : inflP [] most = .error 6 := by
  refine inflP_tok ?_
  unfold tokensP
  rw [if_pos (by omega)]
  rfl
end Go.Proofs.YtdoliloiagfagaaDoor
