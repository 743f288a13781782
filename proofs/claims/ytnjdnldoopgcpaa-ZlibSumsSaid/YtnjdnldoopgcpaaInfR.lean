/- inflate: bytes behind the last block, and a greater number: pure. -/
import Derived.Test.YtnjdnldoopgcpaaInfX
import Derived.Test.YtnjdnldoopgcpaaInfG
namespace Go.Proofs.Ytnjdnldoopgcpaa
open Go.RowKit

theorem num_app : ∀ (a b : List Nat), num (a ++ b) = num a + 2 ^ (8 * a.length) * num b
  | [], b => by simp [num]
  | x :: a, b => by
    have e : (2 : Nat) ^ (8 * (a.length + 1)) = 256 * 2 ^ (8 * a.length) := by rw [Nat.mul_add, Nat.pow_add]; simp [Nat.mul_comm]
    rw [List.cons_append, num, num_app a b, num, List.length_cons, e, Nat.mul_add, Nat.mul_assoc, Nat.add_assoc]
theorem num_lt8 {bs : List Nat} (h : ∀ b ∈ bs, b < 256) : num bs < 2 ^ (8 * bs.length) := by
  have := num_lt bs h
  rwa [show (256 : Nat) = 2 ^ 8 from rfl, ← Nat.pow_mul] at this
theorem tokensP_more {bs rest : List Nat} {most : Int} (hb : ∀ b ∈ bs, b < 256) {l : List Tk} {n : Nat} (h : tokensP bs most = .ok (l, n)) : tokensP (bs ++ rest) most = .ok (l, n) := by
  unfold tokensP at h ⊢
  split at h
  · rename_i hm
    rw [if_pos hm]
    cases hp : blocksP most FUEL ⟨[], 0⟩ (num bs) (8 * bs.length) with
    | error e => rw [hp] at h; cases h
    | ok r =>
      obtain ⟨a, N', L'⟩ := r
      rw [hp] at h
      injection h with h
      injection h with h1 h2
      subst h1 h2
      obtain ⟨-, hL, hx⟩ := (Grows.blocks most FUEL ⟨[], 0⟩).ok (num bs) (8 * bs.length) a N' L' (num_lt8 hb) hp
      have := hx (num rest) rest.length
      rw [← num_app, ← Nat.mul_add] at this
      rw [List.length_append, this]
      simp only [Except.ok.injEq, Prod.mk.injEq, true_and]
      omega
  · cases h
theorem tokensP_moreE {bs rest : List Nat} {most : Int} (hb : ∀ b ∈ bs, b < 256) {E : Int} (h : tokensP bs most = .error E) (hE : E ≠ 6) : tokensP (bs ++ rest) most = .error E := by
  unfold tokensP at h ⊢
  split at h
  · rename_i hm
    rw [if_pos hm]
    cases hp : blocksP most FUEL ⟨[], 0⟩ (num bs) (8 * bs.length) with
    | ok r => rw [hp] at h; cases h
    | error e =>
      rw [hp] at h
      injection h with h
      subst h
      have := (Grows.blocks most FUEL ⟨[], 0⟩).er (num bs) (8 * bs.length) e (num_lt8 hb) hp hE (num rest) rest.length
      rw [← num_app, ← Nat.mul_add] at this
      rw [List.length_append, this]
  · rename_i hm
    rw [if_neg hm]
    exact h
/-- What a greater number leaves as it was. -/
structure Wid {α : Type} (p q : Ps α) : Prop where
  ok : ∀ (N L : Nat) (r : α × Nat × Nat), p N L = .ok r → q N L = .ok r
  er : ∀ (N L : Nat), p N L = .error 4 → q N L = .error 4
theorem Wid.refl {α : Type} (p : Ps α) : Wid p p := ⟨fun _ _ _ h => h, fun _ _ h => h⟩
theorem Wid.bnd {α β : Type} {p q : Ps α} {f g : α → Ps β} (hp : Wid p q) (hf : ∀ a, Wid (f a) (g a)) : Wid (bnd p f) (bnd q g) := by
  constructor
  · intro N L r h
    cases hq : p N L with
    | error e => rw [bnd_er hq] at h; cases h
    | ok s =>
      obtain ⟨a, N1, L1⟩ := s
      rw [bnd_ok hq] at h
      rw [bnd_ok (hp.ok N L _ hq)]
      exact (hf a).ok N1 L1 r h
  · intro N L h
    cases hq : p N L with
    | error e =>
      rw [bnd_er hq] at h
      injection h with h
      subst h
      exact bnd_er (hp.er N L hq)
    | ok s =>
      obtain ⟨a, N1, L1⟩ := s
      rw [bnd_ok hq] at h
      rw [bnd_ok (hp.ok N L _ hq)]
      exact (hf a).er N1 L1 h
section
variable {most more : Int} (hm : most ≤ more)
include hm
theorem Wid.add (t : Tk) (a : Acc) : Wid (addP most t a) (addP more t a) := by
  unfold addP
  by_cases h : most - a.made < tkSize t
  · rw [if_pos h]
    exact ⟨fun _ _ _ h => by (cases h), fun _ _ h => by (cases h)⟩
  · rw [if_neg h, if_neg (by omega)]
    exact Wid.refl _
theorem Wid.addAll : ∀ (bs : List Nat) (a : Acc), Wid (addAll most bs a) (addAll more bs a)
  | [], _ => Wid.refl _
  | b :: bs, a => Wid.bnd (Wid.add hm ⟨b, 0, 0⟩ a) fun a' => Wid.addAll bs a'
theorem Wid.match_ (ds : List Int) (s : Nat) (a : Acc) : Wid (matchP most ds s a) (matchP more ds s a) := by
  refine Wid.bnd (Wid.refl _) fun len => Wid.bnd (Wid.refl _) fun t => Wid.bnd (Wid.refl _) fun back => ?_
  split
  · exact Wid.refl _
  · exact Wid.add hm _ _
theorem Wid.syms (ls ds : List Int) : ∀ (f : Nat) (a : Acc), Wid (symsP most ls ds f a) (symsP more ls ds f a)
  | 0, _ => Wid.refl _
  | f + 1, a => by
    refine Wid.bnd (Wid.refl _) fun s => ?_
    split
    · exact Wid.refl _
    · refine Wid.bnd ?_ fun a' => Wid.syms ls ds f a'
      split
      · exact Wid.add hm _ _
      · exact Wid.match_ hm _ _ _
theorem Wid.stored (a : Acc) : Wid (storedP most a) (storedP more a) := by
  refine Wid.bnd (Wid.refl _) fun _ => Wid.bnd (Wid.refl _) fun n => ?_
  split
  · exact Wid.bnd (Wid.refl _) fun bs => Wid.addAll hm _ _
  · exact Wid.refl _
theorem Wid.block (t : Nat) (a : Acc) : Wid (blockP most t a) (blockP more t a) := by
  unfold blockP
  split
  · exact Wid.stored hm _
  · split
    · exact Wid.syms hm _ _ _ _
    · split
      · exact Wid.bnd (Wid.refl _) fun c => Wid.syms hm _ _ _ _
      · exact Wid.refl _
theorem Wid.blocks : ∀ (f : Nat) (a : Acc), Wid (blocksP most f a) (blocksP more f a)
  | 0, _ => Wid.refl _
  | f + 1, a => by
    refine Wid.bnd (Wid.refl _) fun h => Wid.bnd (Wid.block hm _ _) fun a' => ?_
    split
    · exact Wid.refl _
    · exact Wid.blocks f a'
theorem tokensP_wide {bs : List Nat} (hc : more ≤ 1048576) {l : List Tk} {n : Nat} (h : tokensP bs most = .ok (l, n)) : tokensP bs more = .ok (l, n) := by
  unfold tokensP at h ⊢
  split at h
  · rename_i h0
    rw [if_pos (by omega)]
    cases hp : blocksP most FUEL ⟨[], 0⟩ (num bs) (8 * bs.length) with
    | error e => rw [hp] at h; cases h
    | ok r => rw [hp] at h; rw [(Wid.blocks hm FUEL ⟨[], 0⟩).ok _ _ _ hp]; exact h
  · cases h
theorem tokensP_wideE {bs : List Nat} (hc : more ≤ 1048576) (h : tokensP bs most = .error 4) : tokensP bs more = .error 4 := by
  unfold tokensP at h ⊢
  split at h
  · rename_i h0
    rw [if_pos (by omega)]
    cases hp : blocksP most FUEL ⟨[], 0⟩ (num bs) (8 * bs.length) with
    | ok r => rw [hp] at h; cases h
    | error e =>
      rw [hp] at h
      injection h with h
      subst h
      rw [(Wid.blocks hm FUEL ⟨[], 0⟩).er _ _ hp]
  · injection h with h
    cases h
theorem expGo_wide : ∀ {l : List Tk} {b x : List Nat}, expGo most l b = .ok x → expGo more l b = .ok x
  | [], b, x, h => h
  | t :: l, b, x, h => by
    rw [expGo] at h ⊢
    split at h
    · cases h
    · rename_i h1
      rw [if_neg h1]
      split at h
      · cases h
      · rename_i h2
        rw [if_neg (by omega)]
        exact expGo_wide h
theorem expandP_wide {l : List Tk} (hc : more ≤ 1048576) {x : List Nat} (h : expandP l most = .ok x) : expandP l more = .ok x := by
  unfold expandP at h ⊢
  split at h
  · rename_i h0
    rw [if_pos (by omega)]
    split at h
    · rename_i h1
      rw [if_pos h1]
      exact expGo_wide hm h
    · cases h
  · cases h
end
theorem inflP_tokE {bs : List Nat} {most E : Int} (h : inflP bs most = .error E) : tokensP bs most = .error E := by
  cases hq : tokensP bs most with
  | error e => rw [inflP_tok hq] at h; injection h with h; rw [h]
  | ok r =>
    obtain ⟨l, n⟩ := r
    obtain ⟨x, -, hx⟩ := tokens_expand hq
    rw [hx] at h
    cases h
theorem inflP_parts {bs : List Nat} {most : Int} {x : List Nat} {n : Nat} (h : inflP bs most = .ok (x, n)) : ∃ l, tokensP bs most = .ok (l, n) ∧ expandP l most = .ok x := by
  cases hq : tokensP bs most with
  | error e => rw [inflP_tok hq] at h; cases h
  | ok r =>
    obtain ⟨l, n'⟩ := r
    obtain ⟨x', hx, hx2⟩ := tokens_expand hq
    rw [hx2] at h
    injection h with h
    injection h with h1 h2
    subst h1 h2
    exact ⟨l, rfl, hx⟩
theorem inflP_more {bs : List Nat} (rest : List Nat) {most : Int} (hb : ∀ b ∈ bs, b < 256) {x : List Nat} {n : Nat} (h : inflP bs most = .ok (x, n)) : inflP (bs ++ rest) most = .ok (x, n) := by
  obtain ⟨l, h1, h2⟩ := inflP_parts h
  exact inflP_ok (tokensP_more hb h1) h2
theorem inflP_moreE {bs : List Nat} (rest : List Nat) {most E : Int} (hb : ∀ b ∈ bs, b < 256) (h : inflP bs most = .error E) (hE : E ≠ 6) : inflP (bs ++ rest) most = .error E := inflP_tok (tokensP_moreE hb (inflP_tokE h) hE)
theorem inflP_wide {bs : List Nat} {most more : Int} (hm : most ≤ more) (hc : more ≤ 1048576) {x : List Nat} {n : Nat} (h : inflP bs most = .ok (x, n)) : inflP bs more = .ok (x, n) := by
  obtain ⟨l, h1, h2⟩ := inflP_parts h
  exact inflP_ok (tokensP_wide hm hc h1) (expandP_wide hm hc h2)
theorem inflP_wideE {bs : List Nat} {most more : Int} (hm : most ≤ more) (hc : more ≤ 1048576) (h : inflP bs most = .error 4) : inflP bs more = .error 4 := inflP_tok (tokensP_wideE hm hc (inflP_tokE h))
end Go.Proofs.Ytnjdnldoopgcpaa
