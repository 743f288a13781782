/- inflate: the document's examples: pure. -/
import Derived.Test.YtnjdnldoopgcpaaInfV
namespace Go.Proofs.Ytnjdnldoopgcpaa
open Go.RowKit

set_option maxRecDepth 100000 in
theorem ex_abc : inflP [75, 76, 74, 6, 0] 10 = .ok ([97, 98, 99], 5) := by kernel_rfl
set_option maxRecDepth 100000 in
theorem ex_hi : inflP [1, 2, 0, 253, 255, 104, 105] 9 = .ok ([104, 105], 7) := by kernel_rfl
end Go.Proofs.Ytnjdnldoopgcpaa
/- inflate: the tokens that are told may be expanded: pure. -/
namespace Go.Proofs.Ytnjdnldoopgcpaa
open Go.RowKit

structure Good (most : Int) (a : Acc) : Prop where
  ok : a.toks.all okTk = true
  exp : ∃ b, expGo most a.toks [] = .ok b ∧ (b.length : Int) = a.made
theorem expGo_snoc {most : Int} {t : Tk} : ∀ {l : List Tk} {b b' : List Nat}, expGo most l b = .ok b' → t.back ≤ b'.length → tkSize t ≤ most - b'.length → expGo most (l ++ [t]) b = .ok (expTk t b')
  | [], b, b', h, h1, h2 => by
    rw [expGo] at h
    injection h with h
    subst h
    rw [List.nil_append, expGo, if_neg (by omega), if_neg (by omega), expGo]
  | u :: l, b, b', h, h1, h2 => by
    rw [expGo] at h
    rw [List.cons_append, expGo]
    split at h
    · cases h
    · rename_i hn
      rw [if_neg hn]
      split at h
      · cases h
      · rename_i hn2
        rw [if_neg hn2]
        exact expGo_snoc h h1 h2
theorem Good.add {most : Int} {a a' : Acc} {t : Tk} {N L N' L' : Nat} (h : Good most a) (ht : okTk t = true) (hb : t.back ≤ a.made) (hp : addP most t a N L = .ok (a', N', L')) : Good most a' := by
  unfold addP at hp
  split at hp
  · cases hp
  · rename_i hn
    injection hp with hp
    injection hp with hp _
    subst hp
    obtain ⟨b, hb1, hb2⟩ := h.exp
    refine ⟨by rw [List.all_append, h.ok]; simp [ht], expTk t b, expGo_snoc hb1 (by omega) (by omega), ?_⟩
    rw [expTk_len ht b, hb2]
theorem byte_ok {b : Nat} (h : b < 256) : okTk ⟨(b : Int), 0, 0⟩ = true := by
  unfold okTk
  rw [if_pos rfl]
  exact decide_eq_true ⟨rfl, by show (0 : Int) ≤ (b : Int); omega, by show (b : Int) ≤ 255; omega⟩
theorem Good.made0 {most : Int} {a : Acc} (h : Good most a) : 0 ≤ a.made := by
  obtain ⟨b, _, hb⟩ := h.exp
  omega
theorem Good.addAll {most : Int} : ∀ {bs : List Nat} {a a' : Acc} {N L N' L' : Nat}, (∀ b ∈ bs, b < 256) → Good most a → addAll most bs a N L = .ok (a', N', L') → Good most a'
  | [], a, a', N, L, N', L', _, h, hp => by
    injection hp with hp
    injection hp with hp _
    subst hp
    exact h
  | b :: bs, a, a', N, L, N', L', hb, h, hp => by
    rw [Go.Proofs.Ytnjdnldoopgcpaa.addAll] at hp
    cases hq : addP most ⟨b, 0, 0⟩ a N L with
    | error e => rw [bnd_er hq] at hp; cases hp
    | ok r =>
      obtain ⟨a1, N1, L1⟩ := r
      rw [bnd_ok hq] at hp
      exact Good.addAll (fun x hx => hb x (List.mem_cons_of_mem _ hx)) (h.add (byte_ok (hb b (by simp))) (by have := h.made0; exact this) hq) hp
theorem number_in {tb : List (Nat × Nat)} {s N L v N' L' lo hi : Nat} (hb : ∀ p ∈ tb, lo ≤ p.1 ∧ p.1 + 2 ^ p.2 ≤ hi + 1) (h : numberP tb s N L = .ok (v, N', L')) : lo ≤ v ∧ v ≤ hi := by
  unfold numberP at h
  cases hq : tb[s]? with
  | none => rw [hq] at h; cases h
  | some p =>
    rw [hq] at h
    obtain ⟨h1, h2⟩ := hb p (List.mem_of_getElem? hq)
    by_cases hk : p.2 ≤ L
    · have e : bitsP p.2 N L = .ok (N % 2 ^ p.2, N / 2 ^ p.2, L - p.2) := by unfold bitsP; rw [if_pos hk]
      simp only [bnd_ok e] at h
      injection h with h
      injection h with h _
      have := Nat.mod_lt N (Nat.two_pow_pos p.2)
      omega
    · have e : bitsP p.2 N L = .error 6 := by unfold bitsP; rw [if_neg hk]
      simp only [bnd_er e] at h
      cases h
theorem len_in : ∀ p ∈ lensT, 3 ≤ p.1 ∧ p.1 + 2 ^ p.2 ≤ 258 + 1 := by decide +kernel
theorem dist_in : ∀ p ∈ distT, 1 ≤ p.1 ∧ p.1 + 2 ^ p.2 ≤ 32768 + 1 := by decide +kernel
theorem Good.match_ {most : Int} {ds : List Int} {s : Nat} {a a' : Acc} {N L N' L' : Nat} (h : Good most a) (hp : matchP most ds s a N L = .ok (a', N', L')) : Good most a' := by
  unfold matchP at hp
  cases h1 : numberP lensT s N L with
  | error e => rw [bnd_er h1] at hp; cases hp
  | ok r1 =>
    obtain ⟨len, N1, L1⟩ := r1
    rw [bnd_ok h1] at hp
    cases h2 : readP ds N1 L1 with
    | error e => rw [bnd_er h2] at hp; cases hp
    | ok r2 =>
      obtain ⟨t, N2, L2⟩ := r2
      rw [bnd_ok h2] at hp
      cases h3 : numberP distT t N2 L2 with
      | error e => rw [bnd_er h3] at hp; cases hp
      | ok r3 =>
        obtain ⟨back, N3, L3⟩ := r3
        rw [bnd_ok h3] at hp
        split at hp
        · cases hp
        · rename_i hn
          obtain ⟨a1, a2⟩ := number_in len_in h1
          obtain ⟨b1, b2⟩ := number_in dist_in h3
          refine h.add ?_ (by show (back : Int) ≤ a.made; omega) hp
          unfold okTk
          rw [if_neg (by show ¬ (len : Int) = 0; omega)]
          exact decide_eq_true ⟨rfl, by show (3 : Int) ≤ (len : Int); omega, by show (len : Int) ≤ 258; omega, by show (1 : Int) ≤ (back : Int); omega, by show (back : Int) ≤ 32768; omega⟩
theorem Good.syms {most : Int} {ls ds : List Int} : ∀ {f : Nat} {a a' : Acc} {N L N' L' : Nat}, Good most a → symsP most ls ds f a N L = .ok (a', N', L') → Good most a'
  | 0, a, a', N, L, N', L', _, hp => by cases hp
  | f + 1, a, a', N, L, N', L', h, hp => by
    rw [symsP] at hp
    cases h1 : readP ls N L with
    | error e => rw [bnd_er h1] at hp; cases hp
    | ok r1 =>
      obtain ⟨s, N1, L1⟩ := r1
      rw [bnd_ok h1] at hp
      split at hp
      · injection hp with hp
        injection hp with hp _
        subst hp
        exact h
      · cases h2 : (if s < 256 then addP most ⟨s, 0, 0⟩ a else matchP most ds (s - 257) a) N1 L1 with
        | error e => rw [bnd_er h2] at hp; cases hp
        | ok r2 =>
          obtain ⟨a2, N2, L2⟩ := r2
          rw [bnd_ok h2] at hp
          refine Good.syms ?_ hp
          split at h2
          · rename_i hs
            exact h.add (byte_ok hs) (by have := h.made0; exact this) h2
          · exact h.match_ h2
theorem Good.stored {most : Int} {a a' : Acc} {N L N' L' : Nat} (h : Good most a) (hp : storedP most a N L = .ok (a', N', L')) : Good most a' := by
  unfold storedP at hp
  rw [bnd_ok (show alignP N L = .ok ((), _, _) from rfl)] at hp
  cases h1 : fieldsP [16, 16] (N / 2 ^ (L % 8)) (L - L % 8) with
  | error e => rw [bnd_er h1] at hp; cases hp
  | ok r1 =>
    obtain ⟨n, N1, L1⟩ := r1
    rw [bnd_ok h1] at hp
    split at hp
    · cases h2 : bytesP (n.getD 0 0) N1 L1 with
      | error e => rw [bnd_er h2] at hp; cases hp
      | ok r2 =>
        obtain ⟨bs, N2, L2⟩ := r2
        rw [bnd_ok h2] at hp
        refine Good.addAll ?_ h hp
        unfold bytesP at h2
        split at h2
        · injection h2 with h2
          injection h2 with h2 _
          subst h2
          intro b hb
          obtain ⟨j, -, rfl⟩ := List.mem_map.1 hb
          exact digit_lt _ _
        · cases h2
    · cases hp
theorem Good.block {most : Int} {t : Nat} {a a' : Acc} {N L N' L' : Nat} (h : Good most a) (hp : blockP most t a N L = .ok (a', N', L')) : Good most a' := by
  unfold blockP at hp
  split at hp
  · exact h.stored hp
  · split at hp
    · exact h.syms hp
    · split at hp
      · cases h1 : dynP N L with
        | error e => rw [bnd_er h1] at hp; cases hp
        | ok r =>
          obtain ⟨c, N1, L1⟩ := r
          rw [bnd_ok h1] at hp
          exact h.syms hp
      · cases hp
theorem Good.blocks {most : Int} : ∀ {f : Nat} {a a' : Acc} {N L N' L' : Nat}, Good most a → blocksP most f a N L = .ok (a', N', L') → Good most a'
  | 0, a, a', N, L, N', L', _, hp => by cases hp
  | f + 1, a, a', N, L, N', L', h, hp => by
    rw [blocksP] at hp
    cases h1 : fieldsP [1, 2] N L with
    | error e => rw [bnd_er h1] at hp; cases hp
    | ok r =>
      obtain ⟨hd, N1, L1⟩ := r
      rw [bnd_ok h1] at hp
      cases h2 : blockP most (hd.getD 1 0) a N1 L1 with
      | error e => rw [bnd_er h2] at hp; cases hp
      | ok r2 =>
        obtain ⟨a2, N2, L2⟩ := r2
        rw [bnd_ok h2] at hp
        have hg := h.block h2
        split at hp
        · injection hp with hp
          injection hp with hp _
          subst hp
          exact hg
        · exact Good.blocks hg hp
theorem tokens_expand {bs : List Nat} {most : Int} {l : List Tk} {n : Nat} (h : tokensP bs most = .ok (l, n)) : ∃ x, expandP l most = .ok x ∧ inflP bs most = .ok (x, n) := by
  have h0 := h
  unfold tokensP at h
  split at h
  · rename_i hm
    cases hb : blocksP most FUEL ⟨[], 0⟩ (num bs) (8 * bs.length) with
    | error e => rw [hb] at h; cases h
    | ok r =>
      obtain ⟨a, N, L⟩ := r
      rw [hb] at h
      injection h with h
      injection h with h1 h2
      subst h1 h2
      obtain ⟨hok, b, hb1, -⟩ := Good.blocks (⟨rfl, [], rfl, rfl⟩ : Good most ⟨[], 0⟩) hb
      have e : expandP a.toks most = .ok b := by unfold expandP; rw [if_pos hm, if_pos hok]; exact hb1
      exact ⟨b, e, inflP_ok h0 e⟩
  · cases h
end Go.Proofs.Ytnjdnldoopgcpaa
