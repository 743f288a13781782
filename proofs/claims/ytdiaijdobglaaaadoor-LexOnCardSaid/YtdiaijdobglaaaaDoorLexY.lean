/- What Next answers, once more behind what was read: pure; and an append of bytes. -/
import Derived.Test.YtdiaijdobglaaaaDoorLexU
import Derived.Laws.AppendOwnNone
namespace Go.Proofs.YtdiaijdobglaaaaDoor
open Go.RowKit

theorem nextG_end {g q : List Nat} {t : TokV} (h : nextG PN g = (0, t, q)) (hk : t.kind = 0) : q = [] := by
  unfold nextG at h
  split at h
  · rename_i h0
    injection h with _ h
    injection h with _ h
    rw [← h]
    exact List.eq_nil_of_length_eq_zero h0
  split at h
  · unfold plainL at h
    split at h
    · injection h with _ h
      injection h with h _
      rw [← h] at hk
      simp at hk
    · rename_i he
      split at h
      · exact absurd (err_no h) he
      · split at h
        · exact absurd (err_no h) (by decide)
        · injection h with _ h
          injection h with h _
          rw [← h] at hk
          simp at hk
  split at h
  · rw [(mark_on h).2] at hk; simp at hk
  split at h
  · rw [(mark_on h).2] at hk; simp at hk
  split at h
  · obtain ⟨a, _, rfl, _, _⟩ := lim_on h
    simp at hk
  split at h
  · obtain ⟨a, _, rfl, _, _⟩ := lim_on h
    simp at hk
  split at h
  · split at h
    · rw [(mark_on h).2] at hk; simp at hk
    · obtain ⟨a, _, rfl, _, _⟩ := lim_on h
      simp at hk
  split at h
  · split at h
    · rw [(mark_on h).2] at hk; simp at hk
    · exact absurd (err_no h) (by decide)
  exact absurd (err_no h) (by decide)
theorem next_err {bs : List Nat} {a e p : Int} {t : TokV} (h : nextI bs a = (e, t, p)) (he : e ≠ 0) : t = noTok ∧ p = 0 := by
  unfold nextI at h
  split at h
  · injection h with _ h
    injection h with h1 h2
    exact ⟨h1.symm, h2.symm⟩
  · split at h
    · injection h with h _
      exact absurd h.symm he
    · injection h with _ h
      injection h with h1 h2
      exact ⟨h1.symm, h2.symm⟩
theorem next_ok {bs : List Nat} {a p : Int} {t : TokV} (h : nextI bs a = (0, t, p)) : ∃ (i : Nat) (q : List Nat), a = (i : Int) ∧ i ≤ bs.length ∧ nextL PN (bs.drop i) = (0, t, q) ∧ p = (bs.length : Int) - (q.length : Int) := by
  unfold nextI at h
  split at h
  · injection h with h _
    exact absurd h (by decide)
  · rename_i hr
    split at h
    · rename_i h0
      injection h with _ h
      injection h with h1 h2
      refine ⟨a.toNat, (nextL PN (bs.drop a.toNat)).2.2, by omega, by omega, ?_, h2.symm⟩
      rw [← h1]
      exact Prod.ext h0 rfl
    · rename_i h0
      injection h with h _
      exact absurd h h0
theorem valid_len {t : TokV} (h : validB t = true) (hb : ∀ c ∈ t.text, c < 256) : t.text.length ≤ 65535 := by
  have r := right_of h hb
  have hr := r.range
  by_cases k1 : t.kind = 1
  · rw [(r.num k1).2]; simp
  by_cases k2 : t.kind = 2
  · exact (r.name k2).1
  by_cases k3 : t.kind = 3
  · exact r.text k3
  by_cases k4 : t.kind = 4
  · have := (r.word k4).2.1; omega
  · rw [r.mark (by omega)]; simp
/-- A token was read: where it ends; and it is read again with other bytes behind white behind it. -/
theorem on_fact {bs ms : List Nat} {a p : Int} {t : TokV} (h : nextI bs a = (0, t, p)) (hb : ∀ c ∈ bs, c < 256) :
    validB t = true ∧ (∀ c ∈ t.text, c < 256) ∧ ∃ i k : Nat, a = (i : Int) ∧ p = (k : Int) ∧ i ≤ k ∧ k ≤ bs.length ∧ (t.kind ≠ 0 → i ≠ k ∧ nextI (bs.take k ++ [32] ++ ms) a = (0, t, p)) := by
  obtain ⟨i, q, rfl, hi, hn, rfl⟩ := next_ok h
  obtain ⟨g1, g2⟩ := next_good hn (fun c hc => hb c (List.mem_of_mem_drop hc))
  refine ⟨g1, g2, i, bs.length - q.length, rfl, ?_⟩
  by_cases hk : t.kind = 0
  · have hq : q = [] := nextG_end hn hk
    subst hq
    exact ⟨by simp, by simpa using hi, by simp, fun h => absurd hk h⟩
  · obtain ⟨pp, hne, e1, e2⟩ := next_on hn hk
    have hl := congrArg List.length e1
    rw [List.length_drop, List.length_append] at hl
    have hp1 : 0 < pp.length := by cases pp with | nil => exact absurd rfl hne | cons _ _ => simp
    have hX : (bs.take i).length = i := by rw [List.length_take]; omega
    have hbs : bs = bs.take i ++ pp ++ q := by rw [List.append_assoc, ← e1, List.take_append_drop]
    have htk : bs.take (bs.length - q.length) = bs.take i ++ pp := by
      conv => lhs; rw [hbs]
      exact List.take_left' (by rw [List.length_append, hX]; simp; omega)
    refine ⟨by omega, by omega, by omega, fun _ => ⟨by omega, ?_⟩⟩
    rw [htk]
    have hd : (bs.take i ++ pp ++ [32] ++ ms).drop i = pp ++ 32 :: ms := by
      rw [List.append_assoc, List.append_assoc, List.drop_left' hX]
      simp
    have hlen : (bs.take i ++ pp ++ [32] ++ ms).length = i + pp.length + 1 + ms.length := by simp only [List.length_append, hX, List.length_cons, List.length_nil]
    unfold nextI
    rw [hlen, if_neg (by omega), show ((i : Int).toNat) = i by omega, hd, e2 32 ms rfl, if_pos rfl]
    simp only [List.length_cons]
    congr 2
    omega
theorem grown_refl (w : World) (row : Option Nat) : w.grownBy w row := ⟨rfl, rfl, rfl, Nat.le_refl _, fun _ _ _ => rfl⟩
set_option maxRecDepth 100000 in
/-- Bytes appended to a row of one's own. -/
theorem app_bytes {w : World} {ops : Array Oper} {rest : List Oper} {o : Oper} {a : Act} {Q : Exit → Act → World → Prop} (hgd : o.guard = none) (s x : Operand)
    (ho : o.op = .call { callee := .builtin .append, args := #[s, x], argTypes := #[30, 30] }) (base : Nat)
    (v : Value) (n : Nat) (xs : List Value) (hs : a.eval s = v) (hown : w.ownsRow base 5 1 v n xs) (A : Option Addr) (m c : Nat) (bs : List Nat) (hx : a.eval x = .slice A m c) (hb : Bytes w A m c bs) (hnil : A = none → c = 0)
    (h63 : n + m ≤ 1000000) (hbase : base ≤ w.heap.size)
    (h : ∀ v' w', w'.ownsRow base 5 1 v' (n + m) (xs ++ bvs bs) → w.grownBy w' v.ownBlock → wpList Tryd.prog ops Q rest (a.put o.dst v') w') : wpList Tryd.prog ops Q (o :: rest) a w := by
  obtain ⟨i0, hi, hz0, hz1, hz2⟩ := info_parts info8
  cases A with
  | none =>
    obtain rfl := hnil rfl
    obtain rfl : m = 0 := by have := hb.cap; omega
    obtain rfl : bs = [] := List.eq_nil_of_length_eq_zero hb.len
    refine wpList_append_own_none hgd s x 30 ho base 5 i0 1 Tryd.underlying30 hi v n xs hs hown hx (h v w ?_ (grown_refl _ _))
    simpa [bvs] using hown
  | some ad =>
    refine wpList_append_own w hgd s x 30 ho base 5 i0 (.int .u8 0) 1 1 Tryd.underlying30 hi hz0 hz1 hz2 rfl (by decide) v n xs hs hown ad m c (bvs bs) hx (by rw [bvs_length, hb.len]; omega) ?_ (bvs_one bs) (by unfold maxLen; omega) (by omega) hbase (fun v' w' h1 h2 _ => h v' w' h1 h2)
    intro j u hj
    by_cases hm : m = 0
    · have : bs = [] := List.eq_nil_of_length_eq_zero (by rw [hb.len, hm])
      rw [this] at hj
      simp [bvs] at hj
    · obtain ⟨R, o', e, hR, hc⟩ := hb.at_ (by omega)
      injection e with e
      subst e
      unfold bvs at hj
      rw [List.getElem?_map] at hj
      obtain ⟨b, hb1, rfl⟩ := Option.map_eq_some_iff.1 hj
      have := hc j b hb1
      unfold Addr.add
      split
      · subst j; exact this
      · exact this
end Go.Proofs.YtdiaijdobglaaaaDoor
