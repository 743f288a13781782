/- font: the reference's Cut at any font; glyphs appended to an empty row. -/
import Derived.Test.YtldhkhaciflmoaaFontCb
import Derived.Laws.AppendOwnNone
namespace Go.Proofs.Ytldhkhaciflmoaa
open Go.RowKit

theorem rcut_any (wd : Bool) (A : Option Addr) (n c : Nat) (ot : Int) (gs : List Gl) (A2 : Option Addr) (n2 c2 : Nat) (keep : List Int) (w : World) (h : Glyphs w A n c gs) (h2 : IntsAt w A2 n2 c2 keep) (hn : n ≤ 1000000) (hn2 : n2 ≤ 1000000) :
    Calls Try.prog 20 #[.agg #[.bool wd, .slice A n c, .int .i64 ot], .slice A2 n2 c2] w (CutSaid wd ot gs keep w) := by
  cases hk : chkB wd ot gs with
  | false => exact (rcut_bad wd A n c ot gs _ w h hn hk).mono fun e w' ⟨he, hb⟩ => ⟨false, none, 0, 0, 1, he, hb, .inl ⟨hk, rfl, rfl, rfl⟩⟩
  | true => exact (rcut_ok wd A n c ot gs A2 n2 c2 keep w h hk h2 hn hn2).mono fun e w' ⟨A', n', c', he, hg, hb⟩ => ⟨wd, A', n', c', 0, he, hb, .inr ⟨hk, rfl, rfl, hg⟩⟩
theorem gvs_one : ∀ (l : List Gl) (u : Value), u ∈ gvs l → u.oneCell' = true
  | [], u, h => by cases h
  | x :: r, u, h => by
    simp only [gvs, List.mem_cons] at h
    rcases h with rfl | rfl | rfl | h
    · rfl
    · rfl
    · rfl
    · exact gvs_one r u h
theorem gvs_get : ∀ (l : List Gl) (j : Nat) (u : Value), (gvs l)[j]? = some u → ∃ i g, l[i]? = some g ∧ ((j = i * 3 ∧ u = .int .i64 g.code) ∨ (j = i * 3 + 1 ∧ u = .int .i64 g.width) ∨ (j = i * 3 + 2 ∧ u = .string g.text))
  | [], j, u, h => by simp [gvs] at h
  | x :: r, 0, u, h => ⟨0, x, rfl, .inl ⟨rfl, by simp [gvs] at h; exact h.symm⟩⟩
  | x :: r, 1, u, h => ⟨0, x, rfl, .inr (.inl ⟨rfl, by simp [gvs] at h; exact h.symm⟩)⟩
  | x :: r, 2, u, h => ⟨0, x, rfl, .inr (.inr ⟨rfl, by simp [gvs] at h; exact h.symm⟩)⟩
  | x :: r, j + 3, u, h => by
    obtain ⟨i, g, hi, hh⟩ := gvs_get r j u (by simpa [gvs] using h)
    refine ⟨i + 1, g, by simpa using hi, ?_⟩
    rcases hh with ⟨e, eu⟩ | ⟨e, eu⟩ | ⟨e, eu⟩
    · exact .inl ⟨by omega, eu⟩
    · exact .inr (.inl ⟨by omega, eu⟩)
    · exact .inr (.inr ⟨by omega, eu⟩)
theorem wpList_app_gl {ops : Array Oper} {rest : List Oper} {o : Oper} {a : Act} {Q : Exit → Act → World → Prop} {W : World} (hgd : o.guard = none) (s x : Operand)
    (ho : o.op = .call { callee := .builtin .append, args := #[s, x], argTypes := #[22, 22] })
    (g n c : Nat) (A : Option Addr) (gs : List Gl) (hs : a.eval s = .slice (some ⟨g, 0, none⟩) 0 0) (hg : Whole W g 35 #[]) (hx : a.eval x = .slice A n c) (hA : Glyphs W A n c gs) (hz : A = none → n = 0 ∧ c = 0) (hn : n ≤ 1000)
    (h : ∀ A' c' w', Glyphs w' A' n c' gs → (∀ R o, A' = some ⟨R, o, none⟩ → g ≤ R) → Below g W w' → wpList Try.prog ops Q rest (a.put o.dst (.slice A' n c')) w') : wpList Try.prog ops Q (o :: rest) a W := by
  obtain ⟨i0, hi, hz0, hz1, hz2⟩ := info_gl
  have hown : W.ownsRow g 35 3 (.slice (some ⟨g, 0, none⟩) 0 0) 0 [] := ⟨rfl, .inr ⟨g, 0, #[], rfl, Nat.le_refl _, hg, Nat.le_refl _, by unfold maxLen; omega, rfl, rfl⟩⟩
  have lg := hg.lt
  have hlen := hA.len
  cases A with
  | none =>
    obtain ⟨rfl, rfl⟩ := hz rfl
    exact wpList_append_own_none hgd s x _ ho g 35 i0 3 Try.underlying22 hi _ _ _ hs hown hx (h _ _ W ⟨hlen, Nat.le_refl _, by omega, hA.text, fun h => absurd h (by omega)⟩ (fun R o e => by injection e with e; injection e with e; omega) (Below.refl _ _))
  | some ad =>
    refine wpList_append_own _ hgd s x _ ho g 35 i0 (.agg #[.int .i64 0, .int .i64 0, .string ⟨#[]⟩]) 3 32 Try.underlying22 hi hz0 hz1 hz2 rfl (by decide) _ _ _ hs hown ad n c (gvs gs) hx (by rw [gvs_len, hlen]) ?_ (gvs_one gs) (by unfold maxLen; omega) (by omega) (by omega) ?_
    · intro j u hu
      obtain ⟨i, q, hq, hj⟩ := gvs_get gs j u hu
      have hi' := (List.getElem?_eq_some_iff.1 hq).1
      obtain ⟨R, o', e, hR, hc⟩ := hA.at_ (by omega)
      injection e with e
      subst e
      obtain ⟨a0, a1, a2⟩ := hc i q hq
      have hadd : ∀ m, (⟨R, o', none⟩ : Addr).add m = ⟨R, o' + m, none⟩ := fun m => by
        unfold Addr.add
        split
        · subst m; rfl
        · rfl
      rw [hadd]
      rcases hj with ⟨rfl, rfl⟩ | ⟨rfl, rfl⟩ | ⟨rfl, rfl⟩
      · exact a0
      · rw [← Nat.add_assoc]; exact a1
      · rw [← Nat.add_assoc]; exact a2
    · intro v' w' hown' hgrow _
      rw [Nat.zero_add, List.nil_append] at hown'
      obtain ⟨A', c', rfl, hp⟩ := Glyphs.of_own hown' hA.text
      exact h A' c' w' hp (fun R o e => own_low hown' e) ((Below.refl g W).grown hgrow (by omega) (fun k e => by
        have e : some g = some k := e
        injection e with e
        omega))
end Go.Proofs.Ytldhkhaciflmoaa
