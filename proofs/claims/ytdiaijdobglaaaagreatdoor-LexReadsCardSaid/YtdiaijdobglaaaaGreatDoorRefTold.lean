/- The walk of the reference's told. -/
import Derived.Test.YtdiaijdobglaaaaGreatDoorRefDigit
import Derived.Test.YtdiaijdobglaaaaGreatDoorDecSettle
import Derived.Laws.AppendOwnNone
namespace Go.Proofs.YtdiaijdobglaaaaGreatDoor
open Go.RowKit Dec

/-- The number of a row of digits, the lowest first. -/
def num : List Int → Nat
  | [] => 0
  | d :: l => d.toNat + 10 * num l

def Digs (ds : List Int) : Prop := ∀ d ∈ ds, 0 ≤ d ∧ d ≤ 9

theorem own_reads {w : World} {b : Nat} {v : Value} {ds : List Int} (h : w.ownsRow b 3 1 v ds.length (ds.map (Value.int .i64))) : ReadsD w v ds := by
  rcases h.2 with ⟨rfl, h0⟩ | ⟨g, c, cur, rfl, hb, hg, hc, hm, hs, ht⟩
  · obtain rfl : ds = [] := List.length_eq_zero_iff.1 h0
    exact ⟨none, 0, rfl, Nat.le_refl _, fun h => absurd rfl h⟩
  · refine ⟨_, c, rfl, hc, fun _ => ⟨g, 0, rfl, fun j d hj => ?_⟩⟩
    have := h.cells (g := g) rfl j (.int .i64 d) (by rw [List.getElem?_map, hj]; rfl)
    have ha : (⟨g, 0, none⟩ : Addr).add j = ⟨g, j, none⟩ := by unfold Addr.add; split <;> simp_all
    rw [ha] at this
    simpa using this

theorem reads_below {w w' : World} {v : Value} {ds : List Int} (h : ReadsD w v ds) (hb : Below w.heap.size w w') : ReadsD w' v ds := by
  obtain ⟨a, c, rfl, hc, hr⟩ := h
  refine ⟨a, c, rfl, hc, fun hne => ?_⟩
  obtain ⟨g, o, rfl, hcell⟩ := hr hne
  refine ⟨g, o, rfl, fun j d hj => ?_⟩
  have h1 := hcell j d hj
  have hlt : g < w.heap.size := by
    rcases Nat.lt_or_ge g w.heap.size with h | h
    · exact h
    · exfalso; simp [World.cell?, Array.getElem?_eq_none h] at h1
  rw [hb.cell (p := ⟨g, o + j, none⟩) hlt]; exact h1

/-- A row that can be appended: nil, or at an address. -/
def Row (w : World) (v : Value) (ds : List Int) : Prop :=
  (v = .slice none 0 0 ∧ ds = []) ∨ ∃ g o c, v = .slice (some ⟨g, o, none⟩) ds.length c ∧ ds.length ≤ c ∧ ∀ j d, ds[j]? = some d → w.cell? ⟨g, o + j, none⟩ = some (.int .i64 d)

theorem num_mod {d : Int} {l : List Int} (h : 0 ≤ d ∧ d ≤ 9) : num (d :: l) % 10 = d.toNat ∧ num (d :: l) / 10 = num l := by
  show (d.toNat + 10 * num l) % 10 = _ ∧ (d.toNat + 10 * num l) / 10 = _
  omega
theorem Digs.tail {ds : List Int} (h : Digs ds) : Digs ds.tail := fun d hd => h d (List.mem_of_mem_tail hd)
theorem strip_row {k : Nat} {ds : List Int} (hD : Digs ds) (h : digitAt ds 0 = 0) (hk : 0 < k) : strip k (num ds) = strip (k - 1) (num ds.tail) := by
  obtain ⟨k, rfl⟩ : ∃ q, k = q + 1 := ⟨k - 1, by omega⟩
  cases ds with
  | nil => exact strip_go k 0 rfl
  | cons d l =>
    obtain ⟨h1, h2⟩ := num_mod (l := l) (hD d (by simp))
    have h0 : d = 0 := h
    rw [strip_go _ _ (by rw [h1, h0]; rfl), h2]; rfl
theorem strip_end {k : Nat} {ds : List Int} (hD : Digs ds) (h : ¬ (0 < k ∧ digitAt ds 0 = 0)) : strip k (num ds) = (num ds, k) := by
  cases k with
  | zero => rfl
  | succ k =>
    cases ds with
    | nil => exact absurd ⟨Nat.succ_pos _, rfl⟩ h
    | cons d l =>
      have hd := hD d (by simp)
      obtain ⟨h1, h2⟩ := num_mod (l := l) hd
      have h0 : d ≠ 0 := fun e => h ⟨Nat.succ_pos _, e⟩
      exact strip_stop _ _ (by rw [h1]; omega)
theorem reads_tail {w : World} {g o c : Nat} {ds : List Int} (h : ReadsD w (.slice (some ⟨g, o, none⟩) ds.length c) ds) (hne : ds ≠ []) :
    ReadsD w (.slice (if c = 1 then some ⟨g, o, none⟩ else some ⟨g, o + 1, none⟩) (ds.length - 1) (c - 1)) ds.tail := by
  obtain ⟨a, c', e, hc, hr⟩ := h
  cases e
  obtain ⟨g', o', e, hcell⟩ := hr hne
  cases e
  cases ds with
  | nil => exact absurd rfl hne
  | cons d l =>
    simp only [List.length_cons] at hc ⊢
    refine ⟨_, _, rfl, by simp; omega, fun hl => ?_⟩
    have : l.length ≠ 0 := fun e => hl (List.length_eq_zero_iff.1 e)
    refine ⟨g, o + 1, if_neg (by omega), fun j x hj => ?_⟩
    have := hcell (j + 1) x hj
    rw [show o + 1 + j = o + (j + 1) by omega]; exact this
theorem reads_init {w : World} {a : Option Addr} {c : Nat} {ds : List Int} (h : ReadsD w (.slice a ds.length c) ds) : ReadsD w (.slice a (ds.length - 1) c) ds.dropLast := by
  obtain ⟨a', c', e, hc, hr⟩ := h
  cases e
  refine ⟨a, c, by rw [List.length_dropLast], by rw [List.length_dropLast]; omega, fun hne => ?_⟩
  obtain ⟨g, o, rfl, hcell⟩ := hr (by intro e; subst e; exact hne rfl)
  refine ⟨g, o, rfl, fun j x hj => hcell j x ?_⟩
  rw [List.dropLast_eq_take] at hj
  rw [List.getElem?_take] at hj
  split at hj
  · exact hj
  · cases hj
theorem num_append (a b : List Int) : num (a ++ b) = num a + 10 ^ a.length * num b := by
  induction a with
  | nil => simp [num]
  | cons d l ih => simp only [List.cons_append, num, ih, List.length_cons, Nat.pow_succ]; rw [Nat.mul_add, Nat.mul_comm (10 ^ _) 10, Nat.mul_assoc]; omega
theorem num_lt : ∀ {ds : List Int}, Digs ds → num ds < 10 ^ ds.length := by
  intro ds
  induction ds with
  | nil => intro _; exact Nat.one_pos
  | cons d l ih =>
    intro h
    have h1 := ih (fun x hx => h x (by simp [hx]))
    have h2 := h d (by simp)
    simp only [num, List.length_cons, Nat.pow_succ]
    omega
/-- A nought at the end is struck. -/
theorem num_init {ds : List Int} (hne : ds ≠ []) (h : ds.getD (ds.length - 1) 0 = 0) : num ds.dropLast = num ds := by
  have h1 := List.dropLast_concat_getLast hne
  have h2 : ds.getLast hne = 0 := by
    rw [List.getLast_eq_getElem]
    rw [List.getD, List.getElem?_eq_getElem (by have := List.length_pos_iff.2 hne; omega)] at h
    exact h
  have h3 := num_append ds.dropLast [ds.getLast hne]
  rw [h1, h2] at h3
  simp [num] at h3
  exact h3.symm
theorem num_ge {ds : List Int} (hD : Digs ds) (hne : ds ≠ []) (h : ds.getD (ds.length - 1) 0 ≠ 0) : 10 ^ (ds.length - 1) ≤ num ds := by
  have h1 := List.dropLast_concat_getLast hne
  have h2 : ds.getLast hne ≠ 0 := by
    rw [List.getLast_eq_getElem]
    rw [List.getD, List.getElem?_eq_getElem (by have := List.length_pos_iff.2 hne; omega)] at h
    exact h
  have h3 := num_append ds.dropLast [ds.getLast hne]
  rw [h1, List.length_dropLast] at h3
  have h4 := hD _ (List.getLast_mem hne)
  have h5 : 1 ≤ num [ds.getLast hne] := by show 1 ≤ (ds.getLast hne).toNat + 10 * 0; omega
  calc 10 ^ (ds.length - 1) = 10 ^ (ds.length - 1) * 1 := (Nat.mul_one _).symm
    _ ≤ 10 ^ (ds.length - 1) * num [ds.getLast hne] := Nat.mul_le_mul_left _ h5
    _ ≤ num ds := by omega
theorem Digs.init {ds : List Int} (h : Digs ds) : Digs ds.dropLast := fun d hd => h d (List.mem_of_mem_take (List.dropLast_eq_take ▸ hd))
theorem num_drop {ds : List Int} {p : Nat} (h : p < ds.length) : num (ds.drop p) = (ds.getD p 0).toNat + 10 * num (ds.drop (p + 1)) := by
  rw [List.drop_eq_getElem_cons h, List.getD, List.getElem?_eq_getElem h]; rfl
theorem Digs.drop {ds : List Int} (h : Digs ds) (k : Nat) : Digs (ds.drop k) := fun d hd => h d (List.mem_of_mem_drop hd)
theorem Digs.at {ds : List Int} (h : Digs ds) {p : Nat} (hp : p < ds.length) : 0 ≤ ds.getD p 0 ∧ ds.getD p 0 ≤ 9 := by
  rw [List.getD, List.getElem?_eq_getElem hp]; exact h _ (List.getElem_mem hp)
theorem num_bound {ds : List Int} (h : Digs ds) {k : Nat} (hk : ds.length ≤ k) : num ds < 10 ^ k := Nat.lt_of_lt_of_le (num_lt h) (Nat.pow_le_pow_right (by decide) hk)
theorem told_ok {b : Bool} {ds ds' d2 : List Int} {s k : Nat} {V : Int} (hV : V = if b = true then -(num ds : Int) else (num ds : Int)) (hst : strip s (num ds) = (num ds', k)) (hn : num d2 = num ds') (hD : Digs d2) (hl : d2.length ≤ 18) (hk : k ≤ 9) :
    Denotes V s (if b = true then -(num d2 : Int) else (num d2 : Int)) k 0 := by
  have hb := num_bound hD hl
  cases b
  · refine den_strip (n := num ds) (by rw [hV]; simp) ?_ (.inr ⟨by rw [hV]; simp, by simp⟩) (by rw [hst]) ?_ hk
    · rw [hst]; simpa using hn
    · simp; omega
  · refine den_strip (n := num ds) (by rw [hV]; simp) ?_ (.inl ⟨by rw [hV]; simp, by simp⟩) (by rw [hst]) ?_ hk
    · rw [hst]; simpa using hn
    · simp; omega
theorem told_over {b : Bool} {ds ds' d2 : List Int} {s k : Nat} {V : Int} (hV : V = if b = true then -(num ds : Int) else (num ds : Int)) (hst : strip s (num ds) = (num ds', k)) (hn : num d2 = num ds') (hD : Digs d2) (hend : d2.length = 0 ∨ d2.getD (d2.length - 1) 0 ≠ 0)
    (h : 18 < d2.length ∨ 9 < k) : Denotes V s 0 0 5 := by
  refine den_over (n := num ds) (by rw [hV]; cases b <;> simp) ?_
  rw [hst]
  rcases h with h | h
  · left
    have hne : d2 ≠ [] := by intro e; subst e; simp at h
    have h1 := num_ge hD hne (hend.resolve_left (by omega))
    have h2 : 10 ^ 18 ≤ 10 ^ (d2.length - 1) := Nat.pow_le_pow_right (by decide) (by omega)
    show 999999999999999999 < num ds'
    omega
  · exact .inr h
def lenOf : Value → Nat | .slice _ n _ => n | _ => 0

theorem src_cells {w w' : World} {g o : Nat} {ds : List Int} (h : ∀ j d, ds[j]? = some d → w.cell? ⟨g, o + j, none⟩ = some (.int .i64 d)) (hb : Below w.heap.size w w') :
    ∀ j u, (ds.map (Value.int .i64))[j]? = some u → w'.cell? ((⟨g, o, none⟩ : Addr).add j) = some u := by
  intro j u hj
  rw [List.getElem?_map] at hj
  cases hd : ds[j]? with
  | none => rw [hd] at hj; cases hj
  | some d =>
    rw [hd] at hj
    cases hj
    have h1 := h j d hd
    have ha : (⟨g, o, none⟩ : Addr).add j = ⟨g, o + j, none⟩ := by unfold Addr.add; split <;> simp_all
    have hlt : g < w.heap.size := by
      rcases Nat.lt_or_ge g w.heap.size with h | h
      · exact h
      · exfalso; simp [World.cell?, Array.getElem?_eq_none h] at h1
    rw [ha, hb.cell (p := ⟨g, o + j, none⟩) hlt]; exact h1

set_option maxRecDepth 100000 in
set_option maxHeartbeats 1000000 in
theorem told_any (b : Bool) (v : Value) (ds : List Int) (s : Nat) (V : Int) (w : World) (hv : Row w v ds) (hd : Digs ds) (hl : ds.length ≤ 1000) (hs : s ≤ 1000)
    (hV : V = if b then -(num ds : Int) else num ds) :
    Calls Tryz.prog 41 #[.agg #[.bool b, v, .int .i64 s]] w (IsTold V s w) := by
  obtain ⟨i0, hi, hz0, hz1, hz2⟩ := info_parts info3
  have HV := Lib.hid hV
  have HD := Lib.hid hd
  clear hV hd
  rcases hv with ⟨rfl, hds⟩ | ⟨g, o, c, rfl, hc, hr⟩
  · go_enter Tryz.func41, Tryz.ntmps41
    go_wp2_with (first | (at_builtin; refine wpList_append_own_none rfl _ _ 61 rfl (w.heap.size + 1 + 1) 3 i0 1 Tryz.underlying61 hi (.slice none 0 0) 0 [] rfl (World.ownsRow_nil _ _ _ _) rfl ?_))
    · obtain ⟨w1, hw1⟩ : ∃ w1, w1 = (((w.alloc (Obj.cells #[.bool b, .slice none 0 0, .int .i64 s] 64)).alloc (Obj.cells #[.int .i64 0, .int .i64 0] 25))) := ⟨_, rfl⟩
      rw [← hw1]
      have HB : Hid (Below w.heap.size w w1) := by
        show Below _ _ _
        rw [hw1]
        exact (((Below.refl _ _).alloc (Nat.le_refl _) _).alloc (by simp) _)
      have r0 : w1.cell? ⟨w.heap.size + 1, 0, none⟩ = some (.int .i64 0) := by rw [hw1]; go_simp
      have r1 : w1.cell? ⟨w.heap.size + 1, 1, none⟩ = some (.int .i64 0) := by rw [hw1]; go_simp
      have z0 : w1.frozen? ⟨w.heap.size + 1, 0, none⟩ = false := by rw [hw1]; go_simp
      have z1 : w1.frozen? ⟨w.heap.size + 1, 1, none⟩ = false := by rw [hw1]; go_simp
      have e1 : w1.cell? ⟨w.heap.size, 2, none⟩ = some (.int .i64 s) := by rw [hw1]; go_simp
      have e2 : w1.cell? ⟨w.heap.size, 0, none⟩ = some (.bool b) := by rw [hw1]; go_simp
      have HR : Hid (ReadsD w1 (.slice none 0 0) ds) := by
        show ReadsD _ _ _
        rw [hds]
        exact ⟨none, 0, rfl, Nat.le_refl _, fun h => absurd rfl h⟩
      clear hw1 hds
      go_loop [4, 5] (fun l t => ∃ (ds' : List Int) (K : Int) (k : Nat), t = .int .i64 K ∧ Hid (K = k) ∧ 0 ≤ K ∧ k ≤ s ∧ Hid (ReadsD w1 l ds') ∧ ds'.length ≤ 1000 ∧ Hid (Digs ds') ∧ Hid (strip s (num ds) = strip k (num ds'))) (fun _ t => (intOf t).toNat)
      case atStart => exact ⟨ds, s, s, rfl, rfl, by omega, Nat.le_refl _, HR, hl, HD, rfl⟩
      case round =>
        obtain ⟨ds', K, k, rfl, HK, hK0, hk, hrd, hl', hD', hst⟩ := hrel
        have hK1 : K ≤ 1000 := by have := HK.out; omega
        by_cases hgo : 0 < k ∧ digitAt ds' 0 = 0
        · obtain ⟨hk0, hd0⟩ := hgo
          have hk1 : 0 < K := by have := HK.out; omega
          obtain ⟨a, c', rfl, hc', hcell⟩ := id hrd.out
          have hend : Hid (strip s (num ds) = strip (k - 1) (num ds'.tail)) := hst.out.trans (strip_row hD'.out hd0 hk0)
          by_cases hne : ds' = []
          · subst hne
            clear hst
            go_wp2_with (go_at_call 52; refine (digit_ok _ [] 0 _ hrd.out (by simp)).mono ?_; rintro e w' ⟨rfl, rfl⟩)
            refine ⟨⟨[], K - 1, k - 1, rfl, by have := HK.out; show _ = _; omega, by omega, by omega, hrd, by simp, hD', hend⟩, ?_⟩
            simp only [intOf]; omega
          · have hpos : 0 < ds'.length := by cases ds' with | nil => exact absurd rfl hne | cons => simp
            have hpos1 : 0 < (ds'.length : Int) := by omega
            obtain ⟨g', o', rfl, hcl⟩ := hcell hne
            clear hst
            go_wp2_with (go_at_call 52; refine (digit_ok _ ds' 0 _ hrd.out (by omega)).mono ?_; rintro e w' ⟨rfl, rfl⟩)
            refine ⟨⟨ds'.tail, K - 1, k - 1, rfl, by have := HK.out; show _ = _; omega, by omega, by omega, reads_tail hrd.out hne, by simp; omega, hD'.out.tail, hend⟩, ?_⟩
            simp only [intOf]; omega
        · have hst' : Hid (strip s (num ds) = (num ds', k)) := hst.out.trans (strip_end hD'.out hgo)
          clear hst HR
          by_cases hk0 : k = 0
          · have hk1 : ¬ 0 < K := by have := HK.out; omega
            clear hgo hk0
            go_wp2
            go_loop [4] (fun l => ∃ (d2 : List Int), Hid (ReadsD w1 l d2) ∧ d2.length ≤ 1000 ∧ Hid (Digs d2) ∧ Hid (num d2 = num ds')) (fun l => lenOf l)
            case atStart => exact ⟨ds', hrd, hl', hD', rfl⟩
            case round =>
              obtain ⟨d2, hrd2, hl2, hD2, hn2⟩ := hrel
              obtain ⟨a, c', rfl, hc', hcell⟩ := id hrd2.out
              clear hrd
              rcases Nat.eq_zero_or_pos d2.length with hq | hp
              · have hend : Hid (d2.length = 0 ∨ d2.getD (d2.length - 1) 0 ≠ 0) := .inl hq
                have HQ := Lib.hid hq
                rw [hq] at hrd2 hc' ⊢
                rw [hq] at hl2
                clear hcell hq
                by_cases hk9 : 9 < K
                · first
                    | (exfalso; omega)
                    | (go_wp2; exact bodyPost_ret (v := .tuple #[.agg #[.int .i64 0, .int .i64 0], .int .i64 5]) (by simp [results, Tryz.results41, go_sem, r0, r1]) rfl ⟨0, 0, 5, rfl, told_over HV.out hst'.out hn2.out hD2.out hend.out (by have := HQ.out; have := HK.out; omega), (HB.out.setCell (by simp) _).setCell (by simp) _⟩)
                · go_wp2
                  have hz : Hid ((num d2 : Int) = 0) := by
                    have e : d2 = [] := List.length_eq_zero_iff.1 HQ.out
                    rw [e]; rfl
                  go_loop [6, 7] (fun m i => ∃ (M : Int), i = .int .i64 (-1) ∧ m = .int .i64 M ∧ Hid ((num d2 : Int) = M) ∧ 0 ≤ M ∧ M ≤ 999999999999999999) (fun _ i => (intOf i + 1).toNat)
                  case atStart => exact ⟨0, rfl, rfl, hz, by decide, by decide⟩
                  case round =>
                    obtain ⟨M, rfl, rfl, HM, hM0, hM1⟩ := hrel
                    have HT : Hid (Denotes V s (if b = true then -M else M) K 0) := by
                      have h := told_ok HV.out hst'.out hn2.out hD2.out (by have := HQ.out; omega) (by have := HK.out; omega)
                      rw [HM.out, ← HK.out] at h
                      exact h
                    cases b
                    · go_wp2
                      exact bodyPost_ret (v := .tuple #[.agg #[.int .i64 (M), .int .i64 K], .int .i64 0]) (by simp [results, Tryz.results41, go_sem, r0, r1]) rfl ⟨M, K, 0, rfl, by simpa using HT.out, (HB.out.setCell (by simp) _).setCell (by simp) _⟩
                    · go_wp2
                      exact bodyPost_ret (v := .tuple #[.agg #[.int .i64 (-M), .int .i64 K], .int .i64 0]) (by simp [results, Tryz.results41, go_sem, r0, r1]) rfl ⟨-M, K, 0, rfl, by simpa using HT.out, (HB.out.setCell (by simp) _).setCell (by simp) _⟩
              · obtain ⟨q, hq⟩ : ∃ q, d2.length = q + 1 := ⟨d2.length - 1, by omega⟩
                have hne : d2 ≠ [] := by intro e; subst e; simp at hq
                obtain ⟨g', o', rfl, hcl⟩ := hcell hne
                obtain ⟨x, hx⟩ : ∃ x, x = d2.getD q 0 := ⟨_, rfl⟩
                have hlast : w1.cell? ⟨g', o' + q, none⟩ = some (.int .i64 x) := by
                  refine hcl q _ ?_
                  rw [hx, List.getD, List.getElem?_eq_getElem (by omega)]; rfl
                have HC := Lib.hid hcl
                have hini := Lib.hid (reads_init hrd2.out)
                have HQ := Lib.hid hq
                have HX := Lib.hid hx
                have HN := Lib.hid hne
                rw [hq] at hrd2 hc' hini ⊢
                rw [hq] at hl2
                clear hcell hcl hq hx hp hne
                by_cases hl0 : x = 0
                · go_wp2
                  refine ⟨⟨d2.dropLast, hini, by rw [List.length_dropLast, HQ.out]; omega, hD2.out.init, ?_⟩, ?_⟩
                  · exact (num_init HN.out (by rw [HQ.out]; exact HX.out.symm.trans hl0)).trans hn2.out
                  · simp only [lenOf]; omega
                · have hend : Hid (d2.length = 0 ∨ d2.getD (d2.length - 1) 0 ≠ 0) := .inr (by rw [HQ.out]; exact fun e => hl0 (HX.out.trans e))
                  by_cases hbig : (18 : Int) < (q : Int) + 1 ∨ 9 < K
                  · rcases hbig with hbig | hbig
                    · first
                        | (exfalso; omega)
                        | (go_wp2; exact bodyPost_ret (v := .tuple #[.agg #[.int .i64 0, .int .i64 0], .int .i64 5]) (by simp [results, Tryz.results41, go_sem, r0, r1]) rfl ⟨0, 0, 5, rfl, told_over HV.out hst'.out hn2.out hD2.out hend.out (by have := HQ.out; have := HK.out; omega), (HB.out.setCell (by simp) _).setCell (by simp) _⟩)
                    · by_cases h18 : (18 : Int) < (q : Int) + 1
                      · first
                          | (exfalso; omega)
                          | (go_wp2; exact bodyPost_ret (v := .tuple #[.agg #[.int .i64 0, .int .i64 0], .int .i64 5]) (by simp [results, Tryz.results41, go_sem, r0, r1]) rfl ⟨0, 0, 5, rfl, told_over HV.out hst'.out hn2.out hD2.out hend.out (by have := HQ.out; have := HK.out; omega), (HB.out.setCell (by simp) _).setCell (by simp) _⟩)
                      · first
                          | (exfalso; omega)
                          | (go_wp2; exact bodyPost_ret (v := .tuple #[.agg #[.int .i64 0, .int .i64 0], .int .i64 5]) (by simp [results, Tryz.results41, go_sem, r0, r1]) rfl ⟨0, 0, 5, rfl, told_over HV.out hst'.out hn2.out hD2.out hend.out (by have := HQ.out; have := HK.out; omega), (HB.out.setCell (by simp) _).setCell (by simp) _⟩)
                  · have hk9 : ¬ 9 < K := fun h => hbig (.inr h)
                    have hq18 : ¬ (18 : Int) < (q : Int) + 1 := fun h => hbig (.inl h)
                    clear hbig
                    go_wp2
                    have hz : Hid ((num (d2.drop (q + 1)) : Int) = 0) := by
                      have e : d2.drop (q + 1) = [] := List.drop_of_length_le (by rw [HQ.out]; exact Nat.le_refl _)
                      rw [e]; rfl
                    go_loop [6, 7] (fun m i => ∃ (M I : Int) (j : Nat), i = .int .i64 I ∧ m = .int .i64 M ∧ I + 1 = j ∧ j ≤ q + 1 ∧ Hid ((num (d2.drop j) : Int) = M)) (fun _ i => (intOf i + 1).toNat)
                    case atStart => exact ⟨0, q, q + 1, rfl, rfl, by omega, Nat.le_refl _, hz⟩
                    case round =>
                      obtain ⟨M, I, j, rfl, rfl, hI, hj, HM⟩ := hrel
                      have hdj := num_bound (hD2.out.drop j) (k := 18) (by rw [List.length_drop, HQ.out]; omega)
                      have hM0 : 0 ≤ M := by rw [← HM.out]; omega
                      have hM1 : M ≤ 999999999999999999 := by rw [← HM.out]; omega
                      clear hdj
                      by_cases hj0 : j = 0
                      · subst hj0
                        obtain rfl : I = -1 := by omega
                        replace HM : Hid ((num d2 : Int) = M) := HM.out
                        have HT : Hid (Denotes V s (if b = true then -M else M) K 0) := by
                          have h := told_ok HV.out hst'.out hn2.out hD2.out (by have := HQ.out; omega) (by have := HK.out; omega)
                          rw [HM.out, ← HK.out] at h
                          exact h
                        cases b
                        · go_wp2
                          exact bodyPost_ret (v := .tuple #[.agg #[.int .i64 (M), .int .i64 K], .int .i64 0]) (by simp [results, Tryz.results41, go_sem, r0, r1]) rfl ⟨M, K, 0, rfl, by simpa using HT.out, (HB.out.setCell (by simp) _).setCell (by simp) _⟩
                        · go_wp2
                          exact bodyPost_ret (v := .tuple #[.agg #[.int .i64 (-M), .int .i64 K], .int .i64 0]) (by simp [results, Tryz.results41, go_sem, r0, r1]) rfl ⟨-M, K, 0, rfl, by simpa using HT.out, (HB.out.setCell (by simp) _).setCell (by simp) _⟩
                      · obtain ⟨p, rfl⟩ : ∃ p, j = p + 1 := ⟨j - 1, by omega⟩
                        obtain rfl : I = p := by omega
                        obtain ⟨y, hy⟩ : ∃ y, y = d2.getD p 0 := ⟨_, rfl⟩
                        have hpl : p < d2.length := by rw [HQ.out]; omega
                        have hpq : (p : Int) < (q : Int) + 1 := by omega
                        have hyc : w1.cell? ⟨g', o' + p, none⟩ = some (.int .i64 y) := by
                          refine HC.out p _ ?_
                          rw [hy, List.getD, List.getElem?_eq_getElem hpl]; rfl
                        have hdp := num_bound (hD2.out.drop p) (k := 18) (by rw [List.length_drop, HQ.out]; omega)
                        have hya := hD2.out.at hpl
                        rw [← hy] at hya
                        have hnd := num_drop hpl
                        rw [← hy] at hnd
                        have hMp : Hid ((num (d2.drop p) : Int) = 10 * M + y) := by show _ = _; rw [hnd, ← HM.out]; omega
                        have hb1 : 10 * M + y ≤ 999999999999999999 := by rw [← hMp.out]; omega
                        have hb2 : 10 * M ≤ 999999999999999999 := by omega
                        have hy0 : 0 ≤ y := hya.1
                        have HY := Lib.hid hy
                        clear hnd hya hdp hpl hy HM hlast
                        go_wp2
                        refine ⟨⟨10 * M + y, (p : Int) - 1, p, rfl, rfl, by omega, by omega, hMp⟩, ?_⟩
                        simp only [intOf]; omega
          · have hk1 : 0 < K := by have := HK.out; omega
            have hd0 : digitAt ds' 0 ≠ 0 := fun e => hgo ⟨by omega, e⟩
            clear hgo hk0
            go_wp2_with (go_at_call 52; refine (digit_ok _ ds' 0 _ hrd.out (by omega)).mono ?_; rintro e w' ⟨rfl, rfl⟩)
            go_loop [4] (fun l => ∃ (d2 : List Int), Hid (ReadsD w1 l d2) ∧ d2.length ≤ 1000 ∧ Hid (Digs d2) ∧ Hid (num d2 = num ds')) (fun l => lenOf l)
            case atStart => exact ⟨ds', hrd, hl', hD', rfl⟩
            case round =>
              obtain ⟨d2, hrd2, hl2, hD2, hn2⟩ := hrel
              obtain ⟨a, c', rfl, hc', hcell⟩ := id hrd2.out
              clear hrd
              rcases Nat.eq_zero_or_pos d2.length with hq | hp
              · have hend : Hid (d2.length = 0 ∨ d2.getD (d2.length - 1) 0 ≠ 0) := .inl hq
                have HQ := Lib.hid hq
                rw [hq] at hrd2 hc' ⊢
                rw [hq] at hl2
                clear hcell hq
                by_cases hk9 : 9 < K
                · first
                    | (exfalso; omega)
                    | (go_wp2; exact bodyPost_ret (v := .tuple #[.agg #[.int .i64 0, .int .i64 0], .int .i64 5]) (by simp [results, Tryz.results41, go_sem, r0, r1]) rfl ⟨0, 0, 5, rfl, told_over HV.out hst'.out hn2.out hD2.out hend.out (by have := HQ.out; have := HK.out; omega), (HB.out.setCell (by simp) _).setCell (by simp) _⟩)
                · go_wp2
                  have hz : Hid ((num d2 : Int) = 0) := by
                    have e : d2 = [] := List.length_eq_zero_iff.1 HQ.out
                    rw [e]; rfl
                  go_loop [6, 7] (fun m i => ∃ (M : Int), i = .int .i64 (-1) ∧ m = .int .i64 M ∧ Hid ((num d2 : Int) = M) ∧ 0 ≤ M ∧ M ≤ 999999999999999999) (fun _ i => (intOf i + 1).toNat)
                  case atStart => exact ⟨0, rfl, rfl, hz, by decide, by decide⟩
                  case round =>
                    obtain ⟨M, rfl, rfl, HM, hM0, hM1⟩ := hrel
                    have HT : Hid (Denotes V s (if b = true then -M else M) K 0) := by
                      have h := told_ok HV.out hst'.out hn2.out hD2.out (by have := HQ.out; omega) (by have := HK.out; omega)
                      rw [HM.out, ← HK.out] at h
                      exact h
                    cases b
                    · go_wp2
                      exact bodyPost_ret (v := .tuple #[.agg #[.int .i64 (M), .int .i64 K], .int .i64 0]) (by simp [results, Tryz.results41, go_sem, r0, r1]) rfl ⟨M, K, 0, rfl, by simpa using HT.out, (HB.out.setCell (by simp) _).setCell (by simp) _⟩
                    · go_wp2
                      exact bodyPost_ret (v := .tuple #[.agg #[.int .i64 (-M), .int .i64 K], .int .i64 0]) (by simp [results, Tryz.results41, go_sem, r0, r1]) rfl ⟨-M, K, 0, rfl, by simpa using HT.out, (HB.out.setCell (by simp) _).setCell (by simp) _⟩
              · obtain ⟨q, hq⟩ : ∃ q, d2.length = q + 1 := ⟨d2.length - 1, by omega⟩
                have hne : d2 ≠ [] := by intro e; subst e; simp at hq
                obtain ⟨g', o', rfl, hcl⟩ := hcell hne
                obtain ⟨x, hx⟩ : ∃ x, x = d2.getD q 0 := ⟨_, rfl⟩
                have hlast : w1.cell? ⟨g', o' + q, none⟩ = some (.int .i64 x) := by
                  refine hcl q _ ?_
                  rw [hx, List.getD, List.getElem?_eq_getElem (by omega)]; rfl
                have HC := Lib.hid hcl
                have hini := Lib.hid (reads_init hrd2.out)
                have HQ := Lib.hid hq
                have HX := Lib.hid hx
                have HN := Lib.hid hne
                rw [hq] at hrd2 hc' hini ⊢
                rw [hq] at hl2
                clear hcell hcl hq hx hp hne
                by_cases hl0 : x = 0
                · go_wp2
                  refine ⟨⟨d2.dropLast, hini, by rw [List.length_dropLast, HQ.out]; omega, hD2.out.init, ?_⟩, ?_⟩
                  · exact (num_init HN.out (by rw [HQ.out]; exact HX.out.symm.trans hl0)).trans hn2.out
                  · simp only [lenOf]; omega
                · have hend : Hid (d2.length = 0 ∨ d2.getD (d2.length - 1) 0 ≠ 0) := .inr (by rw [HQ.out]; exact fun e => hl0 (HX.out.trans e))
                  by_cases hbig : (18 : Int) < (q : Int) + 1 ∨ 9 < K
                  · rcases hbig with hbig | hbig
                    · first
                        | (exfalso; omega)
                        | (go_wp2; exact bodyPost_ret (v := .tuple #[.agg #[.int .i64 0, .int .i64 0], .int .i64 5]) (by simp [results, Tryz.results41, go_sem, r0, r1]) rfl ⟨0, 0, 5, rfl, told_over HV.out hst'.out hn2.out hD2.out hend.out (by have := HQ.out; have := HK.out; omega), (HB.out.setCell (by simp) _).setCell (by simp) _⟩)
                    · by_cases h18 : (18 : Int) < (q : Int) + 1
                      · first
                          | (exfalso; omega)
                          | (go_wp2; exact bodyPost_ret (v := .tuple #[.agg #[.int .i64 0, .int .i64 0], .int .i64 5]) (by simp [results, Tryz.results41, go_sem, r0, r1]) rfl ⟨0, 0, 5, rfl, told_over HV.out hst'.out hn2.out hD2.out hend.out (by have := HQ.out; have := HK.out; omega), (HB.out.setCell (by simp) _).setCell (by simp) _⟩)
                      · first
                          | (exfalso; omega)
                          | (go_wp2; exact bodyPost_ret (v := .tuple #[.agg #[.int .i64 0, .int .i64 0], .int .i64 5]) (by simp [results, Tryz.results41, go_sem, r0, r1]) rfl ⟨0, 0, 5, rfl, told_over HV.out hst'.out hn2.out hD2.out hend.out (by have := HQ.out; have := HK.out; omega), (HB.out.setCell (by simp) _).setCell (by simp) _⟩)
                  · have hk9 : ¬ 9 < K := fun h => hbig (.inr h)
                    have hq18 : ¬ (18 : Int) < (q : Int) + 1 := fun h => hbig (.inl h)
                    clear hbig
                    go_wp2
                    have hz : Hid ((num (d2.drop (q + 1)) : Int) = 0) := by
                      have e : d2.drop (q + 1) = [] := List.drop_of_length_le (by rw [HQ.out]; exact Nat.le_refl _)
                      rw [e]; rfl
                    go_loop [6, 7] (fun m i => ∃ (M I : Int) (j : Nat), i = .int .i64 I ∧ m = .int .i64 M ∧ I + 1 = j ∧ j ≤ q + 1 ∧ Hid ((num (d2.drop j) : Int) = M)) (fun _ i => (intOf i + 1).toNat)
                    case atStart => exact ⟨0, q, q + 1, rfl, rfl, by omega, Nat.le_refl _, hz⟩
                    case round =>
                      obtain ⟨M, I, j, rfl, rfl, hI, hj, HM⟩ := hrel
                      have hdj := num_bound (hD2.out.drop j) (k := 18) (by rw [List.length_drop, HQ.out]; omega)
                      have hM0 : 0 ≤ M := by rw [← HM.out]; omega
                      have hM1 : M ≤ 999999999999999999 := by rw [← HM.out]; omega
                      clear hdj
                      by_cases hj0 : j = 0
                      · subst hj0
                        obtain rfl : I = -1 := by omega
                        replace HM : Hid ((num d2 : Int) = M) := HM.out
                        have HT : Hid (Denotes V s (if b = true then -M else M) K 0) := by
                          have h := told_ok HV.out hst'.out hn2.out hD2.out (by have := HQ.out; omega) (by have := HK.out; omega)
                          rw [HM.out, ← HK.out] at h
                          exact h
                        cases b
                        · go_wp2
                          exact bodyPost_ret (v := .tuple #[.agg #[.int .i64 (M), .int .i64 K], .int .i64 0]) (by simp [results, Tryz.results41, go_sem, r0, r1]) rfl ⟨M, K, 0, rfl, by simpa using HT.out, (HB.out.setCell (by simp) _).setCell (by simp) _⟩
                        · go_wp2
                          exact bodyPost_ret (v := .tuple #[.agg #[.int .i64 (-M), .int .i64 K], .int .i64 0]) (by simp [results, Tryz.results41, go_sem, r0, r1]) rfl ⟨-M, K, 0, rfl, by simpa using HT.out, (HB.out.setCell (by simp) _).setCell (by simp) _⟩
                      · obtain ⟨p, rfl⟩ : ∃ p, j = p + 1 := ⟨j - 1, by omega⟩
                        obtain rfl : I = p := by omega
                        obtain ⟨y, hy⟩ : ∃ y, y = d2.getD p 0 := ⟨_, rfl⟩
                        have hpl : p < d2.length := by rw [HQ.out]; omega
                        have hpq : (p : Int) < (q : Int) + 1 := by omega
                        have hyc : w1.cell? ⟨g', o' + p, none⟩ = some (.int .i64 y) := by
                          refine HC.out p _ ?_
                          rw [hy, List.getD, List.getElem?_eq_getElem hpl]; rfl
                        have hdp := num_bound (hD2.out.drop p) (k := 18) (by rw [List.length_drop, HQ.out]; omega)
                        have hya := hD2.out.at hpl
                        rw [← hy] at hya
                        have hnd := num_drop hpl
                        rw [← hy] at hnd
                        have hMp : Hid ((num (d2.drop p) : Int) = 10 * M + y) := by show _ = _; rw [hnd, ← HM.out]; omega
                        have hb1 : 10 * M + y ≤ 999999999999999999 := by rw [← hMp.out]; omega
                        have hb2 : 10 * M ≤ 999999999999999999 := by omega
                        have hy0 : 0 ≤ y := hya.1
                        have HY := Lib.hid hy
                        clear hnd hya hdp hpl hy HM hlast
                        go_wp2
                        refine ⟨⟨10 * M + y, (p : Int) - 1, p, rfl, rfl, by omega, by omega, hMp⟩, ?_⟩
                        simp only [intOf]; omega
  · have hold : Hid (∀ j d, ds[j]? = some d → w.cell? ⟨g, o + j, none⟩ = some (.int .i64 d)) := hr
    clear hr
    go_enter Tryz.func41, Tryz.ntmps41
    go_wp2_with (first | (at_builtin; refine wpList_append_own _ rfl _ _ 61 rfl (w.heap.size + 1 + 1) 3 i0 (.int .i64 0) 1 8 Tryz.underlying61 hi hz0 hz1 hz2 rfl (by decide) (.slice none 0 0) 0 [] rfl (World.ownsRow_nil _ _ _ _) ⟨g, o, none⟩ ds.length c (ds.map (Value.int .i64)) rfl (by simp) ?c1 ?c2 ?c3 ?c4 ?c5 ?_))
    case c1 => exact src_cells hold.out (((Below.refl _ _).alloc (Nat.le_refl _) _).alloc (by simp) _)
    case c2 => intro u hu; obtain ⟨d, -, rfl⟩ := List.mem_map.1 hu; rfl
    case c3 => unfold maxLen; omega
    case c4 => omega
    case c5 => simp
    · intro v' w1 hown hgrow _
      have hblk : ∀ k, k < w.heap.size + 1 + 1 → w1.heap[k]? = (((w.alloc (Obj.cells #[.bool b, .slice (some ⟨g, o, none⟩) ds.length c, .int .i64 s] 64)).alloc (Obj.cells #[.int .i64 0, .int .i64 0] 25))).heap[k]? := fun k hk => hgrow.block k (by simpa using hk) (by simp [Value.ownBlock])
      have HB : Hid (Below w.heap.size w w1) := (((Below.refl _ _).alloc (Nat.le_refl _) _).alloc (by simp) _).grown hgrow (by simp; omega) (by simp [Value.ownBlock])
      have r0 : w1.cell? ⟨w.heap.size + 1, 0, none⟩ = some (.int .i64 0) := (World.cell?_of_block (hblk _ (by simp))).trans (by go_simp)
      have r1 : w1.cell? ⟨w.heap.size + 1, 1, none⟩ = some (.int .i64 0) := (World.cell?_of_block (hblk _ (by simp))).trans (by go_simp)
      have z0 : w1.frozen? ⟨w.heap.size + 1, 0, none⟩ = false := (World.frozen?_of_block (hblk _ (by simp))).trans (by go_simp)
      have z1 : w1.frozen? ⟨w.heap.size + 1, 1, none⟩ = false := (World.frozen?_of_block (hblk _ (by simp))).trans (by go_simp)
      have e1 : w1.cell? ⟨w.heap.size, 2, none⟩ = some (.int .i64 s) := (World.cell?_of_block (hblk _ (by simp; omega))).trans (by go_simp)
      have e2 : w1.cell? ⟨w.heap.size, 0, none⟩ = some (.bool b) := (World.cell?_of_block (hblk _ (by simp; omega))).trans (by go_simp)
      have HR : Hid (ReadsD w1 v' ds) := own_reads (by simpa using hown)
      clear hown hgrow hblk
      go_wp2
      go_loop [4, 5] (fun l t => ∃ (ds' : List Int) (K : Int) (k : Nat), t = .int .i64 K ∧ Hid (K = k) ∧ 0 ≤ K ∧ k ≤ s ∧ Hid (ReadsD w1 l ds') ∧ ds'.length ≤ 1000 ∧ Hid (Digs ds') ∧ Hid (strip s (num ds) = strip k (num ds'))) (fun _ t => (intOf t).toNat)
      case atStart => exact ⟨ds, s, s, rfl, rfl, by omega, Nat.le_refl _, HR, hl, HD, rfl⟩
      case round =>
        obtain ⟨ds', K, k, rfl, HK, hK0, hk, hrd, hl', hD', hst⟩ := hrel
        have hK1 : K ≤ 1000 := by have := HK.out; omega
        by_cases hgo : 0 < k ∧ digitAt ds' 0 = 0
        · obtain ⟨hk0, hd0⟩ := hgo
          have hk1 : 0 < K := by have := HK.out; omega
          obtain ⟨a, c', rfl, hc', hcell⟩ := id hrd.out
          have hend : Hid (strip s (num ds) = strip (k - 1) (num ds'.tail)) := hst.out.trans (strip_row hD'.out hd0 hk0)
          by_cases hne : ds' = []
          · subst hne
            clear hst
            go_wp2_with (go_at_call 52; refine (digit_ok _ [] 0 _ hrd.out (by simp)).mono ?_; rintro e w' ⟨rfl, rfl⟩)
            refine ⟨⟨[], K - 1, k - 1, rfl, by have := HK.out; show _ = _; omega, by omega, by omega, hrd, by simp, hD', hend⟩, ?_⟩
            simp only [intOf]; omega
          · have hpos : 0 < ds'.length := by cases ds' with | nil => exact absurd rfl hne | cons => simp
            have hpos1 : 0 < (ds'.length : Int) := by omega
            obtain ⟨g', o', rfl, hcl⟩ := hcell hne
            clear hst
            go_wp2_with (go_at_call 52; refine (digit_ok _ ds' 0 _ hrd.out (by omega)).mono ?_; rintro e w' ⟨rfl, rfl⟩)
            refine ⟨⟨ds'.tail, K - 1, k - 1, rfl, by have := HK.out; show _ = _; omega, by omega, by omega, reads_tail hrd.out hne, by simp; omega, hD'.out.tail, hend⟩, ?_⟩
            simp only [intOf]; omega
        · have hst' : Hid (strip s (num ds) = (num ds', k)) := hst.out.trans (strip_end hD'.out hgo)
          clear hst HR
          by_cases hk0 : k = 0
          · have hk1 : ¬ 0 < K := by have := HK.out; omega
            clear hgo hk0
            go_wp2
            go_loop [4] (fun l => ∃ (d2 : List Int), Hid (ReadsD w1 l d2) ∧ d2.length ≤ 1000 ∧ Hid (Digs d2) ∧ Hid (num d2 = num ds')) (fun l => lenOf l)
            case atStart => exact ⟨ds', hrd, hl', hD', rfl⟩
            case round =>
              obtain ⟨d2, hrd2, hl2, hD2, hn2⟩ := hrel
              obtain ⟨a, c', rfl, hc', hcell⟩ := id hrd2.out
              clear hrd
              rcases Nat.eq_zero_or_pos d2.length with hq | hp
              · have hend : Hid (d2.length = 0 ∨ d2.getD (d2.length - 1) 0 ≠ 0) := .inl hq
                have HQ := Lib.hid hq
                rw [hq] at hrd2 hc' ⊢
                rw [hq] at hl2
                clear hcell hq
                by_cases hk9 : 9 < K
                · first
                    | (exfalso; omega)
                    | (go_wp2; exact bodyPost_ret (v := .tuple #[.agg #[.int .i64 0, .int .i64 0], .int .i64 5]) (by simp [results, Tryz.results41, go_sem, r0, r1]) rfl ⟨0, 0, 5, rfl, told_over HV.out hst'.out hn2.out hD2.out hend.out (by have := HQ.out; have := HK.out; omega), (HB.out.setCell (by simp) _).setCell (by simp) _⟩)
                · go_wp2
                  have hz : Hid ((num d2 : Int) = 0) := by
                    have e : d2 = [] := List.length_eq_zero_iff.1 HQ.out
                    rw [e]; rfl
                  go_loop [6, 7] (fun m i => ∃ (M : Int), i = .int .i64 (-1) ∧ m = .int .i64 M ∧ Hid ((num d2 : Int) = M) ∧ 0 ≤ M ∧ M ≤ 999999999999999999) (fun _ i => (intOf i + 1).toNat)
                  case atStart => exact ⟨0, rfl, rfl, hz, by decide, by decide⟩
                  case round =>
                    obtain ⟨M, rfl, rfl, HM, hM0, hM1⟩ := hrel
                    have HT : Hid (Denotes V s (if b = true then -M else M) K 0) := by
                      have h := told_ok HV.out hst'.out hn2.out hD2.out (by have := HQ.out; omega) (by have := HK.out; omega)
                      rw [HM.out, ← HK.out] at h
                      exact h
                    cases b
                    · go_wp2
                      exact bodyPost_ret (v := .tuple #[.agg #[.int .i64 (M), .int .i64 K], .int .i64 0]) (by simp [results, Tryz.results41, go_sem, r0, r1]) rfl ⟨M, K, 0, rfl, by simpa using HT.out, (HB.out.setCell (by simp) _).setCell (by simp) _⟩
                    · go_wp2
                      exact bodyPost_ret (v := .tuple #[.agg #[.int .i64 (-M), .int .i64 K], .int .i64 0]) (by simp [results, Tryz.results41, go_sem, r0, r1]) rfl ⟨-M, K, 0, rfl, by simpa using HT.out, (HB.out.setCell (by simp) _).setCell (by simp) _⟩
              · obtain ⟨q, hq⟩ : ∃ q, d2.length = q + 1 := ⟨d2.length - 1, by omega⟩
                have hne : d2 ≠ [] := by intro e; subst e; simp at hq
                obtain ⟨g', o', rfl, hcl⟩ := hcell hne
                obtain ⟨x, hx⟩ : ∃ x, x = d2.getD q 0 := ⟨_, rfl⟩
                have hlast : w1.cell? ⟨g', o' + q, none⟩ = some (.int .i64 x) := by
                  refine hcl q _ ?_
                  rw [hx, List.getD, List.getElem?_eq_getElem (by omega)]; rfl
                have HC := Lib.hid hcl
                have hini := Lib.hid (reads_init hrd2.out)
                have HQ := Lib.hid hq
                have HX := Lib.hid hx
                have HN := Lib.hid hne
                rw [hq] at hrd2 hc' hini ⊢
                rw [hq] at hl2
                clear hcell hcl hq hx hp hne
                by_cases hl0 : x = 0
                · go_wp2
                  refine ⟨⟨d2.dropLast, hini, by rw [List.length_dropLast, HQ.out]; omega, hD2.out.init, ?_⟩, ?_⟩
                  · exact (num_init HN.out (by rw [HQ.out]; exact HX.out.symm.trans hl0)).trans hn2.out
                  · simp only [lenOf]; omega
                · have hend : Hid (d2.length = 0 ∨ d2.getD (d2.length - 1) 0 ≠ 0) := .inr (by rw [HQ.out]; exact fun e => hl0 (HX.out.trans e))
                  by_cases hbig : (18 : Int) < (q : Int) + 1 ∨ 9 < K
                  · rcases hbig with hbig | hbig
                    · first
                        | (exfalso; omega)
                        | (go_wp2; exact bodyPost_ret (v := .tuple #[.agg #[.int .i64 0, .int .i64 0], .int .i64 5]) (by simp [results, Tryz.results41, go_sem, r0, r1]) rfl ⟨0, 0, 5, rfl, told_over HV.out hst'.out hn2.out hD2.out hend.out (by have := HQ.out; have := HK.out; omega), (HB.out.setCell (by simp) _).setCell (by simp) _⟩)
                    · by_cases h18 : (18 : Int) < (q : Int) + 1
                      · first
                          | (exfalso; omega)
                          | (go_wp2; exact bodyPost_ret (v := .tuple #[.agg #[.int .i64 0, .int .i64 0], .int .i64 5]) (by simp [results, Tryz.results41, go_sem, r0, r1]) rfl ⟨0, 0, 5, rfl, told_over HV.out hst'.out hn2.out hD2.out hend.out (by have := HQ.out; have := HK.out; omega), (HB.out.setCell (by simp) _).setCell (by simp) _⟩)
                      · first
                          | (exfalso; omega)
                          | (go_wp2; exact bodyPost_ret (v := .tuple #[.agg #[.int .i64 0, .int .i64 0], .int .i64 5]) (by simp [results, Tryz.results41, go_sem, r0, r1]) rfl ⟨0, 0, 5, rfl, told_over HV.out hst'.out hn2.out hD2.out hend.out (by have := HQ.out; have := HK.out; omega), (HB.out.setCell (by simp) _).setCell (by simp) _⟩)
                  · have hk9 : ¬ 9 < K := fun h => hbig (.inr h)
                    have hq18 : ¬ (18 : Int) < (q : Int) + 1 := fun h => hbig (.inl h)
                    clear hbig
                    go_wp2
                    have hz : Hid ((num (d2.drop (q + 1)) : Int) = 0) := by
                      have e : d2.drop (q + 1) = [] := List.drop_of_length_le (by rw [HQ.out]; exact Nat.le_refl _)
                      rw [e]; rfl
                    go_loop [6, 7] (fun m i => ∃ (M I : Int) (j : Nat), i = .int .i64 I ∧ m = .int .i64 M ∧ I + 1 = j ∧ j ≤ q + 1 ∧ Hid ((num (d2.drop j) : Int) = M)) (fun _ i => (intOf i + 1).toNat)
                    case atStart => exact ⟨0, q, q + 1, rfl, rfl, by omega, Nat.le_refl _, hz⟩
                    case round =>
                      obtain ⟨M, I, j, rfl, rfl, hI, hj, HM⟩ := hrel
                      have hdj := num_bound (hD2.out.drop j) (k := 18) (by rw [List.length_drop, HQ.out]; omega)
                      have hM0 : 0 ≤ M := by rw [← HM.out]; omega
                      have hM1 : M ≤ 999999999999999999 := by rw [← HM.out]; omega
                      clear hdj
                      by_cases hj0 : j = 0
                      · subst hj0
                        obtain rfl : I = -1 := by omega
                        replace HM : Hid ((num d2 : Int) = M) := HM.out
                        have HT : Hid (Denotes V s (if b = true then -M else M) K 0) := by
                          have h := told_ok HV.out hst'.out hn2.out hD2.out (by have := HQ.out; omega) (by have := HK.out; omega)
                          rw [HM.out, ← HK.out] at h
                          exact h
                        cases b
                        · go_wp2
                          exact bodyPost_ret (v := .tuple #[.agg #[.int .i64 (M), .int .i64 K], .int .i64 0]) (by simp [results, Tryz.results41, go_sem, r0, r1]) rfl ⟨M, K, 0, rfl, by simpa using HT.out, (HB.out.setCell (by simp) _).setCell (by simp) _⟩
                        · go_wp2
                          exact bodyPost_ret (v := .tuple #[.agg #[.int .i64 (-M), .int .i64 K], .int .i64 0]) (by simp [results, Tryz.results41, go_sem, r0, r1]) rfl ⟨-M, K, 0, rfl, by simpa using HT.out, (HB.out.setCell (by simp) _).setCell (by simp) _⟩
                      · obtain ⟨p, rfl⟩ : ∃ p, j = p + 1 := ⟨j - 1, by omega⟩
                        obtain rfl : I = p := by omega
                        obtain ⟨y, hy⟩ : ∃ y, y = d2.getD p 0 := ⟨_, rfl⟩
                        have hpl : p < d2.length := by rw [HQ.out]; omega
                        have hpq : (p : Int) < (q : Int) + 1 := by omega
                        have hyc : w1.cell? ⟨g', o' + p, none⟩ = some (.int .i64 y) := by
                          refine HC.out p _ ?_
                          rw [hy, List.getD, List.getElem?_eq_getElem hpl]; rfl
                        have hdp := num_bound (hD2.out.drop p) (k := 18) (by rw [List.length_drop, HQ.out]; omega)
                        have hya := hD2.out.at hpl
                        rw [← hy] at hya
                        have hnd := num_drop hpl
                        rw [← hy] at hnd
                        have hMp : Hid ((num (d2.drop p) : Int) = 10 * M + y) := by show _ = _; rw [hnd, ← HM.out]; omega
                        have hb1 : 10 * M + y ≤ 999999999999999999 := by rw [← hMp.out]; omega
                        have hb2 : 10 * M ≤ 999999999999999999 := by omega
                        have hy0 : 0 ≤ y := hya.1
                        have HY := Lib.hid hy
                        clear hnd hya hdp hpl hy HM hlast
                        go_wp2
                        refine ⟨⟨10 * M + y, (p : Int) - 1, p, rfl, rfl, by omega, by omega, hMp⟩, ?_⟩
                        simp only [intOf]; omega
          · have hk1 : 0 < K := by have := HK.out; omega
            have hd0 : digitAt ds' 0 ≠ 0 := fun e => hgo ⟨by omega, e⟩
            clear hgo hk0
            go_wp2_with (go_at_call 52; refine (digit_ok _ ds' 0 _ hrd.out (by omega)).mono ?_; rintro e w' ⟨rfl, rfl⟩)
            go_loop [4] (fun l => ∃ (d2 : List Int), Hid (ReadsD w1 l d2) ∧ d2.length ≤ 1000 ∧ Hid (Digs d2) ∧ Hid (num d2 = num ds')) (fun l => lenOf l)
            case atStart => exact ⟨ds', hrd, hl', hD', rfl⟩
            case round =>
              obtain ⟨d2, hrd2, hl2, hD2, hn2⟩ := hrel
              obtain ⟨a, c', rfl, hc', hcell⟩ := id hrd2.out
              clear hrd
              rcases Nat.eq_zero_or_pos d2.length with hq | hp
              · have hend : Hid (d2.length = 0 ∨ d2.getD (d2.length - 1) 0 ≠ 0) := .inl hq
                have HQ := Lib.hid hq
                rw [hq] at hrd2 hc' ⊢
                rw [hq] at hl2
                clear hcell hq
                by_cases hk9 : 9 < K
                · first
                    | (exfalso; omega)
                    | (go_wp2; exact bodyPost_ret (v := .tuple #[.agg #[.int .i64 0, .int .i64 0], .int .i64 5]) (by simp [results, Tryz.results41, go_sem, r0, r1]) rfl ⟨0, 0, 5, rfl, told_over HV.out hst'.out hn2.out hD2.out hend.out (by have := HQ.out; have := HK.out; omega), (HB.out.setCell (by simp) _).setCell (by simp) _⟩)
                · go_wp2
                  have hz : Hid ((num d2 : Int) = 0) := by
                    have e : d2 = [] := List.length_eq_zero_iff.1 HQ.out
                    rw [e]; rfl
                  go_loop [6, 7] (fun m i => ∃ (M : Int), i = .int .i64 (-1) ∧ m = .int .i64 M ∧ Hid ((num d2 : Int) = M) ∧ 0 ≤ M ∧ M ≤ 999999999999999999) (fun _ i => (intOf i + 1).toNat)
                  case atStart => exact ⟨0, rfl, rfl, hz, by decide, by decide⟩
                  case round =>
                    obtain ⟨M, rfl, rfl, HM, hM0, hM1⟩ := hrel
                    have HT : Hid (Denotes V s (if b = true then -M else M) K 0) := by
                      have h := told_ok HV.out hst'.out hn2.out hD2.out (by have := HQ.out; omega) (by have := HK.out; omega)
                      rw [HM.out, ← HK.out] at h
                      exact h
                    cases b
                    · go_wp2
                      exact bodyPost_ret (v := .tuple #[.agg #[.int .i64 (M), .int .i64 K], .int .i64 0]) (by simp [results, Tryz.results41, go_sem, r0, r1]) rfl ⟨M, K, 0, rfl, by simpa using HT.out, (HB.out.setCell (by simp) _).setCell (by simp) _⟩
                    · go_wp2
                      exact bodyPost_ret (v := .tuple #[.agg #[.int .i64 (-M), .int .i64 K], .int .i64 0]) (by simp [results, Tryz.results41, go_sem, r0, r1]) rfl ⟨-M, K, 0, rfl, by simpa using HT.out, (HB.out.setCell (by simp) _).setCell (by simp) _⟩
              · obtain ⟨q, hq⟩ : ∃ q, d2.length = q + 1 := ⟨d2.length - 1, by omega⟩
                have hne : d2 ≠ [] := by intro e; subst e; simp at hq
                obtain ⟨g', o', rfl, hcl⟩ := hcell hne
                obtain ⟨x, hx⟩ : ∃ x, x = d2.getD q 0 := ⟨_, rfl⟩
                have hlast : w1.cell? ⟨g', o' + q, none⟩ = some (.int .i64 x) := by
                  refine hcl q _ ?_
                  rw [hx, List.getD, List.getElem?_eq_getElem (by omega)]; rfl
                have HC := Lib.hid hcl
                have hini := Lib.hid (reads_init hrd2.out)
                have HQ := Lib.hid hq
                have HX := Lib.hid hx
                have HN := Lib.hid hne
                rw [hq] at hrd2 hc' hini ⊢
                rw [hq] at hl2
                clear hcell hcl hq hx hp hne
                by_cases hl0 : x = 0
                · go_wp2
                  refine ⟨⟨d2.dropLast, hini, by rw [List.length_dropLast, HQ.out]; omega, hD2.out.init, ?_⟩, ?_⟩
                  · exact (num_init HN.out (by rw [HQ.out]; exact HX.out.symm.trans hl0)).trans hn2.out
                  · simp only [lenOf]; omega
                · have hend : Hid (d2.length = 0 ∨ d2.getD (d2.length - 1) 0 ≠ 0) := .inr (by rw [HQ.out]; exact fun e => hl0 (HX.out.trans e))
                  by_cases hbig : (18 : Int) < (q : Int) + 1 ∨ 9 < K
                  · rcases hbig with hbig | hbig
                    · first
                        | (exfalso; omega)
                        | (go_wp2; exact bodyPost_ret (v := .tuple #[.agg #[.int .i64 0, .int .i64 0], .int .i64 5]) (by simp [results, Tryz.results41, go_sem, r0, r1]) rfl ⟨0, 0, 5, rfl, told_over HV.out hst'.out hn2.out hD2.out hend.out (by have := HQ.out; have := HK.out; omega), (HB.out.setCell (by simp) _).setCell (by simp) _⟩)
                    · by_cases h18 : (18 : Int) < (q : Int) + 1
                      · first
                          | (exfalso; omega)
                          | (go_wp2; exact bodyPost_ret (v := .tuple #[.agg #[.int .i64 0, .int .i64 0], .int .i64 5]) (by simp [results, Tryz.results41, go_sem, r0, r1]) rfl ⟨0, 0, 5, rfl, told_over HV.out hst'.out hn2.out hD2.out hend.out (by have := HQ.out; have := HK.out; omega), (HB.out.setCell (by simp) _).setCell (by simp) _⟩)
                      · first
                          | (exfalso; omega)
                          | (go_wp2; exact bodyPost_ret (v := .tuple #[.agg #[.int .i64 0, .int .i64 0], .int .i64 5]) (by simp [results, Tryz.results41, go_sem, r0, r1]) rfl ⟨0, 0, 5, rfl, told_over HV.out hst'.out hn2.out hD2.out hend.out (by have := HQ.out; have := HK.out; omega), (HB.out.setCell (by simp) _).setCell (by simp) _⟩)
                  · have hk9 : ¬ 9 < K := fun h => hbig (.inr h)
                    have hq18 : ¬ (18 : Int) < (q : Int) + 1 := fun h => hbig (.inl h)
                    clear hbig
                    go_wp2
                    have hz : Hid ((num (d2.drop (q + 1)) : Int) = 0) := by
                      have e : d2.drop (q + 1) = [] := List.drop_of_length_le (by rw [HQ.out]; exact Nat.le_refl _)
                      rw [e]; rfl
                    go_loop [6, 7] (fun m i => ∃ (M I : Int) (j : Nat), i = .int .i64 I ∧ m = .int .i64 M ∧ I + 1 = j ∧ j ≤ q + 1 ∧ Hid ((num (d2.drop j) : Int) = M)) (fun _ i => (intOf i + 1).toNat)
                    case atStart => exact ⟨0, q, q + 1, rfl, rfl, by omega, Nat.le_refl _, hz⟩
                    case round =>
                      obtain ⟨M, I, j, rfl, rfl, hI, hj, HM⟩ := hrel
                      have hdj := num_bound (hD2.out.drop j) (k := 18) (by rw [List.length_drop, HQ.out]; omega)
                      have hM0 : 0 ≤ M := by rw [← HM.out]; omega
                      have hM1 : M ≤ 999999999999999999 := by rw [← HM.out]; omega
                      clear hdj
                      by_cases hj0 : j = 0
                      · subst hj0
                        obtain rfl : I = -1 := by omega
                        replace HM : Hid ((num d2 : Int) = M) := HM.out
                        have HT : Hid (Denotes V s (if b = true then -M else M) K 0) := by
                          have h := told_ok HV.out hst'.out hn2.out hD2.out (by have := HQ.out; omega) (by have := HK.out; omega)
                          rw [HM.out, ← HK.out] at h
                          exact h
                        cases b
                        · go_wp2
                          exact bodyPost_ret (v := .tuple #[.agg #[.int .i64 (M), .int .i64 K], .int .i64 0]) (by simp [results, Tryz.results41, go_sem, r0, r1]) rfl ⟨M, K, 0, rfl, by simpa using HT.out, (HB.out.setCell (by simp) _).setCell (by simp) _⟩
                        · go_wp2
                          exact bodyPost_ret (v := .tuple #[.agg #[.int .i64 (-M), .int .i64 K], .int .i64 0]) (by simp [results, Tryz.results41, go_sem, r0, r1]) rfl ⟨-M, K, 0, rfl, by simpa using HT.out, (HB.out.setCell (by simp) _).setCell (by simp) _⟩
                      · obtain ⟨p, rfl⟩ : ∃ p, j = p + 1 := ⟨j - 1, by omega⟩
                        obtain rfl : I = p := by omega
                        obtain ⟨y, hy⟩ : ∃ y, y = d2.getD p 0 := ⟨_, rfl⟩
                        have hpl : p < d2.length := by rw [HQ.out]; omega
                        have hpq : (p : Int) < (q : Int) + 1 := by omega
                        have hyc : w1.cell? ⟨g', o' + p, none⟩ = some (.int .i64 y) := by
                          refine HC.out p _ ?_
                          rw [hy, List.getD, List.getElem?_eq_getElem hpl]; rfl
                        have hdp := num_bound (hD2.out.drop p) (k := 18) (by rw [List.length_drop, HQ.out]; omega)
                        have hya := hD2.out.at hpl
                        rw [← hy] at hya
                        have hnd := num_drop hpl
                        rw [← hy] at hnd
                        have hMp : Hid ((num (d2.drop p) : Int) = 10 * M + y) := by show _ = _; rw [hnd, ← HM.out]; omega
                        have hb1 : 10 * M + y ≤ 999999999999999999 := by rw [← hMp.out]; omega
                        have hb2 : 10 * M ≤ 999999999999999999 := by omega
                        have hy0 : 0 ≤ y := hya.1
                        have HY := Lib.hid hy
                        clear hnd hya hdp hpl hy HM hlast
                        go_wp2
                        refine ⟨⟨10 * M + y, (p : Int) - 1, p, rfl, rfl, by omega, by omega, hMp⟩, ?_⟩
                        simp only [intOf]; omega
end Go.Proofs.YtdiaijdobglaaaaGreatDoor
