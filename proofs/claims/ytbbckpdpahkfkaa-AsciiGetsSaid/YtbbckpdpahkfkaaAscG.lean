/- Unhex, whole. -/
import Derived.Test.YtbbckpdpahkfkaaAscF
namespace Go.Proofs.Ytbbckpdpahkfkaa
open Go.RowKit

theorem unhex_arg (V : Value) (most : Int) (w : World) (h : most < 0 ∨ 1048576 < most) :
    Calls Try.prog 14 #[V, .int .i64 most] w (AnsIs (1, []) w) := by
  have ha := fun w => allowed_any most false w (decide_eq_false (by omega))
  go_enter Try.func14, Try.ntmps14
  go_wp2_with fail
  refine (ha _).mono ?_
  rintro e w' ⟨rfl, rfl⟩
  go_wp2_with fail
  go_ret2
  exact AnsIs.err (Below.refl _ _)
theorem unhex_none (t : List Nat) (most : Int) (w : World) (hb : ∀ x ∈ t, x < 256) (hl : t.length ≤ 100000) (hM : MX w) (h0 : 0 ≤ most) (h1 : most ≤ 1048576) (hc : cut1 t = none) :
    Calls Try.prog 14 #[.string (strB t), .int .i64 most] w (AnsIs (4, []) w) := by
  have ha := fun w => allowed_any most true w (decide_eq_true ⟨h0, h1⟩)
  have hcut := cutone_any t w hb hl hM
  rw [hc] at hcut
  have HC := Lib.hid hcut
  clear hcut hc
  go_enter Try.func14, Try.ntmps14
  go_wp2_with fail
  refine (ha _).mono ?_
  rintro e w' ⟨rfl, rfl⟩
  go_wp2_with fail
  refine HC.out.mono ?_
  rintro e w1 ⟨hb1, s1, u1, rfl⟩
  have HB1 := Lib.hid hb1
  clear hb1
  go_wp2_with fail
  go_ret2
  exact AnsIs.err HB1.out
theorem unhex_bad (t body : List Nat) (most : Int) (w : World) (hb : ∀ x ∈ t, x < 256) (hl : t.length ≤ 100000) (hM : MX w) (h0 : 0 ≤ most) (h1 : most ≤ 1048576) (hc : cut1 t = some body) (hv : hexV body = none) :
    Calls Try.prog 14 #[.string (strB t), .int .i64 most] w (AnsIs (4, []) w) := by
  have ha := fun w => allowed_any most true w (decide_eq_true ⟨h0, h1⟩)
  have hbl : body.length ≤ 100000 := by
    rw [cut1_take t body hc, List.length_take]; omega
  have hbb : ∀ x ∈ body, x < 256 := fun x hx => hb x (by rw [cut1_take t body hc] at hx; exact List.mem_of_mem_take hx)
  have hvals := fun w => values_any body w hbb hbl
  have hcut := cutone_any t w hb hl hM
  rw [hc] at hcut
  rw [hv] at hvals
  have HC := Lib.hid hcut
  have HV := Lib.hid hvals
  clear hcut hc hvals hv
  go_enter Try.func14, Try.ntmps14
  go_wp2_with fail
  refine (ha _).mono ?_
  rintro e w' ⟨rfl, rfl⟩
  go_wp2_with fail
  refine HC.out.mono ?_
  rintro e w1 ⟨hb1, u1, rfl⟩
  have HB1 := Lib.hid hb1
  clear hb1
  go_wp2_with fail
  refine (HV.out _).mono ?_
  rintro e w2 ⟨hb2, rfl⟩
  have HB2 := Lib.hid (HB1.out.trans (hb2.mono HB1.out.size))
  clear hb2
  go_wp2_with fail
  go_ret2
  exact AnsIs.err HB2.out
theorem unhex_long0 (t body ds : List Nat) (most : Int) (q : Nat) (w : World) (hb : ∀ x ∈ t, x < 256) (hl : t.length ≤ 100000) (hM : MX w) (h0 : 0 ≤ most) (h1 : most ≤ 1048576) (hc : cut1 t = some body) (hv : hexV body = some ds) (hq : ds.length = 2 * q) (hm : most < (q : Int)) :
    Calls Try.prog 14 #[.string (strB t), .int .i64 most] w (AnsIs (2, []) w) := by
  have ha := fun w => allowed_any most true w (decide_eq_true ⟨h0, h1⟩)
  have hbl : body.length ≤ 100000 := by
    rw [cut1_take t body hc, List.length_take]; omega
  have hdl := Nat.le_trans (hexV_len body ds hv) hbl
  have hbb : ∀ x ∈ body, x < 256 := fun x hx => hb x (by rw [cut1_take t body hc] at hx; exact List.mem_of_mem_take hx)
  have hvals := fun w => values_any body w hbb hbl
  have hcut := cutone_any t w hb hl hM
  rw [hc] at hcut
  rw [hv] at hvals
  have HC := Lib.hid hcut
  have HV := Lib.hid hvals
  have HQ := Lib.hid hq
  clear hcut hc hvals hv hq
  have hrem : (((ds.length : Nat) : Int) % 2 != 0) = false := by rw [HQ.out]; simp
  have hquo : ((ds.length : Nat) : Int) / 2 = (q : Int) := by rw [HQ.out]; omega
  have hq9 : q ≤ 100000 := by have := HQ.out; omega
  have hgt : decide (most < (q : Int)) = true := by simp; omega
  go_enter Try.func14, Try.ntmps14
  go_wp2_with fail
  refine (ha _).mono ?_
  rintro e w' ⟨rfl, rfl⟩
  go_wp2_with fail
  refine HC.out.mono ?_
  rintro e w1 ⟨hb1, u1, rfl⟩
  have HB1 := Lib.hid hb1
  clear hb1
  go_wp2_with fail
  refine (HV.out _).mono ?_
  rintro e w2 ⟨hb2, v2, rfl, hown2⟩
  obtain ⟨a2, c2, rfl⟩ := own_slice hown2
  have HB2 := Lib.hid (HB1.out.trans (hb2.mono HB1.out.size))
  clear hb2 hown2
  go_wp2_with fail
  go_ret2
  exact AnsIs.err HB2.out
theorem unhex_long1 (t body ds : List Nat) (most : Int) (q : Nat) (w : World) (hb : ∀ x ∈ t, x < 256) (hl : t.length ≤ 100000) (hM : MX w) (h0 : 0 ≤ most) (h1 : most ≤ 1048576) (hc : cut1 t = some body) (hv : hexV body = some ds) (hq : ds.length + 1 = 2 * q) (hm : most < (q : Int)) :
    Calls Try.prog 14 #[.string (strB t), .int .i64 most] w (AnsIs (2, []) w) := by
  have ha := fun w => allowed_any most true w (decide_eq_true ⟨h0, h1⟩)
  have hbl : body.length ≤ 100000 := by
    rw [cut1_take t body hc, List.length_take]; omega
  have hdl := Nat.le_trans (hexV_len body ds hv) hbl
  have hbb : ∀ x ∈ body, x < 256 := fun x hx => hb x (by rw [cut1_take t body hc] at hx; exact List.mem_of_mem_take hx)
  have hvals := fun w => values_any body w hbb hbl
  have hcut := cutone_any t w hb hl hM
  rw [hc] at hcut
  rw [hv] at hvals
  have HC := Lib.hid hcut
  have HV := Lib.hid hvals
  have HQ := Lib.hid hq
  clear hcut hc hvals hv hq
  have hrem : (((ds.length : Nat) : Int) % 2 != 0) = true := by
    simp only [bne_iff_ne, ne_eq]
    have := HQ.out
    omega
  have hquo2 : (((ds.length : Nat) : Int) + 1) / 2 = (q : Int) := by have := HQ.out; omega
  have hq9 : q ≤ 100000 := by have := HQ.out; omega
  have hgt : decide (most < (q : Int)) = true := by simp; omega
  go_enter Try.func14, Try.ntmps14
  go_wp2_with fail
  refine (ha _).mono ?_
  rintro e w' ⟨rfl, rfl⟩
  go_wp2_with fail
  refine HC.out.mono ?_
  rintro e w1 ⟨hb1, u1, rfl⟩
  have HB1 := Lib.hid hb1
  clear hb1
  go_wp2_with fail
  refine (HV.out _).mono ?_
  rintro e w2 ⟨hb2, v2, rfl, hown2⟩
  obtain ⟨a2, c2, rfl⟩ := own_slice hown2
  have HB2 := Lib.hid (And.intro hb2 hown2)
  clear hb2 hown2
  go_wp2_with (refine wpList_app (o := ⟨some 38, _, _, _, _, _⟩) rfl (.tmp 36) (.tmp 37) rfl (w1.heap.size + 1) ds.length 1 1 (.slice a2 ds.length c2) ds [0] (some ⟨w2.heap.size, 0, none⟩) ?p1 ?p2 ?p3 ?p4 ?p5 ?p6 ?p7)
  case p1 => rfl
  case p2 => rfl
  case p3 => exact HB2.out.2.alloc _
  case p4 => exact one_byte w2 0 (by omega)
  case p5 => omega
  case p6 => have := HB2.out.1.size; simp; omega
  intro v3 w3 hown3 hgrow3
  obtain ⟨a3, c3, rfl⟩ := own_slice hown3
  have hbw2 : Below w.heap.size w w2 := HB1.out.trans (HB2.out.1.mono HB1.out.size)
  have hbw : Below w.heap.size w w3 := (hbw2.alloc hbw2.size _).grown hgrow3 (by have := hbw2.size; simp; omega) (fun j e => by have := (own_lt HB2.out.2 e).1; have := HB1.out.size; omega)
  have HB3 := Lib.hid hbw
  clear hbw hbw2 hown3 hgrow3
  go_wp2_with fail
  go_ret2
  exact AnsIs.err HB3.out
theorem unhex_any (t : List Nat) (most : Int) (w : World) (hb : ∀ x ∈ t, x < 256) (hl : t.length ≤ 100000) (hM : MX w) :
    Calls Try.prog 14 #[.string (strB t), .int .i64 most] w (AnsIs (unhexR t most) w) := by
  by_cases hm : most < 0 ∨ 1048576 < most
  · unfold unhexR; rw [if_pos hm]; exact unhex_arg _ most w hm
  cases hc : cut1 t with
  | none =>
    unfold unhexR; rw [if_neg hm, hc]
    exact unhex_none t most w hb hl hM (by omega) (by omega) hc
  | some body =>
    cases hv : hexV body with
    | none =>
      unfold unhexR; rw [if_neg hm, hc]; simp only []; rw [hv]
      exact unhex_bad t body most w hb hl hM (by omega) (by omega) hc hv
    | some ds =>
      unfold unhexR; rw [if_neg hm, hc]; simp only []; rw [hv]; simp only []
      rcases Nat.mod_two_eq_zero_or_one ds.length with hp | hp
      · obtain ⟨q, hq⟩ : ∃ q, ds.length = 2 * q := ⟨ds.length / 2, by omega⟩
        have e : (ds.length + 1) / 2 = q := by omega
        rw [e]
        by_cases hg : most < (q : Int)
        · rw [if_pos hg]; exact unhex_long0 t body ds most q w hb hl hM (by omega) (by omega) hc hv hq hg
        · rw [if_neg hg, pairUp_even ds q hq]; exact unhex_even t body ds most q w hb hl hM (by omega) (by omega) hc hv hq (by omega)
      · obtain ⟨q, hq⟩ : ∃ q, ds.length + 1 = 2 * q := ⟨(ds.length + 1) / 2, by omega⟩
        have e : (ds.length + 1) / 2 = q := by omega
        rw [e]
        by_cases hg : most < (q : Int)
        · rw [if_pos hg]; exact unhex_long1 t body ds most q w hb hl hM (by omega) (by omega) hc hv hq hg
        · rw [if_neg hg, ← pairUp_pad ds hp, pairUp_even (ds ++ [0]) q (by simp; omega)]; exact unhex_odd t body ds most q w hb hl hM (by omega) (by omega) hc hv hq (by omega)
end Go.Proofs.Ytbbckpdpahkfkaa
