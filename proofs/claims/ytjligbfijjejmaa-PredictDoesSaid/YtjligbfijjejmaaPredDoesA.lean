/- The reference's Undo and Do, whole. -/
import Derived.Test.YtjligbfijjejmaaPredRd
namespace Go.Proofs.Ytjligbfijjejmaa
open Go.RowKit

theorem rpng_of {p : PaV} (hok : p.Ok) (h1 : p.pr ≠ 1) : (10 ≤ p.pr) ∨ (p.pr = 2) := by
  have := hok.1
  unfold PaV.Known at this
  omega
theorem refundo_bad (p : PaV) (A : Option Addr) (c : Nat) (bs : List Nat) (w : World) (hE : p.E ≠ 0) :
    Calls Try.prog 9 #[p.val, .slice A bs.length c] w (AnsIs (p.E, []) w) := by
  have g1 : (p.E != 0) = true := by simp [hE]
  clear hE
  go_enter Try.func9, Try.ntmps9
  go_wp2_with fail
  refine (refcheck_any p _).mono ?_
  rintro e w1 ⟨rfl, hb⟩
  skip
  have HX := Lib.hid (p_cells hb)
  obtain ⟨c0, c1, c2, c3⟩ := HX.out.1
  have lx := HX.out.2.1
  clear hb
  go_wp2
  go_ret2
  exact AnsIs.err HX.out.2.2
theorem refundo_one (p : PaV) (A : Option Addr) (c : Nat) (bs : List Nat) (w : World) (HB : Hid (Bytes w A bs.length c bs)) (hl : bs.length ≤ 100000) (hE : p.E = 0) (h1 : p.pr = 1) :
    Calls Try.prog 9 #[p.val, .slice A bs.length c] w (AnsIs (0, bs) w) := by
  have HE := Lib.hid hE
  have H1 := Lib.hid h1
  clear hE h1
  go_enter Try.func9, Try.ntmps9
  go_wp2_with fail
  refine (refcheck_any p _).mono ?_
  rintro e w1 ⟨rfl, hb⟩
  rw [HE.out]
  have HX := Lib.hid (p_cells hb)
  obtain ⟨c0, c1, c2, c3⟩ := HX.out.1
  have lx := HX.out.2.1
  clear hb
  rw [H1.out] at c0
  go_wp2_with fail
  refine (own_any bs bs.length c A _ (HB.out.below HX.out.2.2) hl).mono ?_
  rintro e w2 ⟨A', c', rfl, hy, hb2⟩
  have HY := Lib.hid (And.intro hy (HX.out.2.2.trans (hb2.mono HX.out.2.2.size)))
  clear hy hb2
  go_wp2
  go_ret2
  exact ⟨A', c', rfl, HY.out.1, HY.out.2⟩
theorem refundo_odd1 (p : PaV) (A : Option Addr) (c : Nat) (bs : List Nat) (w : World) (hl : bs.length ≤ 100000) (hE : p.E = 0) (hp : 10 ≤ p.pr) (hm : ¬ bs.length % (1 + p.n) = 0) :
    Calls Try.prog 9 #[p.val, .slice A bs.length c] w (AnsIs (4, []) w) := by
  obtain ⟨hok, -⟩ := PaV.E_zero hE
  have HE := Lib.hid hE
  have HO := Lib.hid hok
  have hnn := hok.n_is.2
  obtain ⟨n, hn⟩ : ∃ n, p.n = n := ⟨_, rfl⟩
  rw [hn] at hm hnn
  have HN := Lib.hid hn
  have g1 : (p.pr == 1) = false := by simp; omega
  have g2 : (p.pr == 2) = false := by simp; omega
  have hw1 : IntKind.i64.wrap ((n : Int) + 1) = (n : Int) + 1 := IntWalk.i64_in _ (by omega)
  have hm0 : ((bs.length : Int) % ((n : Int) + 1) != 0) = true := by
    simp only [bne_iff_ne, ne_eq]
    intro q
    refine hm (Int.ofNat.inj ?_)
    show ((bs.length % (1 + n) : Nat) : Int) = 0
    rw [Int.natCast_emod, Int.natCast_add, Int.add_comm]
    exact q
  clear hE hok hn hp hm
  go_enter Try.func9, Try.ntmps9
  go_wp2_with fail
  refine (refcheck_any p _).mono ?_
  rintro e w1 ⟨rfl, hb⟩
  rw [HE.out]
  have HX := Lib.hid (p_cells hb)
  obtain ⟨c0, c1, c2, c3⟩ := HX.out.1
  have lx := HX.out.2.1
  clear hb
  go_wp2_with fail
  refine (refrow_ok p _ HO.out).mono ?_
  rintro e w2 ⟨rfl, hb2⟩
  rw [HN.out]
  have HX2 := Lib.hid (And.intro (C4.later HX.out.1 HX.out.2.1 hb2) (And.intro (Nat.lt_of_lt_of_le HX.out.2.1 hb2.size) (HX.out.2.2.trans (hb2.mono HX.out.2.2.size))))
  clear hb2 c0 c1 c2 c3 lx
  obtain ⟨c0, c1, c2, c3⟩ := HX2.out.1
  have lx := HX2.out.2.1
  go_wp2_with fail
  refine (refstep9_any p _ HO.out).mono ?_
  rintro e w3 ⟨rfl, hb3⟩
  have HX3 := Lib.hid (And.intro (C4.later HX2.out.1 HX2.out.2.1 hb3) (And.intro (Nat.lt_of_lt_of_le HX2.out.2.1 hb3.size) (HX2.out.2.2.trans (hb3.mono HX2.out.2.2.size))))
  clear hb3 c0 c1 c2 c3 lx HX HX2
  obtain ⟨c0, c1, c2, c3⟩ := HX3.out.1
  have lx := HX3.out.2.1
  go_wp2
  go_ret2
  exact AnsIs.err HX3.out.2.2
theorem refundo_odd0 (p : PaV) (A : Option Addr) (c : Nat) (bs : List Nat) (w : World) (hl : bs.length ≤ 100000) (hE : p.E = 0) (hp : p.pr = 2) (hm : ¬ bs.length % (0 + p.n) = 0) :
    Calls Try.prog 9 #[p.val, .slice A bs.length c] w (AnsIs (4, []) w) := by
  obtain ⟨hok, -⟩ := PaV.E_zero hE
  have HE := Lib.hid hE
  have HO := Lib.hid hok
  have hnn := hok.n_is.2
  obtain ⟨n, hn⟩ : ∃ n, p.n = n := ⟨_, rfl⟩
  rw [hn] at hm hnn
  have HN := Lib.hid hn
  have g1 : (p.pr == 1) = false := by simp; omega
  have g2 : (p.pr == 2) = true := by rw [hp]; rfl
  have hw1 : IntKind.i64.wrap (n : Int) = (n : Int) := IntWalk.i64_in _ (by omega)
  have hm0 : ((bs.length : Int) % ((n : Int)) != 0) = true := by
    simp only [bne_iff_ne, ne_eq]
    intro q
    refine hm (Int.ofNat.inj ?_)
    show ((bs.length % (0 + n) : Nat) : Int) = 0
    rw [Int.natCast_emod, Nat.zero_add]
    exact q
  clear hE hok hn hp hm
  go_enter Try.func9, Try.ntmps9
  go_wp2_with fail
  refine (refcheck_any p _).mono ?_
  rintro e w1 ⟨rfl, hb⟩
  rw [HE.out]
  have HX := Lib.hid (p_cells hb)
  obtain ⟨c0, c1, c2, c3⟩ := HX.out.1
  have lx := HX.out.2.1
  clear hb
  go_wp2_with fail
  refine (refrow_ok p _ HO.out).mono ?_
  rintro e w2 ⟨rfl, hb2⟩
  rw [HN.out]
  have HX2 := Lib.hid (And.intro (C4.later HX.out.1 HX.out.2.1 hb2) (And.intro (Nat.lt_of_lt_of_le HX.out.2.1 hb2.size) (HX.out.2.2.trans (hb2.mono HX.out.2.2.size))))
  clear hb2 c0 c1 c2 c3 lx
  obtain ⟨c0, c1, c2, c3⟩ := HX2.out.1
  have lx := HX2.out.2.1
  go_wp2_with fail
  refine (refstep9_any p _ HO.out).mono ?_
  rintro e w3 ⟨rfl, hb3⟩
  have HX3 := Lib.hid (And.intro (C4.later HX2.out.1 HX2.out.2.1 hb3) (And.intro (Nat.lt_of_lt_of_le HX2.out.2.1 hb3.size) (HX2.out.2.2.trans (hb3.mono HX2.out.2.2.size))))
  clear hb3 c0 c1 c2 c3 lx HX HX2
  obtain ⟨c0, c1, c2, c3⟩ := HX3.out.1
  have lx := HX3.out.2.1
  go_wp2
  go_ret2
  exact AnsIs.err HX3.out.2.2
theorem refundo_any (p : PaV) (A : Option Addr) (n c : Nat) (bs : List Nat) (w : World) (h : Bytes w A n c bs) (hl : n ≤ 100000) :
    Calls Try.prog 9 #[p.val, .slice A n c] w (AnsIs (undoS p bs) w) := by
  obtain rfl := h.len
  by_cases hE : p.E = 0
  rotate_left
  · have hr : undoS p bs = (p.E, []) := if_pos hE
    rw [hr]; exact refundo_bad p A c bs w hE
  obtain ⟨hok, -⟩ := PaV.E_zero hE
  have hnn := hok.n_is.2
  by_cases h1 : p.pr = 1
  · have hr : undoS p bs = (0, bs) := by unfold undoS; rw [if_neg (by simp [hE]), if_neg (by omega), if_pos h1]
    rw [hr]; exact refundo_one p A c bs w h hl hE h1
  rcases rpng_of hok h1 with hp | hp
  · have e10 : decide (10 ≤ p.pr) = true := decide_eq_true hp
    have eh : headM true = 1 := rfl
    by_cases hm : bs.length % (1 + p.n) = 0
    · have hr : undoS p bs = (match undoN 1 p.n p.s bs (bs.length / (1 + p.n)) with | none => (4, []) | some o => (0, o)) := by
        unfold undoS; rw [if_neg (by simp [hE]), if_neg (by omega), if_neg h1, e10, eh, if_neg (fun h => h hm)]; rfl
      rw [hr]; exact refundo_ok p 1 A c (bs.length / (1 + p.n)) bs w h hE (.inl ⟨rfl, hp⟩) (by omega) (by have := Nat.div_add_mod bs.length (1 + p.n); rw [hm, Nat.mul_comm] at this; omega)
    · have hr : undoS p bs = (4, []) := by
        unfold undoS; rw [if_neg (by simp [hE]), if_neg (by omega), if_neg h1, e10, eh, if_pos hm]
      rw [hr]; exact refundo_odd1 p A c bs w hl hE hp hm
  · have e10 : decide (10 ≤ p.pr) = false := decide_eq_false (by omega)
    have eh : headM false = 0 := rfl
    by_cases hm : bs.length % (0 + p.n) = 0
    · have hr : undoS p bs = (match undoN 0 p.n p.s bs (bs.length / (0 + p.n)) with | none => (4, []) | some o => (0, o)) := by
        unfold undoS; rw [if_neg (by simp [hE]), if_neg (by omega), if_neg h1, e10, eh, if_neg (fun h => h hm)]; rfl
      rw [hr]; exact refundo_ok p 0 A c (bs.length / (0 + p.n)) bs w h hE (.inr ⟨rfl, hp⟩) (by omega) (by have := Nat.div_add_mod bs.length (0 + p.n); rw [hm, Nat.mul_comm] at this; omega)
    · have hr : undoS p bs = (4, []) := by
        unfold undoS; rw [if_neg (by simp [hE]), if_neg (by omega), if_neg h1, e10, eh, if_pos hm]
      rw [hr]; exact refundo_odd0 p A c bs w hl hE hp hm
theorem refdo_bad (p : PaV) (tag : Int) (A : Option Addr) (c : Nat) (bs : List Nat) (w : World) (hE : p.E ≠ 0) :
    Calls Try.prog 11 #[p.val, .int .i64 tag, .slice A bs.length c] w (AnsIs (p.E, []) w) := by
  have g1 : (p.E != 0) = true := by simp [hE]
  clear hE
  go_enter Try.func11, Try.ntmps11
  go_wp2_with fail
  refine (refcheck_any p _).mono ?_
  rintro e w1 ⟨rfl, hb⟩
  skip
  have HX := Lib.hid (p_cells hb)
  obtain ⟨c0, c1, c2, c3⟩ := HX.out.1
  have lx := HX.out.2.1
  clear hb
  go_wp2
  go_ret2
  exact AnsIs.err HX.out.2.2
theorem refdo_low (p : PaV) (tag : Int) (A : Option Addr) (c : Nat) (bs : List Nat) (w : World) (hE : p.E = 0) (ht : tag < 0) :
    Calls Try.prog 11 #[p.val, .int .i64 tag, .slice A bs.length c] w (AnsIs (1, []) w) := by
  have HE := Lib.hid hE
  have d1 : decide (tag < 0) = true := by simp; omega
  clear hE ht
  go_enter Try.func11, Try.ntmps11
  go_wp2_with fail
  refine (refcheck_any p _).mono ?_
  rintro e w1 ⟨rfl, hb⟩
  rw [HE.out]
  have HX := Lib.hid (p_cells hb)
  obtain ⟨c0, c1, c2, c3⟩ := HX.out.1
  have lx := HX.out.2.1
  clear hb
  go_wp2
  go_ret2
  exact AnsIs.err HX.out.2.2
theorem refdo_high (p : PaV) (tag : Int) (A : Option Addr) (c : Nat) (bs : List Nat) (w : World) (hE : p.E = 0) (ht : 4 < tag) :
    Calls Try.prog 11 #[p.val, .int .i64 tag, .slice A bs.length c] w (AnsIs (1, []) w) := by
  have HE := Lib.hid hE
  have d1 : decide (tag < 0) = false := by simp; omega
  have d2 : decide (4 < tag) = true := by simp; omega
  clear hE ht
  go_enter Try.func11, Try.ntmps11
  go_wp2_with fail
  refine (refcheck_any p _).mono ?_
  rintro e w1 ⟨rfl, hb⟩
  rw [HE.out]
  have HX := Lib.hid (p_cells hb)
  obtain ⟨c0, c1, c2, c3⟩ := HX.out.1
  have lx := HX.out.2.1
  clear hb
  go_wp2
  go_ret2
  exact AnsIs.err HX.out.2.2
theorem refdo_one (p : PaV) (tag : Int) (A : Option Addr) (c : Nat) (bs : List Nat) (w : World) (HB : Hid (Bytes w A bs.length c bs)) (hl : bs.length ≤ 100000) (hE : p.E = 0) (ht0 : 0 ≤ tag) (ht4 : tag ≤ 4) (h1 : p.pr = 1) :
    Calls Try.prog 11 #[p.val, .int .i64 tag, .slice A bs.length c] w (AnsIs (0, bs) w) := by
  have HE := Lib.hid hE
  have H1 := Lib.hid h1
  clear hE h1
  have d1 : decide (tag < 0) = false := by simp; omega
  have d2 : decide (4 < tag) = false := by simp; omega
  clear ht0 ht4
  go_enter Try.func11, Try.ntmps11
  go_wp2_with fail
  refine (refcheck_any p _).mono ?_
  rintro e w1 ⟨rfl, hb⟩
  rw [HE.out]
  have HX := Lib.hid (p_cells hb)
  obtain ⟨c0, c1, c2, c3⟩ := HX.out.1
  have lx := HX.out.2.1
  clear hb
  rw [H1.out] at c0
  go_wp2_with fail
  refine (own_any bs bs.length c A _ (HB.out.below HX.out.2.2) hl).mono ?_
  rintro e w2 ⟨A', c', rfl, hy, hb2⟩
  have HY := Lib.hid (And.intro hy (HX.out.2.2.trans (hb2.mono HX.out.2.2.size)))
  clear hy hb2
  go_wp2
  go_ret2
  exact ⟨A', c', rfl, HY.out.1, HY.out.2⟩
theorem refdo_odd (p : PaV) (tag : Int) (A : Option Addr) (c : Nat) (bs : List Nat) (w : World) (hl : bs.length ≤ 100000) (hE : p.E = 0) (ht0 : 0 ≤ tag) (ht4 : tag ≤ 4) (h1 : p.pr ≠ 1) (hm : ¬ bs.length % p.n = 0) :
    Calls Try.prog 11 #[p.val, .int .i64 tag, .slice A bs.length c] w (AnsIs (4, []) w) := by
  obtain ⟨hok, -⟩ := PaV.E_zero hE
  have HE := Lib.hid hE
  have HO := Lib.hid hok
  have hnn := hok.n_is.2
  obtain ⟨n, hn⟩ : ∃ n, p.n = n := ⟨_, rfl⟩
  rw [hn] at hm hnn
  have HN := Lib.hid hn
  have g1 : (p.pr == 1) = false := by simp; omega
  have hm0 : ((bs.length : Int) % (n : Int) != 0) = true := by
    simp only [bne_iff_ne, ne_eq]
    intro q
    refine hm (Int.ofNat.inj ?_)
    show ((bs.length % n : Nat) : Int) = 0
    rw [Int.natCast_emod]
    exact q
  clear hE hok hn h1 hm
  have d1 : decide (tag < 0) = false := by simp; omega
  have d2 : decide (4 < tag) = false := by simp; omega
  clear ht0 ht4
  go_enter Try.func11, Try.ntmps11
  go_wp2_with fail
  refine (refcheck_any p _).mono ?_
  rintro e w1 ⟨rfl, hb⟩
  rw [HE.out]
  have HX := Lib.hid (p_cells hb)
  obtain ⟨c0, c1, c2, c3⟩ := HX.out.1
  have lx := HX.out.2.1
  clear hb
  go_wp2_with fail
  refine (refrow_ok p _ HO.out).mono ?_
  rintro e w2 ⟨rfl, hb2⟩
  rw [HN.out]
  have HX2 := Lib.hid (And.intro (C4.later HX.out.1 HX.out.2.1 hb2) (And.intro (Nat.lt_of_lt_of_le HX.out.2.1 hb2.size) (HX.out.2.2.trans (hb2.mono HX.out.2.2.size))))
  clear hb2 c0 c1 c2 c3 lx
  obtain ⟨c0, c1, c2, c3⟩ := HX2.out.1
  have lx := HX2.out.2.1
  go_wp2_with fail
  refine (refstep9_any p _ HO.out).mono ?_
  rintro e w3 ⟨rfl, hb3⟩
  have HX3 := Lib.hid (And.intro (C4.later HX2.out.1 HX2.out.2.1 hb3) (And.intro (Nat.lt_of_lt_of_le HX2.out.2.1 hb3.size) (HX2.out.2.2.trans (hb3.mono HX2.out.2.2.size))))
  clear hb3 c0 c1 c2 c3 lx HX HX2
  obtain ⟨c0, c1, c2, c3⟩ := HX3.out.1
  have lx := HX3.out.2.1
  go_wp2
  go_ret2
  exact AnsIs.err HX3.out.2.2
theorem refdo_any (p : PaV) (tag : Int) (A : Option Addr) (n c : Nat) (bs : List Nat) (w : World) (h : Bytes w A n c bs) (hl : n ≤ 100000) :
    Calls Try.prog 11 #[p.val, .int .i64 tag, .slice A n c] w (AnsIs (doS p tag bs) w) := by
  obtain rfl := h.len
  by_cases hE : p.E = 0
  rotate_left
  · have hr : doS p tag bs = (p.E, []) := if_pos hE
    rw [hr]; exact refdo_bad p tag A c bs w hE
  by_cases ht : tag < 0 ∨ 5 ≤ tag
  · have hr : doS p tag bs = (1, []) := by unfold doS; rw [if_neg (by simp [hE]), if_pos ht]
    rw [hr]
    rcases ht with ht | ht
    · exact refdo_low p tag A c bs w hE ht
    · exact refdo_high p tag A c bs w hE (by omega)
  obtain ⟨hok, -⟩ := PaV.E_zero hE
  have hnn := hok.n_is.2
  by_cases h1 : p.pr = 1
  · have hr : doS p tag bs = (0, bs) := by unfold doS; rw [if_neg (by simp [hE]), if_neg ht, if_neg (by omega), if_pos h1]
    rw [hr]; exact refdo_one p tag A c bs w h hl hE (by omega) (by omega) h1
  by_cases hm : bs.length % p.n = 0
  · have hr : doS p tag bs = (0, doN (headM (decide (10 ≤ p.pr))) p.n p.s (tagOf p tag) bs (bs.length / p.n)) := by
      unfold doS; rw [if_neg (by simp [hE]), if_neg ht, if_neg (by omega), if_neg h1, if_neg (by simp [hm])]
    rw [hr]
    have hK : bs.length = bs.length / p.n * p.n := by have := Nat.div_add_mod bs.length p.n; rw [hm, Nat.mul_comm] at this; omega
    rcases rpng_of hok h1 with hp | hp
    · have e10 : decide (10 ≤ p.pr) = true := decide_eq_true hp
      have et : tagOf p tag = tag.toNat := by unfold tagOf; rw [e10]; rfl
      rw [et, e10]
      exact refdo_ok p 1 tag.toNat tag A c (bs.length / p.n) bs w h hE (by omega) (by omega) (.inl ⟨rfl, hp, by omega⟩) (by omega) hK
    · have e10 : decide (10 ≤ p.pr) = false := decide_eq_false (by omega)
      have et : tagOf p tag = 1 := by unfold tagOf; rw [e10]; rfl
      rw [et, e10]
      exact refdo_ok p 0 1 tag A c (bs.length / p.n) bs w h hE (by omega) (by omega) (.inr ⟨rfl, hp, rfl⟩) (by omega) hK
  · have hr : doS p tag bs = (4, []) := by unfold doS; rw [if_neg (by simp [hE]), if_neg ht, if_neg (by omega), if_neg h1, if_pos hm]
    rw [hr]; exact refdo_odd p tag A c bs w hl hE (by omega) (by omega) h1 hm
end Go.Proofs.Ytjligbfijjejmaa
