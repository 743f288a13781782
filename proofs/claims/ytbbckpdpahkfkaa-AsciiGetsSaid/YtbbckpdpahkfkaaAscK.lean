/- The decoder's group, take and rest: walked. -/
import Derived.Test.YtbbckpdpahkfkaaAscJ
namespace Go.Proofs.Ytbbckpdpahkfkaa
open Go.RowKit

/-- What a method answers, and how it leaves the decoder. -/
def TakeIs (D B most : Nat) (r : Option (List Nat × Nat × Nat)) (W : World) (e : Ending) (W' : World) : Prop :=
  KD D B W W' ∧ match r with
    | none => e = .returned (.int .i64 4)
    | some (bs, N, H) => e = .returned (.int .i64 0) ∧ ∃ v', DW D B most v' bs N H W'
set_option maxRecDepth 100000 in
set_option maxHeartbeats 4000000 in
theorem group_any (D B most : Nat) (v : Value) (bs : List Nat) (N H k : Nat) (W : World) (h : DW D B most v bs N H W) (hN : N < 4500000000) (h1 : 1 ≤ k) (h4 : k ≤ 4) (hbl : bs.length ≤ 2000000) :
    Calls Try.prog 35 #[.pointer (some ⟨D, 0, none⟩), .int .i64 k] W (TakeIs D B most (if 4294967295 < N then none else some (addB most bs ((fourB N).take k), 0, 0)) W) := by
  have r2 : W.cell? ⟨D, 2, none⟩ = some (.int .i64 (N : Int)) := h.box.reads 2
  have lD := h.box.lt
  have HX := Lib.hid h
  clear h
  by_cases hbig : 4294967295 < N
  · rw [if_pos hbig]
    have hg : decide ((4294967295 : Int) < (N : Int)) = true := by simp; omega
    go_enter Try.func35, Try.ntmps35
    go_wp2_with fail
    go_ret
    exact ⟨Fr.refl _ W, rfl⟩
  · rw [if_neg hbig]
    have hg : decide ((4294967295 : Int) < (N : Int)) = false := by simp; omega
    go_enter Try.func35, Try.ntmps35
    go_wp2_with fail
    refine (add_any D B most v bs N H N k W HX.out (by omega) h1 h4 hbl).mono ?_
    rintro e w1 ⟨rfl, v1, hd1, hk1⟩
    have H1 := Lib.hid (And.intro hd1 hk1)
    have f2 := hd1.box.thawed 2
    have f3 := hd1.box.thawed 3
    have c2 : w1.cell? ⟨D, 2, none⟩ = some (.int .i64 (N : Int)) := hd1.box.reads 2
    have c3 : w1.cell? ⟨D, 3, none⟩ = some (.int .i64 (H : Int)) := hd1.box.reads 3
    have l1 := hd1.box.lt
    clear hd1 hk1 r2 lD
    go_wp2_with fail
    go_ret
    have hb := (H1.out.1.box.set 2 (.int .i64 0)).set 3 (.int .i64 0)
    have hf : Fr (fun k => k = D) w1 ((w1.setCell ⟨D, 2, none⟩ (.int .i64 0)).setCell ⟨D, 3, none⟩ (.int .i64 0)) := ((Fr.refl _ _).setB _ _).setB _ _
    refine ⟨H1.out.2.trans (hf.more (fun j _ e => .inl e)), rfl, v1, by simpa using hb, own_frame H1.out.1.own hf (fun g e e2 => by have := (own_lt H1.out.1.own e).1; have := H1.out.1.lt; omega), H1.out.1.byte, H1.out.1.lt, by have := hf.size; have := H1.out.1.size; omega⟩
theorem DW.set2 {D B most N H N' : Nat} {v : Value} {bs : List Nat} {W : World} (h : DW D B most v bs N H W) : DW D B most v bs N' H (W.setCell ⟨D, 2, none⟩ (.int .i64 (N' : Int))) :=
  ⟨by simpa using h.box.set 2 (.int .i64 (N' : Int)), own_frame h.own ((Fr.refl (fun k => k = D) W).setB _ _) (fun g e e2 => by have := (own_lt h.own e).1; have := h.lt; omega), h.byte, h.lt, by simpa using h.size⟩
theorem DW.set3 {D B most N H H' : Nat} {v : Value} {bs : List Nat} {W : World} (h : DW D B most v bs N H W) : DW D B most v bs N H' (W.setCell ⟨D, 3, none⟩ (.int .i64 (H' : Int))) :=
  ⟨by simpa using h.box.set 3 (.int .i64 (H' : Int)), own_frame h.own ((Fr.refl (fun k => k = D) W).setB _ _) (fun g e e2 => by have := (own_lt h.own e).1; have := h.lt; omega), h.byte, h.lt, by simpa using h.size⟩
theorem KD.set {D B : Nat} (W : World) (i : Nat) (u : Value) : KD D B W (W.setCell ⟨D, i, none⟩ u) := (Fr.refl _ W).set (p := ⟨D, i, none⟩) (fun _ => .inl rfl) u
set_option maxRecDepth 100000 in
set_option maxHeartbeats 4000000 in
theorem take_z (D B most : Nat) (v : Value) (bs : List Nat) (W : World) (h : DW D B most v bs 0 0 W) (hbl : bs.length ≤ 2000000) :
    Calls Try.prog 28 #[.pointer (some ⟨D, 0, none⟩), .int .i32 122] W (TakeIs D B most (some (addB most bs [0, 0, 0, 0], 0, 0)) W) := by
  have r3 : W.cell? ⟨D, 3, none⟩ = some (.int .i64 0) := h.box.reads 3
  have lD := h.box.lt
  have hadd := add_any D B most v bs 0 0 0 4 W h (by omega) (by omega) (by omega) hbl
  have HA := Lib.hid hadd
  clear h hadd
  go_enter Try.func28, Try.ntmps28
  go_wp2_with fail
  refine HA.out.mono ?_
  rintro e w1 ⟨rfl, v1, hd1, hk1⟩
  have H1 := Lib.hid (And.intro hd1 hk1)
  clear hd1 hk1
  go_wp2_with fail
  go_ret
  exact ⟨H1.out.2, rfl, v1, H1.out.1⟩
set_option maxRecDepth 100000 in
set_option maxHeartbeats 4000000 in
theorem take_bad (D B most : Nat) (v : Value) (bs : List Nat) (N H c : Nat) (W : World) (h : DW D B most v bs N H W) (hc : c < 33 ∨ 117 < c) (hz : ¬ (c = 122 ∧ H = 0)) :
    Calls Try.prog 28 #[.pointer (some ⟨D, 0, none⟩), .int .i32 c] W (TakeIs D B most none W) := by
  have r3 : W.cell? ⟨D, 3, none⟩ = some (.int .i64 (H : Int)) := h.box.reads 3
  have lD := h.box.lt
  have hg : ((((c : Int) == 122) = true ∧ ((H : Int) == 0) = false) ∨ ((c : Int) == 122) = false) ∧ ((decide ((c : Int) < 33) = true) ∨ (decide ((c : Int) < 33) = false ∧ decide ((117 : Int) < (c : Int)) = true)) := by
    simp only [beq_iff_eq, beq_eq_false_iff_ne, ne_eq, decide_eq_true_eq, decide_eq_false_iff_not]
    omega
  clear h hz hc
  obtain ⟨hg1, hg2⟩ := hg
  rcases hg1 with ⟨h1, h2⟩ | h1 <;> rcases hg2 with h3 | ⟨h3, h4⟩
  all_goals
    go_enter Try.func28, Try.ntmps28
    go_wp2_with fail
    go_ret
    exact ⟨Fr.refl _ W, rfl⟩
set_option maxRecDepth 100000 in
set_option maxHeartbeats 4000000 in
theorem take_hold (D B most : Nat) (v : Value) (bs : List Nat) (N H c N' : Nat) (W : World) (h : DW D B most v bs N H W) (hN : N < 60000000) (hH : H < 4) (hc : 33 ≤ c ∧ c ≤ 117) (hN' : 85 * N + (c - 33) = N') :
    Calls Try.prog 28 #[.pointer (some ⟨D, 0, none⟩), .int .i32 c] W (TakeIs D B most (some (bs, N', H + 1)) W) := by
  have r2 : W.cell? ⟨D, 2, none⟩ = some (.int .i64 (N : Int)) := h.box.reads 2
  have r3 : W.cell? ⟨D, 3, none⟩ = some (.int .i64 (H : Int)) := h.box.reads 3
  have f2 := h.box.thawed 2
  have f3 := h.box.thawed 3
  have lD := h.box.lt
  have h1 : ((c : Int) == 122) = false := by simp; omega
  have h3 : decide ((c : Int) < 33) = false := by simp; omega
  have h4 : decide ((117 : Int) < (c : Int)) = false := by simp; omega
  have h5 : decide ((H : Int) + 1 < 5) = true := by simp; omega
  have hw : IntKind.i32.wrap ((c : Int) - 33) = (c : Int) - 33 := IntWalk.i32_in _ (by omega)
  have HE := Lib.hid (show (N : Int) * 85 + ((c : Int) - 33) = (N' : Int) by omega)
  have HX := Lib.hid h
  clear h hN'
  go_enter Try.func28, Try.ntmps28
  go_wp2_with fail
  go_ret
  have hd := (HX.out.set2 (N' := N')).set3 (H' := H + 1)
  rw [HE.out]
  exact ⟨(KD.set W 2 _).trans (KD.set _ 3 _), rfl, v, by simpa using hd⟩
set_option maxRecDepth 100000 in
set_option maxHeartbeats 4000000 in
theorem take_full (D B most : Nat) (v : Value) (bs : List Nat) (N c N' : Nat) (W : World) (h : DW D B most v bs N 4 W) (hN : N < 52200625) (hc : 33 ≤ c ∧ c ≤ 117) (hN' : 85 * N + (c - 33) = N') (hbl : bs.length ≤ 2000000) :
    Calls Try.prog 28 #[.pointer (some ⟨D, 0, none⟩), .int .i32 c] W (TakeIs D B most (if 4294967295 < N' then none else some (addB most bs (fourB N'), 0, 0)) W) := by
  have r2 : W.cell? ⟨D, 2, none⟩ = some (.int .i64 (N : Int)) := h.box.reads 2
  have r3 : W.cell? ⟨D, 3, none⟩ = some (.int .i64 4) := h.box.reads 3
  have f2 := h.box.thawed 2
  have f3 := h.box.thawed 3
  have lD := h.box.lt
  have h1 : ((c : Int) == 122) = false := by simp; omega
  have h3 : decide ((c : Int) < 33) = false := by simp; omega
  have h4 : decide ((117 : Int) < (c : Int)) = false := by simp; omega
  have hw : IntKind.i32.wrap ((c : Int) - 33) = (c : Int) - 33 := IntWalk.i32_in _ (by omega)
  have HE := Lib.hid (show (N : Int) * 85 + ((c : Int) - 33) = (N' : Int) by omega)
  have hd := (h.set2 (N' := N')).set3 (H' := 5)
  have hgr := group_any D B most v bs N' 5 4 _ hd (by omega) (by omega) (by omega) hbl
  have HG := Lib.hid hgr
  obtain ⟨R, hR⟩ : ∃ R, (if 4294967295 < N' then none else some (addB most bs (fourB N'), 0, 0)) = R := ⟨_, rfl⟩
  have HR := Lib.hid hR
  rw [hR]
  clear h hd hgr hN' hR
  go_enter Try.func28, Try.ntmps28
  go_wp2_with fail
  rw [HE.out]
  refine HG.out.mono ?_
  rintro e w1 ⟨hk, ht⟩
  have hf4 : (fourB N').take 4 = fourB N' := rfl
  rw [hf4, HR.out] at ht
  have hk2 := Lib.hid (((KD.set (B := B) W 2 (.int .i64 (N' : Int))).trans (KD.set _ 3 (.int .i64 5))).trans hk)
  cases R with
  | none =>
    obtain rfl := ht
    go_wp2_with fail
    go_ret
    exact ⟨hk2.out, rfl⟩
  | some q =>
    obtain ⟨bs', N2, H2⟩ := q
    obtain ⟨rfl, v', hd⟩ := ht
    have HD := Lib.hid hd
    clear hd
    go_wp2_with fail
    go_ret
    exact ⟨hk2.out, rfl, v', HD.out⟩
end Go.Proofs.Ytbbckpdpahkfkaa
