/- inflate: size, a number of bits, a token more. -/
import Derived.Test.YtnjdnldoopgcpaaDoorInfA
import Derived.Test.YtnjdnldoopgcpaaDoorRegionI
import Derived.Test.YtnjdnldoopgcpaaDoorRowF
namespace Go.Proofs.YtnjdnldoopgcpaaDoor
open Go.RowKit

theorem size_any (t : Tk) (w : World) : Calls Tryd.prog 23 #[.agg #[.int .i64 t.byte, .int .i64 t.len, .int .i64 t.back]] w fun e w' => e = .returned (.int .i64 (tkSize t)) ∧ Below w.heap.size w w' := by
  by_cases h : 1 < t.len
  · have e : tkSize t = t.len := by unfold tkSize; omega
    rw [e]
    go_enter Tryd.func23, Tryd.ntmps23
    go_wp2_with fail
    go_ret
    exact ⟨rfl, (Below.refl _ _).alloc (Nat.le_refl _) _⟩
  · have e : tkSize t = 1 := by unfold tkSize; omega
    rw [e]
    go_enter Tryd.func23, Tryd.ntmps23
    go_wp2_with fail
    go_ret
    exact ⟨rfl, (Below.refl _ _).alloc (Nat.le_refl _) _⟩
/-- What Bits answers. -/
def BitsIs (B R N L k : Nat) (w : World) (e : Ending) (w' : World) : Prop :=
  ∃ (v : Nat) (E : Int), e = .returned (.tuple #[.int .i64 (v : Int), .int .i64 E]) ∧ Fr (fun k => k = B) w w' ∧ ((E = 0 ∧ ∃ N' L', bitsP k N L = .ok (v, N', L') ∧ L' ≤ L ∧ v < 2 ^ k ∧ RD w' B R N' L') ∨ (E ≠ 0 ∧ v = 0 ∧ bitsP k N L = .error E))
theorem bits_is (B R N L k : Nat) (w : World) (h : RD w B R N L) (hk : k ≤ 24) :
    Calls Tryd.prog 69 #[.pointer (some ⟨B, 0, none⟩), .int .i64 (k : Int)] w (BitsIs B R N L k w) := by
  by_cases hL : k ≤ L
  · refine Calls.mono (rbits_any B R N L k w h hk hL) ?_
    rintro e w' ⟨rfl, h1, h2⟩
    exact ⟨N % 2 ^ k, 0, rfl, (Fr.of_grown h2).more (fun _ _ e => by injection e), .inl ⟨rfl, _, _, by unfold bitsP; rw [if_pos hL], by omega, Nat.mod_lt _ (Nat.two_pow_pos k), h1⟩⟩
  · refine Calls.mono (rbits_more B R N L k w h hk (by omega)) ?_
    rintro e w' ⟨rfl, j, rfl⟩
    exact ⟨0, 6, rfl, (Fr.refl _ _).drewN j, .inr ⟨by decide, rfl, by unfold bitsP; rw [if_neg hL]⟩⟩
/-- What a table's Read answers. -/
def SymIs (l : List Int) (B R N L : Nat) (w : World) (e : Ending) (w' : World) : Prop :=
  ∃ (s : Nat) (E : Int), e = .returned (.tuple #[.int .i64 (s : Int), .int .i64 E]) ∧ Fr (fun k => k = B) w w' ∧ ((E = 0 ∧ ∃ N' L', readP l N L = .ok (s, N', L') ∧ s < l.length ∧ L' < L ∧ RD w' B R N' L') ∨ (E ≠ 0 ∧ s = 0 ∧ readP l N L = .error E))
theorem sym_is {P : Nat} {l : List Int} {B R N L : Nat} {w : World} (h : TabAt w P l) (hr : RD w B R N L) :
    Calls Tryd.prog 76 #[.pointer (some ⟨P, 0, none⟩), .pointer (some ⟨B, 0, none⟩)] w (SymIs l B R N L w) := by
  refine (tab_read h hr).mono ?_
  rintro e w' (⟨s, N', L', hp, hs, hL, rfl, hr, hf⟩ | ⟨E, hp, hE, rfl, hf⟩)
  · exact ⟨s, 0, rfl, hf, .inl ⟨rfl, N', L', hp, hs, hL, hr⟩⟩
  · exact ⟨0, E, rfl, hf, .inr ⟨hE, rfl, hp⟩⟩
end Go.Proofs.YtnjdnldoopgcpaaDoor
/- inflate: number. -/
namespace Go.Proofs.YtnjdnldoopgcpaaDoor
open Go.RowKit

theorem SpansAt.get {w : World} {A : Option Addr} {n c : Nat} {l : List (Nat × Nat)} (h : SpansAt w A n c l) {i : Nat} {p : Nat × Nat} (hx : l[i]? = some p) : ∃ R o, A = some ⟨R, o, none⟩ ∧ R < w.heap.size ∧ (∃ cs, Whole w R 112 cs) ∧
    w.cell? ⟨R, o + i * 2, none⟩ = some (.int .i64 (p.1 : Int)) ∧ w.cell? ⟨R, o + i * 2 + 1, none⟩ = some (.int .i64 (p.2 : Int)) := by
  have hi := (List.getElem?_eq_some_iff.1 hx).1
  have hl := h.1.len
  rw [List.length_map] at hl
  obtain ⟨R, o, e, hR, hk⟩ := RowAt.at_ h.1 (by omega)
  have hm : (l.map spV)[i]? = some (spV p) := by rw [List.getElem?_map, hx]; rfl
  obtain ⟨cs, hw⟩ := h.2 R o e
  exact ⟨R, o, e, hR, ⟨cs, hw⟩, hk i _ hm 0 _ rfl, hk i _ hm 1 _ rfl⟩
/-- What number answers. -/
def NumIs (x : Cx) (N L : Nat) (tb : List (Nat × Nat)) (s : Nat) (w : World) (e : Ending) (w' : World) : Prop :=
  ∃ (v : Nat) (E : Int), e = .returned (.tuple #[.int .i64 (v : Int), .int .i64 E]) ∧ Fr (fun k => k = x.B) w w' ∧ ((E = 0 ∧ ∃ N' L', numberP tb s N L = .ok (v, N', L') ∧ L' ≤ L ∧ v ≤ 100000 ∧ RD w' x.B x.R N' L') ∨ (E ≠ 0 ∧ v = 0 ∧ numberP tb s N L = .error E))
set_option maxRecDepth 100000 in
set_option maxHeartbeats 4000000 in
theorem number_any (x : Cx) (p3 p4 : Value) (a : Acc) (N L : Nat) (A : Option Addr) (n c : Nat) (tb : List (Nat × Nat)) (s : Nat) (w : World) (h : DecS x w p3 p4 a N L) (ht : SpansAt w A n c tb) (hs1 : s ≤ 100000) (hb : ∀ p ∈ tb, p.1 ≤ 40000 ∧ p.2 ≤ 13) :
    Calls Tryd.prog 83 #[.pointer (some ⟨x.D, 0, none⟩), .slice A n c, .int .i64 (s : Int)] w (NumIs x N L tb s w) := by
  have hl := ht.1.len
  rw [List.length_map] at hl
  have hcap := ht.1.cap
  have htop := ht.1.top
  by_cases hlt : s < n
  · obtain ⟨p, hp⟩ : ∃ p, tb[s]? = some p := ⟨_, List.getElem?_eq_getElem (by omega)⟩
    obtain ⟨hp1, hp2⟩ := hb p (List.mem_of_getElem? hp)
    obtain ⟨R1, o1, rfl, hR1, ⟨cs1, hw1⟩, f1, f2⟩ := ht.get hp
    obtain ⟨rc, hrw⟩ := h.rd.whole
    obtain ⟨v0, hw, ho⟩ := h.whole
    have hD0 : w.cell? ⟨x.D, 0, none⟩ = some (.pointer (some ⟨x.B, 0, none⟩)) := hw.reads 0
    have HK := Lib.hid (And.intro (hw.apart hrw (by decide)) (And.intro hw.lt (And.intro hD0 (And.intro (hw1.apart hrw (by decide)) (And.intro hR1 f2)))))
    have HK1 := Lib.hid (And.intro (hw1.apart hrw (by decide)) (And.intro hR1 f1))
    have HC := Lib.hid (bits_is x.B x.R N L p.2 w.drew h.rd.drew (by omega))
    have HP := Lib.hid (show numberP tb s = bnd (bitsP p.2) fun y => rtn (p.1 + y) by unfold numberP; rw [hp])
    have d1 : decide ((s : Int) ≥ (n : Int)) = false := decide_eq_false (by omega)
    have b1 : (0 : Int) ≤ (s : Int) := by omega
    have b2 : (s : Int) < (n : Int) := by omega
    have hpow : (2 : Nat) ^ p.2 ≤ 8192 := Nat.le_trans (Nat.pow_le_pow_right (by decide) hp2) (by decide)
    clear h ht hb hp hw1 hrw hw ho hD0 f1 f2
    go_enter Tryd.func83, Tryd.ntmps83
    go_upto_region 3 with fail
    have HCC : Hid (∀ v, Fr (fun k => k = x.B) w v → (fun v => v.cell? ⟨x.D, 0, none⟩ = some (.pointer (some ⟨x.B, 0, none⟩)) ∧ v.cell? ⟨R1, o1 + s * 2 + 1, none⟩ = some (.int .i64 (p.2 : Int))) v) := Lib.hid (fun v hb => ⟨(hb.cell' HK.out.1 HK.out.2.1).trans HK.out.2.2.1, (hb.cell' HK.out.2.2.2.1 HK.out.2.2.2.2.1).trans HK.out.2.2.2.2.2⟩)
    have hbd : Fr (fun k => k = x.B) w w.drew := (Fr.refl _ _).drew
    have hS := HCC.out w.drew hbd
    refine wp_region_C (fun v => v.cell? ⟨x.D, 0, none⟩ = some (.pointer (some ⟨x.B, 0, none⟩)) ∧ v.cell? ⟨R1, o1 + s * 2 + 1, none⟩ = some (.int .i64 (p.2 : Int))) (by kernel_rfl) ?_
    refine wpAnyC_take (i := 0) (v := ?v1) rfl (by kernel_rfl) (fun _ _ _ h => h) (Or.inl ⟨by rfl, ?y1⟩) hS ?r1
    case y1 => intro wq _; go_simp; all_goals (first | with_reducible rfl | go_num | (simp; done) | (simp; omega) | skip)
    try simp only [Act.put, List.setIfInBounds_toArray, List.set_cons_zero, List.set_cons_succ]
    refine wpAnyC_take (i := 1) (v := ?v2) rfl (by kernel_rfl) (fun _ _ _ h => h) (Or.inl ⟨by rfl, ?y2⟩) hS ?r2
    case y2 => intro wq _; go_simp; all_goals (first | with_reducible rfl | go_num | (simp; done) | (simp; omega) | skip)
    try simp only [Act.put, List.setIfInBounds_toArray, List.set_cons_zero, List.set_cons_succ]
    refine wpAnyC_take (i := 2) (v := ?v3) rfl (by kernel_rfl) (fun _ _ _ h => h) (Or.inl ⟨by rfl, ?y3⟩) hS ?r3
    case y3 => intro wq _; go_simp; all_goals (first | with_reducible rfl | go_num | (simp; done) | (simp; omega) | skip)
    try simp only [Act.put, List.setIfInBounds_toArray, List.set_cons_zero, List.set_cons_succ]
    refine wpAnyC_take (i := 3) (v := .pointer (some ⟨x.B, 0, none⟩)) rfl (by kernel_rfl) (fun _ _ _ h => h) (Or.inl ⟨by rfl, ?y4⟩) hS ?r4
    case y4 => rintro wq ⟨c0, -⟩; go_simp; try with_reducible rfl
    try simp only [Act.put, List.setIfInBounds_toArray, List.set_cons_zero, List.set_cons_succ]
    refine wpAnyC_take (i := 4) (v := ?v5) rfl (by kernel_rfl) (fun _ _ _ h => h) (Or.inl ⟨by rfl, ?y5⟩) hS ?r5
    case y5 => intro wq _; go_simp; all_goals (first | with_reducible rfl | go_num | (simp; done) | (simp; omega) | skip)
    try simp only [Act.put, List.setIfInBounds_toArray, List.set_cons_zero, List.set_cons_succ]
    refine wpAnyC_take (i := 5) (v := ?v6) rfl (by kernel_rfl) (fun _ _ _ h => h) (Or.inl ⟨by rfl, ?y6⟩) hS ?r6
    case y6 => intro wq _; go_simp; all_goals (first | with_reducible rfl | go_num | (simp; done) | (simp; omega) | skip)
    try simp only [Act.put, List.setIfInBounds_toArray, List.set_cons_zero, List.set_cons_succ]
    refine wpAnyC_take (i := 6) (v := .pointer (some ⟨R1, o1 + s * 2, none⟩)) rfl (by kernel_rfl) (fun _ _ _ h => h) (Or.inl ⟨by rfl, ?y7⟩) hS ?r7
    case y7 => intro wq _; go_simp; all_goals (first | with_reducible rfl | go_num | (simp; done) | (simp; omega) | skip)
    try simp only [Act.put, List.setIfInBounds_toArray, List.set_cons_zero, List.set_cons_succ]
    refine wpAnyC_take (i := 7) (v := .pointer (some ⟨R1, o1 + s * 2 + 1, none⟩)) rfl (by kernel_rfl) (fun _ _ _ h => h) (Or.inl ⟨by rfl, ?y8⟩) hS ?r8
    case y8 => intro wq _; go_simp; all_goals (first | with_reducible rfl | go_num | (simp; done) | (simp; omega) | skip)
    try simp only [Act.put, List.setIfInBounds_toArray, List.set_cons_zero, List.set_cons_succ]
    refine wpAnyC_take (i := 8) (v := .int .i64 (p.2 : Int)) rfl (by kernel_rfl) (fun _ _ _ h => h) (Or.inl ⟨by rfl, ?y9⟩) hS ?r9
    case y9 => rintro wq ⟨-, c0⟩; go_simp; try with_reducible rfl
    try simp only [Act.put, List.setIfInBounds_toArray, List.set_cons_zero, List.set_cons_succ]
    refine wpAnyC_one (j := 9) (by kernel_rfl) rfl (fun K hK => ?_)
    go_simp
    go_at_call 69
    refine HC.out.mono ?_
    rintro e v2 ⟨v, E, rfl, kk, hv⟩
    have hb2 : Fr (fun k => k = x.B) w v2 := hbd.trans kk (fun _ _ e => e)
    have HV := Lib.hid hv
    clear kk hv
    have hS := HCC.out v2 hb2
    go_wp2_with fail
    refine hK.out _ _ ⟨hS, ?_⟩
    clear hK K
    try simp only [Act.put, List.setIfInBounds_toArray, List.set_cons_zero, List.set_cons_succ]
    refine wpAnyC_take (i := 10) (v := ?v10) rfl (by kernel_rfl) (fun _ _ _ h => h) (Or.inl ⟨by rfl, ?y10⟩) hS ?r10
    case y10 => intro wq _; go_simp; all_goals (first | with_reducible rfl | go_num | (simp; done) | (simp; omega) | skip)
    try simp only [Act.put, List.setIfInBounds_toArray, List.set_cons_zero, List.set_cons_succ]
    refine wpAnyC_take (i := 11) (v := ?v11) rfl (by kernel_rfl) (fun _ _ _ h => h) (Or.inl ⟨by rfl, ?y11⟩) hS ?r11
    case y11 => intro wq _; go_simp; all_goals (first | with_reducible rfl | go_num | (simp; done) | (simp; omega) | skip)
    try simp only [Act.put, List.setIfInBounds_toArray, List.set_cons_zero, List.set_cons_succ]
    refine wpAnyC_take (i := 12) (v := ?v12) rfl (by kernel_rfl) (fun _ _ _ h => h) (Or.inl ⟨by rfl, ?y12⟩) hS ?r12
    case y12 => intro wq _; go_simp; all_goals (first | with_reducible rfl | go_num | (simp; done) | (simp; omega) | skip)
    try simp only [Act.put, List.setIfInBounds_toArray, List.set_cons_zero, List.set_cons_succ]
    refine wpAnyC_take (i := 13) (v := ?v13) rfl (by kernel_rfl) (fun _ _ _ h => h) (Or.inl ⟨by rfl, ?y13⟩) hS ?r13
    case y13 => intro wq _; go_simp; all_goals (first | with_reducible rfl | go_num | (simp; done) | (simp; omega) | skip)
    try simp only [Act.put, List.setIfInBounds_toArray, List.set_cons_zero, List.set_cons_succ]
    refine wpAnyC_take (i := 14) (v := ?v14) rfl (by kernel_rfl) (fun _ _ _ h => h) (Or.inl ⟨by rfl, ?y14⟩) hS ?r14
    case y14 => intro wq _; go_simp; all_goals (first | with_reducible rfl | go_num | (simp; done) | (simp; omega) | skip)
    try simp only [Act.put, List.setIfInBounds_toArray, List.set_cons_zero, List.set_cons_succ]
    refine wpAnyC_done (by kernel_rfl) ?_ _
    clear hS HCC hbd HC
    have f1 := (hb2.cell' (p := ⟨R1, o1 + s * 2, none⟩) HK1.out.1 HK1.out.2.1).trans HK1.out.2.2
    have HB := Lib.hid hb2
    clear hb2
    rcases HV.out with ⟨rfl, N', L', hq, hL, hv, hr⟩ | ⟨hE, rfl, hq⟩
    · have ew : IntKind.i64.wrap ((p.1 : Int) + (v : Int)) = ((p.1 + v : Nat) : Int) := by rw [IntKind.wrap_i64]; omega
      have HR := Lib.hid (And.intro hr (And.intro hq hL))
      clear hr hq hL
      go_wp2_with fail
      go_ret2
      exact ⟨p.1 + v, 0, rfl, HB.out, .inl ⟨rfl, N', L', by rw [HP.out, bnd_ok HR.out.2.1]; rfl, HR.out.2.2, by omega, HR.out.1⟩⟩
    · have d2 : (E != 0) = true := by simp [hE]
      have HQ := Lib.hid hq
      clear hq
      go_wp2_with fail
      go_ret2
      exact ⟨0, E, rfl, HB.out, .inr ⟨hE, rfl, by rw [HP.out, bnd_er HQ.out]⟩⟩
  · have d1 : decide ((s : Int) ≥ (n : Int)) = true := decide_eq_true (by omega)
    have HP := Lib.hid (show numberP tb s = bad 4 by unfold numberP; rw [List.getElem?_eq_none (by omega)])
    clear h ht hb
    go_enter Tryd.func83, Tryd.ntmps83
    go_wp2_with fail
    go_ret2
    exact ⟨0, 4, rfl, Fr.refl _ _, .inr ⟨by decide, rfl, by rw [HP.out]; rfl⟩⟩
end Go.Proofs.YtnjdnldoopgcpaaDoor
/- inflate: add. -/
namespace Go.Proofs.YtnjdnldoopgcpaaDoor
open Go.RowKit

theorem own_new {a b : World} {base z n : Nat} {e : TypeId} {v : Value} {xs : List Value} (h : a.ownsRow base e z v n xs) (hb : Below a.heap.size a b) : b.ownsRow base e z v n xs :=
  own_frame h (Fr.of_below hb) (fun _ hg e => by have := (own_lt h hg).2.1; omega)
theorem own_set {w : World} {base z n D : Nat} {e T : TypeId} {v : Value} {xs : List Value} {cs : Array Value} (h : w.ownsRow base e z v n xs) (hw : Whole w D T cs) (hT : e ≠ T) (i : Nat) (u : Value) : (w.setCell ⟨D, i, none⟩ u).ownsRow base e z v n xs :=
  own_frame h ((Fr.refl (fun k => k = D) w).setB i u) (fun g hg e => by
    obtain ⟨-, -, cs', hc⟩ := own_lt h hg
    exact hc.apart hw hT e)
theorem own_slM {w : World} {base : Nat} {e : TypeId} {size : Nat} {v : Value} {n : Nat} {xs : List Value} (h : w.ownsRow base e size v n xs) : ∃ a c, v = .slice a n c := by
  rcases h.2 with ⟨rfl, rfl⟩ | ⟨g, cap, cur, rfl, -⟩
  · exact ⟨none, 0, rfl⟩
  · exact ⟨some ⟨g, 0, none⟩, cap, rfl⟩
theorem DecS.added {x : Cx} {w wF : World} {p3 p4 : Value} {a : Acc} {N L : Nat} {t : Tk} {v7 v' : Value} (h : DecS x w p3 p4 a N L) (hw : Whole w x.D 66 (decV x p3 p4 a.made v7)) (ho : w.ownsRow x.base 48 3 v7 a.toks.length (rowTk a.toks))
    (hf : Fr (fun k => k = x.D ∨ some k = v7.ownBlock) w wF) (hw' : Whole wF x.D 66 ((((decV x p3 p4 a.made v7).setIfInBounds 6 (.int .i64 (a.made + tkSize t)))).setIfInBounds 7 v')) (ho' : wF.ownsRow x.base 48 3 v' (a.toks ++ [t]).length (rowTk (a.toks ++ [t]))) (hsz : tkSize t ≤ x.most - a.made) :
    DecS x wF p3 p4 ⟨a.toks ++ [t], a.made + tkSize t⟩ N L ∧ Fl x w wF := by
  obtain ⟨rc, hrw⟩ := h.rd.whole
  have hown : ∀ g, v7.ownBlock = some g → x.base ≤ g ∧ ∃ cs, Whole w g 48 cs := fun g hg => by
    obtain ⟨h1, -, cs, hc⟩ := own_lt ho hg
    exact ⟨h1, cs, hc⟩
  have hno : ∀ k T cs, Whole w k T cs → T ≠ 66 → T ≠ 48 → ¬ (k = x.D ∨ some k = v7.ownBlock) := fun k T cs hk h1 h2 e => by
    rcases e with e | e
    · exact hk.apart hw h1 e
    · obtain ⟨-, cs', hc⟩ := hown k e.symm
      exact hk.apart hc h2 rfl
  have h1 : 1 ≤ tkSize t := by unfold tkSize; omega
  have hm := h.made
  refine ⟨⟨⟨v', by simpa [decV] using hw', ho'⟩, h.rd.fr2 hf (hno _ _ _ hrw (by decide) (by decide)) (fun _ hc => hno _ _ _ hc (by decide) (by decide)), h.lens.fr hf (fun _ _ hk => hno _ _ _ hk (by decide) (by decide)), h.dist.fr hf (fun _ _ hk => hno _ _ _ hk (by decide) (by decide)), Nat.lt_of_lt_of_le h.rR hf.size, ⟨h.low.1, h.low.2.1, Nat.le_trans h.low.2.2 hf.size⟩, h.few, h.most, ?_⟩, ?_⟩
  · show 0 ≤ a.made + tkSize t ∧ a.made + tkSize t ≤ x.most ∧ ((a.toks ++ [t]).length : Int) ≤ a.made + tkSize t
    rw [List.length_append, List.length_singleton]
    omega
  · refine Fr.more hf (fun j _ e => ?_)
    rcases e with e | e
    · exact .inr (.inl e)
    · exact .inr (.inr (hown j e.symm))
theorem infoTk : (Tryd.prog.info? 48).map (fun i => (i.zero, i.size, i.bytes)) = some (some (.agg #[.int .i64 0, .int .i64 0, .int .i64 0]), 3, 24) := by kernel_rfl
theorem info_tk : ∃ i, Tryd.prog.info? 48 = some i ∧ i.zero = some (.agg #[.int .i64 0, .int .i64 0, .int .i64 0]) ∧ i.size = 3 ∧ i.bytes = 24 := by
  have h := infoTk
  cases hi : Tryd.prog.info? 48 with
  | none => rw [hi] at h; cases h
  | some i =>
    rw [hi] at h
    injection h with h
    injection h with h1 h2
    injection h2 with h2 h3
    exact ⟨i, rfl, h1, h2, h3⟩
theorem wpAnyC_two {P : Program} {ops : Array Oper} {Q : Exit → Act → World → Prop} {md : Region.Mode} {C : World → Prop} {i j : Nat} {fuel : Nat} {listed : Array Bool} {a : Act} {w : World} {oi oj : Oper} {ri rj : List Oper} (hr : Region.ready md ops listed = [i, j]) (hi : ops.toList.drop i = oi :: ri) (hj : ops.toList.drop j = oj :: rj)
    (h1 : ∀ K' : Act → World → Prop, Shut (∀ a w, (C w ∧ wpAnyC P md ops Q C fuel (listed.setIfInBounds i true) a w) → K' a w) → if Region.wanted oi (yielded ops a.tmps) = true then Oper.wp P oi a w K' Q else K' (a.put oi.dst undef) w)
    (h2 : ∀ K' : Act → World → Prop, Shut (∀ a w, (C w ∧ wpAnyC P md ops Q C fuel (listed.setIfInBounds j true) a w) → K' a w) → if Region.wanted oj (yielded ops a.tmps) = true then Oper.wp P oj a w K' Q else K' (a.put oj.dst undef) w) :
    wpAnyC P md ops Q C (fuel + 1) listed a w := by
  refine ⟨fun h0 => absurd (hr ▸ h0) (by simp), fun m hm => ?_⟩
  rw [hr] at hm
  rcases List.mem_cons.1 hm with rfl | hm
  · exact wpOp_step (at_of_drop hi) (fun K' hK => h1 K' (fun a w hS => hK a w hS))
  · obtain rfl : m = j := by simpa using hm
    exact wpOp_step (at_of_drop hj) (fun K' hK => h2 K' (fun a w hS => hK a w hS))
set_option maxRecDepth 100000 in
set_option maxHeartbeats 8000000 in
theorem add_any (x : Cx) (p3 p4 : Value) (a : Acc) (N L : Nat) (t : Tk) (w : World) (h : DecS x w p3 p4 a N L) :
    Calls Tryd.prog 72 #[.pointer (some ⟨x.D, 0, none⟩), .agg #[.int .i64 t.byte, .int .i64 t.len, .int .i64 t.back]] w (StepIs x p3 p4 N L (addP x.most t a) w) := by
  obtain ⟨v7, hw, ho⟩ := h.whole
  have hmost := h.most
  have hmade := h.made
  have hs1 : 1 ≤ tkSize t := by unfold tkSize; omega
  obtain ⟨i0, hi0, hz0, hz1, hz2⟩ := info_tk
  have HI0 := Lib.hid (And.intro hi0 (And.intro hz0 (And.intro hz1 hz2)))
  clear hi0 hz0 hz1 hz2
  obtain ⟨wA, hwA⟩ : ∃ wA, w.alloc (.cells #[.int .i64 t.byte, .int .i64 t.len, .int .i64 t.back] 48) = wA := ⟨_, rfl⟩
  have hbA : Below w.heap.size w wA := by rw [← hwA]; exact (Below.refl _ _).alloc (Nat.le_refl _) _
  have HT := Lib.hid (show Whole wA w.heap.size 48 #[.int .i64 t.byte, .int .i64 t.len, .int .i64 t.back] by rw [← hwA]; exact Whole.made _ _ _)
  have HW := Lib.hid (hw.here hbA)
  have HW0 := Lib.hid hw
  have HO0 := Lib.hid ho
  have HL := Lib.hid hw.lt
  have HBA := Lib.hid hbA
  have H0 := Lib.hid h
  have HOD := Lib.hid (show some x.D ≠ v7.ownBlock from fun e => by
    obtain ⟨-, -, cs, hc⟩ := own_lt ho e.symm
    exact hc.apart hw (by decide) rfl)
  have HCT : Hid (∀ v, Whole v w.heap.size 48 #[.int .i64 t.byte, .int .i64 t.len, .int .i64 t.back] → (fun v => v.cell? ⟨w.heap.size, 0, none⟩ = some (.int .i64 t.byte) ∧ v.cell? ⟨w.heap.size, 1, none⟩ = some (.int .i64 t.len) ∧ v.cell? ⟨w.heap.size, 2, none⟩ = some (.int .i64 t.back)) v) := Lib.hid (fun v hv => ⟨hv.reads 0, hv.reads 1, hv.reads 2⟩)
  have ew0 : IntKind.i64.wrap (x.most - a.made) = x.most - a.made := by rw [IntKind.wrap_i64]; omega
  clear h hw ho hbA
  go_enter Tryd.func72, Tryd.ntmps72
  go_upto_region 1 with fail
  try rw [hwA]
  have HCC : Hid (∀ v, Below wA.heap.size wA v → (fun v => v.cell? ⟨x.D, 5, none⟩ = some (.int .i64 x.most) ∧ v.cell? ⟨x.D, 6, none⟩ = some (.int .i64 a.made) ∧ v.cell? ⟨w.heap.size, 0, none⟩ = some (.int .i64 t.byte) ∧ v.cell? ⟨w.heap.size, 1, none⟩ = some (.int .i64 t.len) ∧ v.cell? ⟨w.heap.size, 2, none⟩ = some (.int .i64 t.back)) v) := Lib.hid (fun v hb => ⟨(HW.out.here hb).reads 5, (HW.out.here hb).reads 6, (HT.out.here hb).reads 0, (HT.out.here hb).reads 1, (HT.out.here hb).reads 2⟩)
  have hbd : Below wA.heap.size wA wA.drew := (Below.refl wA.heap.size wA).drew
  have hS := HCC.out wA.drew hbd
  refine wp_region_C (fun v => v.cell? ⟨x.D, 5, none⟩ = some (.int .i64 x.most) ∧ v.cell? ⟨x.D, 6, none⟩ = some (.int .i64 a.made) ∧ v.cell? ⟨w.heap.size, 0, none⟩ = some (.int .i64 t.byte) ∧ v.cell? ⟨w.heap.size, 1, none⟩ = some (.int .i64 t.len) ∧ v.cell? ⟨w.heap.size, 2, none⟩ = some (.int .i64 t.back)) (by kernel_rfl) ?_
  refine wpAnyC_take (i := 0) (v := .agg #[.int .i64 t.byte, .int .i64 t.len, .int .i64 t.back]) rfl (by kernel_rfl) (fun _ _ _ h => h) (Or.inl ⟨by rfl, ?y1⟩) hS ?r1
  case y1 => rintro wq ⟨-, -, c0, c1, c2⟩; go_simp; try with_reducible rfl
  try simp only [Act.put, List.setIfInBounds_toArray, List.set_cons_zero, List.set_cons_succ]
  refine wpAnyC_take (i := 2) (v := ?v2) rfl (by kernel_rfl) (fun _ _ _ h => h) (Or.inl ⟨by rfl, ?y2⟩) hS ?r2
  case y2 => intro wq _; go_simp; all_goals (first | with_reducible rfl | go_num | (simp; done) | (simp; omega) | skip)
  try simp only [Act.put, List.setIfInBounds_toArray, List.set_cons_zero, List.set_cons_succ]
  refine wpAnyC_take (i := 3) (v := ?v3) rfl (by kernel_rfl) (fun _ _ _ h => h) (Or.inl ⟨by rfl, ?y3⟩) hS ?r3
  case y3 => intro wq _; go_simp; all_goals (first | with_reducible rfl | go_num | (simp; done) | (simp; omega) | skip)
  try simp only [Act.put, List.setIfInBounds_toArray, List.set_cons_zero, List.set_cons_succ]
  refine wpAnyC_take (i := 4) (v := ?v4) rfl (by kernel_rfl) (fun _ _ _ h => h) (Or.inl ⟨by rfl, ?y4⟩) hS ?r4
  case y4 => intro wq _; go_simp; all_goals (first | with_reducible rfl | go_num | (simp; done) | (simp; omega) | skip)
  try simp only [Act.put, List.setIfInBounds_toArray, List.set_cons_zero, List.set_cons_succ]
  refine wpAnyC_take (i := 5) (v := .int .i64 x.most) rfl (by kernel_rfl) (fun _ _ _ h => h) (Or.inl ⟨by rfl, ?y5⟩) hS ?r5
  case y5 => rintro wq ⟨c0, -⟩; go_simp; try with_reducible rfl
  try simp only [Act.put, List.setIfInBounds_toArray, List.set_cons_zero, List.set_cons_succ]
  refine wpAnyC_take (i := 6) (v := ?v6) rfl (by kernel_rfl) (fun _ _ _ h => h) (Or.inl ⟨by rfl, ?y6⟩) hS ?r6
  case y6 => intro wq _; go_simp; all_goals (first | with_reducible rfl | go_num | (simp; done) | (simp; omega) | skip)
  try simp only [Act.put, List.setIfInBounds_toArray, List.set_cons_zero, List.set_cons_succ]
  refine wpAnyC_take (i := 7) (v := ?v7) rfl (by kernel_rfl) (fun _ _ _ h => h) (Or.inl ⟨by rfl, ?y7⟩) hS ?r7
  case y7 => intro wq _; go_simp; all_goals (first | with_reducible rfl | go_num | (simp; done) | (simp; omega) | skip)
  try simp only [Act.put, List.setIfInBounds_toArray, List.set_cons_zero, List.set_cons_succ]
  refine wpAnyC_take (i := 8) (v := ?v8) rfl (by kernel_rfl) (fun _ _ _ h => h) (Or.inl ⟨by rfl, ?y8⟩) hS ?r8
  case y8 => intro wq _; go_simp; all_goals (first | with_reducible rfl | go_num | (simp; done) | (simp; omega) | skip)
  try simp only [Act.put, List.setIfInBounds_toArray, List.set_cons_zero, List.set_cons_succ]
  refine wpAnyC_take (i := 9) (v := .int .i64 a.made) rfl (by kernel_rfl) (fun _ _ _ h => h) (Or.inl ⟨by rfl, ?y9⟩) hS ?r9
  case y9 => rintro wq ⟨-, c0, -⟩; go_simp; try with_reducible rfl
  try simp only [Act.put, List.setIfInBounds_toArray, List.set_cons_zero, List.set_cons_succ]
  refine wpAnyC_take (i := 10) (v := ?v10) rfl (by kernel_rfl) (fun _ _ _ h => h) (Or.inl ⟨by rfl, ?y10⟩) hS ?r10
  case y10 => intro wq _; go_simp; all_goals (first | with_reducible rfl | go_num | (simp; done) | (simp; omega) | skip)
  try simp only [Act.put, List.setIfInBounds_toArray, List.set_cons_zero, List.set_cons_succ]
  refine wpAnyC_one (j := 1) (by kernel_rfl) rfl (fun K hK => ?_)
  go_simp
  go_at_call 23
  refine (size_any t _).mono ?_
  rintro e wB ⟨rfl, kk⟩
  have hb2 : Below wA.heap.size wA wB := hbd.trans (kk.mono hbd.size)
  clear kk
  have hS := HCC.out wB hb2
  go_wp2_with fail
  refine hK.out _ _ ⟨hS, ?_⟩
  clear hK K
  try simp only [Act.put, List.setIfInBounds_toArray, List.set_cons_zero, List.set_cons_succ]
  refine wpAnyC_take (i := 11) (v := ?v11) rfl (by kernel_rfl) (fun _ _ _ h => h) (Or.inl ⟨by rfl, ?y11⟩) hS ?r11
  case y11 => intro wq _; go_simp; all_goals (first | with_reducible rfl | go_num | (simp; done) | (simp; omega) | skip)
  try simp only [Act.put, List.setIfInBounds_toArray, List.set_cons_zero, List.set_cons_succ]
  refine wpAnyC_done (by kernel_rfl) ?_ _
  clear hS HCC hbd
  by_cases hok2 : x.most - a.made < tkSize t
  · have d1 : decide (tkSize t > x.most - a.made) = true := decide_eq_true hok2
    have HB2 := Lib.hid (HBA.out.trans (hb2.mono HBA.out.size))
    go_wp2_with fail
    go_ret
    exact .inr ⟨2, by unfold addP; rw [if_pos hok2]; rfl, by decide, rfl, Fl.new HB2.out⟩
  · have d1 : decide (tkSize t > x.most - a.made) = false := decide_eq_false hok2
    have hok : tkSize t ≤ x.most - a.made := by omega
    have ew1 : IntKind.i64.wrap (a.made + tkSize t) = a.made + tkSize t := by rw [IntKind.wrap_i64]; omega
    have HWB := Lib.hid (HW.out.here hb2)
    have HTB := Lib.hid (HT.out.here hb2)
    have q6 := HWB.out.reads 6
    go_upto_region 3 with fail
    have hbd : Below wB.heap.size wB wB.drew := (Below.refl wB.heap.size wB).drew
    have hS := HCT.out wB.drew HTB.out.drawn1
    refine wp_region_C (fun v => v.cell? ⟨w.heap.size, 0, none⟩ = some (.int .i64 t.byte) ∧ v.cell? ⟨w.heap.size, 1, none⟩ = some (.int .i64 t.len) ∧ v.cell? ⟨w.heap.size, 2, none⟩ = some (.int .i64 t.back)) (by kernel_rfl) ?_
    refine wpAnyC_take (i := 0) (v := ?v12) rfl (by kernel_rfl) (fun _ _ _ h => h) (Or.inl ⟨by rfl, ?y12⟩) hS ?r12
    case y12 => intro wq _; go_simp; all_goals (first | with_reducible rfl | go_num | (simp; done) | (simp; omega) | skip)
    try simp only [Act.put, List.setIfInBounds_toArray, List.set_cons_zero, List.set_cons_succ]
    refine wpAnyC_take (i := 4) (v := .agg #[.int .i64 t.byte, .int .i64 t.len, .int .i64 t.back]) rfl (by kernel_rfl) (fun _ _ _ h => h) (Or.inl ⟨by rfl, ?y13⟩) hS ?r13
    case y13 => rintro wq ⟨c0, c1, c2⟩; go_simp; try with_reducible rfl
    try simp only [Act.put, List.setIfInBounds_toArray, List.set_cons_zero, List.set_cons_succ]
    refine wpAnyC_take (i := 1) (v := ?v14) rfl (by kernel_rfl) (fun _ _ _ h => h) (Or.inl ⟨by rfl, ?y14⟩) hS ?r14
    case y14 => intro wq _; go_simp; all_goals (first | with_reducible rfl | go_num | (simp; done) | (simp; omega) | skip)
    try simp only [Act.put, List.setIfInBounds_toArray, List.set_cons_zero, List.set_cons_succ]
    refine wpAnyC_take (i := 2) (v := ?v15) rfl (by kernel_rfl) (fun _ _ _ h => h) (Or.inl ⟨by rfl, ?y15⟩) hS ?r15
    case y15 => intro wq _; go_simp; all_goals (first | with_reducible rfl | go_num | (simp; done) | (simp; omega) | skip)
    try simp only [Act.put, List.setIfInBounds_toArray, List.set_cons_zero, List.set_cons_succ]
    refine wpAnyC_two (i := 3) (j := 5) (by kernel_rfl) rfl rfl (fun K hK => ?_) (fun K hK => ?_)
    · go_simp
      refine hK.out _ _ ⟨hS, ?_⟩
      clear hK K
      try simp only [Act.put, List.setIfInBounds_toArray, List.set_cons_zero, List.set_cons_succ]
      refine wpAnyC_one (j := 5) (by kernel_rfl) rfl (fun K hK => ?_)
      go_simp
      go_at_call 23
      refine (size_any t _).mono ?_
      rintro e v3 ⟨rfl, kk⟩
      have hb3 : Below wB.heap.size wB v3 := hbd.trans (kk.mono hbd.size)
      have HW3 := HWB.out.here hb3
      have HT3 := HTB.out.here hb3
      clear kk
      have hS := HCT.out v3 HT3
      go_wp2_with fail
      refine hK.out _ _ ⟨hS, ?_⟩
      clear hK K
      try simp only [Act.put, List.setIfInBounds_toArray, List.set_cons_zero, List.set_cons_succ]
      refine wpAnyC_take (i := 6) (v := ?v16) rfl (by kernel_rfl) (fun _ _ _ h => h) (Or.inl ⟨by rfl, ?y16⟩) hS ?r16
      case y16 => intro wq _; go_simp; all_goals (first | with_reducible rfl | go_num | (simp; done) | (simp; omega) | skip)
      try simp only [Act.put, List.setIfInBounds_toArray, List.set_cons_zero, List.set_cons_succ]
      refine wpAnyC_take (i := 7) (v := ?v17) rfl (by kernel_rfl) (fun _ _ _ h => h) (Or.inl ⟨by rfl, ?y17⟩) hS ?r17
      case y17 => intro wq _; go_simp; all_goals (first | with_reducible rfl | go_num | (simp; done) | (simp; omega) | skip)
      try simp only [Act.put, List.setIfInBounds_toArray, List.set_cons_zero, List.set_cons_succ]
      refine wpAnyC_take (i := 8) (v := ?v18) rfl (by kernel_rfl) (fun _ _ _ h => h) (Or.inl ⟨by rfl, ?y18⟩) hS ?r18
      case y18 => intro wq _; go_simp; all_goals (first | with_reducible rfl | go_num | (simp; done) | (simp; omega) | skip)
      try simp only [Act.put, List.setIfInBounds_toArray, List.set_cons_zero, List.set_cons_succ]
      refine wpAnyC_one (j := 9) (by kernel_rfl) rfl (fun K hK => ?_)
      have q6c := HW3.reads 6
      have ft := HW3.thawed
      have lf := HW3.lt
      go_simp
      have hW4 := HW3.set 6 (.int .i64 (a.made + tkSize t))
      have hT4 := HT3.away (p := ⟨x.D, 6, none⟩) (by have := HL.out; show w.heap.size ≠ x.D; omega) (.int .i64 (a.made + tkSize t))
      have hS := HCT.out _ hT4
      refine hK.out _ _ ⟨hS, ?_⟩
      clear hK K
      try simp only [Act.put]
      refine wpAnyC_done (by kernel_rfl) ?_ _
      clear hS hbd ft lf
      have hbv : Below w.heap.size w v3 := HBA.out.trans ((hb2.trans (hb3.mono hb2.size)).mono HBA.out.size)
      have hf4 : Fr (fun k => k = x.D ∨ some k = v7.ownBlock) w (v3.setCell ⟨x.D, 6, none⟩ (.int .i64 (a.made + tkSize t))) := ((Fr.of_below hbv).more (fun _ hj e => absurd hj (by omega))).set (p := ⟨x.D, 6, none⟩) (fun _ => .inl rfl) _
      have ho4 := own_set (own_new HO0.out hbv) HW3 (by decide) 6 (.int .i64 (a.made + tkSize t))
      have hsz4 : w.heap.size < (v3.setCell ⟨x.D, 6, none⟩ (.int .i64 (a.made + tkSize t))).heap.size := hT4.lt
      obtain ⟨wC, hwC⟩ : ∃ wC, v3.setCell ⟨x.D, 6, none⟩ (.int .i64 (a.made + tkSize t)) = wC := ⟨_, rfl⟩
      rw [hwC] at hW4 hT4 hf4 ho4 hsz4
      obtain ⟨w5, hw5⟩ : ∃ w5, wC.drew.alloc (.cells #[.int .i64 t.byte, .int .i64 t.len, .int .i64 t.back] 48) = w5 := ⟨_, rfl⟩
      have hb5 : Below wC.heap.size wC w5 := by rw [← hw5]; exact ((Below.refl wC.heap.size wC).drew).alloc (Nat.le_refl _) _
      have HN5 := Lib.hid (show Whole w5 wC.heap.size 48 #[.int .i64 t.byte, .int .i64 t.len, .int .i64 t.back] by rw [← hw5]; exact Whole.made wC.drew _ _)
      have HF5 := Lib.hid (show Fr (fun k => k = x.D ∨ some k = v7.ownBlock) w w5 by rw [← hw5]; exact hf4.drew.alloc _)
      have HO5 := Lib.hid (own_new ho4 hb5)
      have HT5 := Lib.hid (hT4.here hb5)
      have HTC := Lib.hid hT4
      have HW5 := Lib.hid (hW4.here hb5)
      have HS5 := Lib.hid (show x.base ≤ w5.heap.size by have := H0.out.low.2.2; have := hb5.size; omega)
      have q7 : wC.cell? ⟨x.D, 7, none⟩ = some v7 := hW4.reads 7
      have q7b : w5.cell? ⟨x.D, 7, none⟩ = some v7 := HW5.out.reads 7
      clear hW4 hT4 hf4 ho4 hb5 hbv hb3
      go_upto_region 4 with fail
      try rw [hwC]
      have hS := HCT.out wC.drew HTC.out.drawn1
      refine wp_region_C (fun v => v.cell? ⟨w.heap.size, 0, none⟩ = some (.int .i64 t.byte) ∧ v.cell? ⟨w.heap.size, 1, none⟩ = some (.int .i64 t.len) ∧ v.cell? ⟨w.heap.size, 2, none⟩ = some (.int .i64 t.back)) (by kernel_rfl) ?_
      refine wpAnyC_take (i := 0) (v := ?v19) rfl (by kernel_rfl) (fun _ _ _ h => h) (Or.inl ⟨by rfl, ?y19⟩) hS ?r19
      case y19 => intro wq _; go_simp; all_goals (first | with_reducible rfl | go_num | (simp; done) | (simp; omega) | skip)
      try simp only [Act.put, List.setIfInBounds_toArray, List.set_cons_zero, List.set_cons_succ]
      refine wpAnyC_take (i := 1) (v := ?v20) rfl (by kernel_rfl) (fun _ _ _ h => h) (Or.inl ⟨by rfl, ?y20⟩) hS ?r20
      case y20 => intro wq _; go_simp; all_goals (first | with_reducible rfl | go_num | (simp; done) | (simp; omega) | skip)
      try simp only [Act.put, List.setIfInBounds_toArray, List.set_cons_zero, List.set_cons_succ]
      refine wpAnyC_take (i := 2) (v := ?v21) rfl (by kernel_rfl) (fun _ _ _ h => h) (Or.inl ⟨by rfl, ?y21⟩) hS ?r21
      case y21 => intro wq _; go_simp; all_goals (first | with_reducible rfl | go_num | (simp; done) | (simp; omega) | skip)
      try simp only [Act.put, List.setIfInBounds_toArray, List.set_cons_zero, List.set_cons_succ]
      refine wpAnyC_take (i := 3) (v := ?v22) rfl (by kernel_rfl) (fun _ _ _ h => h) (Or.inl ⟨by rfl, ?y22⟩) hS ?r22
      case y22 => intro wq _; go_simp; all_goals (first | with_reducible rfl | go_num | (simp; done) | (simp; omega) | skip)
      try simp only [Act.put, List.setIfInBounds_toArray, List.set_cons_zero, List.set_cons_succ]
      refine wpAnyC_take (i := 5) (v := .agg #[.int .i64 t.byte, .int .i64 t.len, .int .i64 t.back]) rfl (by kernel_rfl) (fun _ _ _ h => h) (Or.inl ⟨by rfl, ?y23⟩) hS ?r23
      case y23 => rintro wq ⟨c0, c1, c2⟩; go_simp; try with_reducible rfl
      try simp only [Act.put, List.setIfInBounds_toArray, List.set_cons_zero, List.set_cons_succ]
      refine wpAnyC_two (i := 4) (j := 6) (by kernel_rfl) rfl rfl (fun K hK => ?_) (fun K hK => ?_)
      · go_simp
        refine hK.out _ _ ⟨hS, ?_⟩
        clear hK K
        try simp only [Act.put, List.setIfInBounds_toArray, List.set_cons_zero, List.set_cons_succ]
        refine wpAnyC_one (j := 6) (by kernel_rfl) rfl (fun K hK => ?_)
        rw [if_pos (by rfl)]
        refine wp_build_one 23 48 _ rfl #[.int .i64 t.byte, .int .i64 t.len, .int .i64 t.back] i0 _ 3 rfl rfl hw5 Tryd.underlying23 HI0.out.1 HI0.out.2.1 HI0.out.2.2.1 (by decide) (by decide) ?_
        have hS := HCT.out w5 HT5.out
        refine hK.out _ _ ⟨hS, ?_⟩
        clear hK K
        try simp only [Act.put, List.setIfInBounds_toArray, List.set_cons_zero, List.set_cons_succ]
        refine wpAnyC_one (j := 7) (by kernel_rfl) rfl (fun K hK => ?_)
        rw [if_pos (by rfl)]
        refine wp_append_own_f _ _ 23 rfl x.base 48 i0 (.agg #[.int .i64 0, .int .i64 0, .int .i64 0]) 3 24 Tryd.underlying23 HI0.out.1 HI0.out.2.1 HI0.out.2.2.1 HI0.out.2.2.2 rfl (by decide) v7 a.toks.length (rowTk a.toks) rfl HO5.out ⟨wC.heap.size, 0, none⟩ 1 1 (tkV t) rfl rfl (World.news_of_block (cs := #[.int .i64 t.byte, .int .i64 t.len, .int .i64 t.back]) HN5.out) ?p1 (by decide) ?p2 ?p3 ?p4 ?_
        case p1 => simp [tkV, Value.oneCell']
        case p2 => unfold maxLen; omega
        case p3 => omega
        case p4 => exact HS5.out
        intro v' w6 hown' hgrow _
        obtain ⟨a8, c8, rfl⟩ := own_slM hown'
        have hT6 := HT5.out.kept hgrow (fun e => by have := (own_lt HO0.out e.symm).2.1; omega)
        have hW6 := HW5.out.kept hgrow (fun e => HOD.out e)
        have hS := HCT.out w6 hT6
        refine hK.out _ _ ⟨hS, ?_⟩
        clear hK K
        try simp only [Act.put, List.setIfInBounds_toArray, List.set_cons_zero, List.set_cons_succ]
        refine wpAnyC_take (i := 8) (v := ?v24) rfl (by kernel_rfl) (fun _ _ _ h => h) (Or.inl ⟨by rfl, ?y24⟩) hS ?r24
        case y24 => intro wq _; go_simp; all_goals (first | with_reducible rfl | go_num | (simp; done) | (simp; omega) | skip)
        try simp only [Act.put, List.setIfInBounds_toArray, List.set_cons_zero, List.set_cons_succ]
        refine wpAnyC_take (i := 9) (v := ?v25) rfl (by kernel_rfl) (fun _ _ _ h => h) (Or.inl ⟨by rfl, ?y25⟩) hS ?r25
        case y25 => intro wq _; go_simp; all_goals (first | with_reducible rfl | go_num | (simp; done) | (simp; omega) | skip)
        try simp only [Act.put, List.setIfInBounds_toArray, List.set_cons_zero, List.set_cons_succ]
        refine wpAnyC_one (j := 10) (by kernel_rfl) rfl (fun K hK => ?_)
        have q7c := hW6.reads 7
        have ft := hW6.thawed
        have lf := hW6.lt
        go_simp
        have hS := HCT.out _ (hT6.away (p := ⟨x.D, 7, none⟩) (by have := HL.out; show w.heap.size ≠ x.D; omega) (.slice a8 (a.toks.length + 1) c8))
        refine hK.out _ _ ⟨hS, ?_⟩
        clear hK K
        try simp only [Act.put]
        refine wpAnyC_done (by kernel_rfl) ?_ _
        clear hS ft lf
        have hown2 : w6.ownsRow x.base 48 3 (.slice a8 (a.toks.length + 1) c8) (a.toks ++ [t]).length (rowTk (a.toks ++ [t])) := by rw [← rowTk_snoc, List.length_append]; exact hown'
        have HEND := Lib.hid (DecS.added H0.out HW0.out HO0.out ((HF5.out.grown hgrow (fun _ e _ => .inr e.symm)).set (p := ⟨x.D, 7, none⟩) (fun _ => .inl rfl) (.slice a8 (a.toks.length + 1) c8)) ((hW6.set 7 (.slice a8 (a.toks.length + 1) c8))) (own_set hown2 hW6 (by decide) 7 (.slice a8 (a.toks.length + 1) c8)) hok)
        clear hown' hgrow hT6 hW6 hown2
        go_wp2_with fail
        go_ret
        exact .inl ⟨_, N, L, by unfold addP; rw [if_neg (by omega)]; rfl, rfl, Nat.le_refl _, HEND.out.1, HEND.out.2⟩
      · rw [if_pos (by rfl)]
        refine wp_build_one 23 48 _ rfl #[.int .i64 t.byte, .int .i64 t.len, .int .i64 t.back] i0 _ 3 rfl rfl hw5 Tryd.underlying23 HI0.out.1 HI0.out.2.1 HI0.out.2.2.1 (by decide) (by decide) ?_
        have hS := HCT.out w5 HT5.out
        refine hK.out _ _ ⟨hS, ?_⟩
        clear hK K
        try simp only [Act.put, List.setIfInBounds_toArray, List.set_cons_zero, List.set_cons_succ]
        refine wpAnyC_one (j := 4) (by kernel_rfl) rfl (fun K hK => ?_)
        go_simp
        refine hK.out _ _ ⟨hS, ?_⟩
        clear hK K
        try simp only [Act.put, List.setIfInBounds_toArray, List.set_cons_zero, List.set_cons_succ]
        refine wpAnyC_one (j := 7) (by kernel_rfl) rfl (fun K hK => ?_)
        rw [if_pos (by rfl)]
        refine wp_append_own_f _ _ 23 rfl x.base 48 i0 (.agg #[.int .i64 0, .int .i64 0, .int .i64 0]) 3 24 Tryd.underlying23 HI0.out.1 HI0.out.2.1 HI0.out.2.2.1 HI0.out.2.2.2 rfl (by decide) v7 a.toks.length (rowTk a.toks) rfl HO5.out ⟨wC.heap.size, 0, none⟩ 1 1 (tkV t) rfl rfl (World.news_of_block (cs := #[.int .i64 t.byte, .int .i64 t.len, .int .i64 t.back]) HN5.out) ?p1 (by decide) ?p2 ?p3 ?p4 ?_
        case p1 => simp [tkV, Value.oneCell']
        case p2 => unfold maxLen; omega
        case p3 => omega
        case p4 => exact HS5.out
        intro v' w6 hown' hgrow _
        obtain ⟨a8, c8, rfl⟩ := own_slM hown'
        have hT6 := HT5.out.kept hgrow (fun e => by have := (own_lt HO0.out e.symm).2.1; omega)
        have hW6 := HW5.out.kept hgrow (fun e => HOD.out e)
        have hS := HCT.out w6 hT6
        refine hK.out _ _ ⟨hS, ?_⟩
        clear hK K
        try simp only [Act.put, List.setIfInBounds_toArray, List.set_cons_zero, List.set_cons_succ]
        refine wpAnyC_take (i := 8) (v := ?v26) rfl (by kernel_rfl) (fun _ _ _ h => h) (Or.inl ⟨by rfl, ?y26⟩) hS ?r26
        case y26 => intro wq _; go_simp; all_goals (first | with_reducible rfl | go_num | (simp; done) | (simp; omega) | skip)
        try simp only [Act.put, List.setIfInBounds_toArray, List.set_cons_zero, List.set_cons_succ]
        refine wpAnyC_take (i := 9) (v := ?v27) rfl (by kernel_rfl) (fun _ _ _ h => h) (Or.inl ⟨by rfl, ?y27⟩) hS ?r27
        case y27 => intro wq _; go_simp; all_goals (first | with_reducible rfl | go_num | (simp; done) | (simp; omega) | skip)
        try simp only [Act.put, List.setIfInBounds_toArray, List.set_cons_zero, List.set_cons_succ]
        refine wpAnyC_one (j := 10) (by kernel_rfl) rfl (fun K hK => ?_)
        have q7c := hW6.reads 7
        have ft := hW6.thawed
        have lf := hW6.lt
        go_simp
        have hS := HCT.out _ (hT6.away (p := ⟨x.D, 7, none⟩) (by have := HL.out; show w.heap.size ≠ x.D; omega) (.slice a8 (a.toks.length + 1) c8))
        refine hK.out _ _ ⟨hS, ?_⟩
        clear hK K
        try simp only [Act.put]
        refine wpAnyC_done (by kernel_rfl) ?_ _
        clear hS ft lf
        have hown2 : w6.ownsRow x.base 48 3 (.slice a8 (a.toks.length + 1) c8) (a.toks ++ [t]).length (rowTk (a.toks ++ [t])) := by rw [← rowTk_snoc, List.length_append]; exact hown'
        have HEND := Lib.hid (DecS.added H0.out HW0.out HO0.out ((HF5.out.grown hgrow (fun _ e _ => .inr e.symm)).set (p := ⟨x.D, 7, none⟩) (fun _ => .inl rfl) (.slice a8 (a.toks.length + 1) c8)) ((hW6.set 7 (.slice a8 (a.toks.length + 1) c8))) (own_set hown2 hW6 (by decide) 7 (.slice a8 (a.toks.length + 1) c8)) hok)
        clear hown' hgrow hT6 hW6 hown2
        go_wp2_with fail
        go_ret
        exact .inl ⟨_, N, L, by unfold addP; rw [if_neg (by omega)]; rfl, rfl, Nat.le_refl _, HEND.out.1, HEND.out.2⟩
    · go_simp
      go_at_call 23
      refine (size_any t _).mono ?_
      rintro e v3 ⟨rfl, kk⟩
      have hb3 : Below wB.heap.size wB v3 := hbd.trans (kk.mono hbd.size)
      have HW3 := HWB.out.here hb3
      have HT3 := HTB.out.here hb3
      clear kk
      have hS := HCT.out v3 HT3
      go_wp2_with fail
      refine hK.out _ _ ⟨hS, ?_⟩
      clear hK K
      try simp only [Act.put, List.setIfInBounds_toArray, List.set_cons_zero, List.set_cons_succ]
      have q6 := HW3.reads 6
      refine wpAnyC_one (j := 3) (by kernel_rfl) rfl (fun K hK => ?_)
      go_simp
      refine hK.out _ _ ⟨hS, ?_⟩
      clear hK K
      try simp only [Act.put, List.setIfInBounds_toArray, List.set_cons_zero, List.set_cons_succ]
      refine wpAnyC_take (i := 6) (v := ?v28) rfl (by kernel_rfl) (fun _ _ _ h => h) (Or.inl ⟨by rfl, ?y28⟩) hS ?r28
      case y28 => intro wq _; go_simp; all_goals (first | with_reducible rfl | go_num | (simp; done) | (simp; omega) | skip)
      try simp only [Act.put, List.setIfInBounds_toArray, List.set_cons_zero, List.set_cons_succ]
      refine wpAnyC_take (i := 7) (v := ?v29) rfl (by kernel_rfl) (fun _ _ _ h => h) (Or.inl ⟨by rfl, ?y29⟩) hS ?r29
      case y29 => intro wq _; go_simp; all_goals (first | with_reducible rfl | go_num | (simp; done) | (simp; omega) | skip)
      try simp only [Act.put, List.setIfInBounds_toArray, List.set_cons_zero, List.set_cons_succ]
      refine wpAnyC_take (i := 8) (v := ?v30) rfl (by kernel_rfl) (fun _ _ _ h => h) (Or.inl ⟨by rfl, ?y30⟩) hS ?r30
      case y30 => intro wq _; go_simp; all_goals (first | with_reducible rfl | go_num | (simp; done) | (simp; omega) | skip)
      try simp only [Act.put, List.setIfInBounds_toArray, List.set_cons_zero, List.set_cons_succ]
      refine wpAnyC_one (j := 9) (by kernel_rfl) rfl (fun K hK => ?_)
      have q6c := HW3.reads 6
      have ft := HW3.thawed
      have lf := HW3.lt
      go_simp
      have hW4 := HW3.set 6 (.int .i64 (a.made + tkSize t))
      have hT4 := HT3.away (p := ⟨x.D, 6, none⟩) (by have := HL.out; show w.heap.size ≠ x.D; omega) (.int .i64 (a.made + tkSize t))
      have hS := HCT.out _ hT4
      refine hK.out _ _ ⟨hS, ?_⟩
      clear hK K
      try simp only [Act.put]
      refine wpAnyC_done (by kernel_rfl) ?_ _
      clear hS hbd ft lf
      have hbv : Below w.heap.size w v3 := HBA.out.trans ((hb2.trans (hb3.mono hb2.size)).mono HBA.out.size)
      have hf4 : Fr (fun k => k = x.D ∨ some k = v7.ownBlock) w (v3.setCell ⟨x.D, 6, none⟩ (.int .i64 (a.made + tkSize t))) := ((Fr.of_below hbv).more (fun _ hj e => absurd hj (by omega))).set (p := ⟨x.D, 6, none⟩) (fun _ => .inl rfl) _
      have ho4 := own_set (own_new HO0.out hbv) HW3 (by decide) 6 (.int .i64 (a.made + tkSize t))
      have hsz4 : w.heap.size < (v3.setCell ⟨x.D, 6, none⟩ (.int .i64 (a.made + tkSize t))).heap.size := hT4.lt
      obtain ⟨wC, hwC⟩ : ∃ wC, v3.setCell ⟨x.D, 6, none⟩ (.int .i64 (a.made + tkSize t)) = wC := ⟨_, rfl⟩
      rw [hwC] at hW4 hT4 hf4 ho4 hsz4
      obtain ⟨w5, hw5⟩ : ∃ w5, wC.drew.alloc (.cells #[.int .i64 t.byte, .int .i64 t.len, .int .i64 t.back] 48) = w5 := ⟨_, rfl⟩
      have hb5 : Below wC.heap.size wC w5 := by rw [← hw5]; exact ((Below.refl wC.heap.size wC).drew).alloc (Nat.le_refl _) _
      have HN5 := Lib.hid (show Whole w5 wC.heap.size 48 #[.int .i64 t.byte, .int .i64 t.len, .int .i64 t.back] by rw [← hw5]; exact Whole.made wC.drew _ _)
      have HF5 := Lib.hid (show Fr (fun k => k = x.D ∨ some k = v7.ownBlock) w w5 by rw [← hw5]; exact hf4.drew.alloc _)
      have HO5 := Lib.hid (own_new ho4 hb5)
      have HT5 := Lib.hid (hT4.here hb5)
      have HTC := Lib.hid hT4
      have HW5 := Lib.hid (hW4.here hb5)
      have HS5 := Lib.hid (show x.base ≤ w5.heap.size by have := H0.out.low.2.2; have := hb5.size; omega)
      have q7 : wC.cell? ⟨x.D, 7, none⟩ = some v7 := hW4.reads 7
      have q7b : w5.cell? ⟨x.D, 7, none⟩ = some v7 := HW5.out.reads 7
      clear hW4 hT4 hf4 ho4 hb5 hbv hb3
      go_upto_region 4 with fail
      try rw [hwC]
      have hS := HCT.out wC.drew HTC.out.drawn1
      refine wp_region_C (fun v => v.cell? ⟨w.heap.size, 0, none⟩ = some (.int .i64 t.byte) ∧ v.cell? ⟨w.heap.size, 1, none⟩ = some (.int .i64 t.len) ∧ v.cell? ⟨w.heap.size, 2, none⟩ = some (.int .i64 t.back)) (by kernel_rfl) ?_
      refine wpAnyC_take (i := 0) (v := ?v31) rfl (by kernel_rfl) (fun _ _ _ h => h) (Or.inl ⟨by rfl, ?y31⟩) hS ?r31
      case y31 => intro wq _; go_simp; all_goals (first | with_reducible rfl | go_num | (simp; done) | (simp; omega) | skip)
      try simp only [Act.put, List.setIfInBounds_toArray, List.set_cons_zero, List.set_cons_succ]
      refine wpAnyC_take (i := 1) (v := ?v32) rfl (by kernel_rfl) (fun _ _ _ h => h) (Or.inl ⟨by rfl, ?y32⟩) hS ?r32
      case y32 => intro wq _; go_simp; all_goals (first | with_reducible rfl | go_num | (simp; done) | (simp; omega) | skip)
      try simp only [Act.put, List.setIfInBounds_toArray, List.set_cons_zero, List.set_cons_succ]
      refine wpAnyC_take (i := 2) (v := ?v33) rfl (by kernel_rfl) (fun _ _ _ h => h) (Or.inl ⟨by rfl, ?y33⟩) hS ?r33
      case y33 => intro wq _; go_simp; all_goals (first | with_reducible rfl | go_num | (simp; done) | (simp; omega) | skip)
      try simp only [Act.put, List.setIfInBounds_toArray, List.set_cons_zero, List.set_cons_succ]
      refine wpAnyC_take (i := 3) (v := ?v34) rfl (by kernel_rfl) (fun _ _ _ h => h) (Or.inl ⟨by rfl, ?y34⟩) hS ?r34
      case y34 => intro wq _; go_simp; all_goals (first | with_reducible rfl | go_num | (simp; done) | (simp; omega) | skip)
      try simp only [Act.put, List.setIfInBounds_toArray, List.set_cons_zero, List.set_cons_succ]
      refine wpAnyC_take (i := 5) (v := .agg #[.int .i64 t.byte, .int .i64 t.len, .int .i64 t.back]) rfl (by kernel_rfl) (fun _ _ _ h => h) (Or.inl ⟨by rfl, ?y35⟩) hS ?r35
      case y35 => rintro wq ⟨c0, c1, c2⟩; go_simp; try with_reducible rfl
      try simp only [Act.put, List.setIfInBounds_toArray, List.set_cons_zero, List.set_cons_succ]
      refine wpAnyC_two (i := 4) (j := 6) (by kernel_rfl) rfl rfl (fun K hK => ?_) (fun K hK => ?_)
      · go_simp
        refine hK.out _ _ ⟨hS, ?_⟩
        clear hK K
        try simp only [Act.put, List.setIfInBounds_toArray, List.set_cons_zero, List.set_cons_succ]
        refine wpAnyC_one (j := 6) (by kernel_rfl) rfl (fun K hK => ?_)
        rw [if_pos (by rfl)]
        refine wp_build_one 23 48 _ rfl #[.int .i64 t.byte, .int .i64 t.len, .int .i64 t.back] i0 _ 3 rfl rfl hw5 Tryd.underlying23 HI0.out.1 HI0.out.2.1 HI0.out.2.2.1 (by decide) (by decide) ?_
        have hS := HCT.out w5 HT5.out
        refine hK.out _ _ ⟨hS, ?_⟩
        clear hK K
        try simp only [Act.put, List.setIfInBounds_toArray, List.set_cons_zero, List.set_cons_succ]
        refine wpAnyC_one (j := 7) (by kernel_rfl) rfl (fun K hK => ?_)
        rw [if_pos (by rfl)]
        refine wp_append_own_f _ _ 23 rfl x.base 48 i0 (.agg #[.int .i64 0, .int .i64 0, .int .i64 0]) 3 24 Tryd.underlying23 HI0.out.1 HI0.out.2.1 HI0.out.2.2.1 HI0.out.2.2.2 rfl (by decide) v7 a.toks.length (rowTk a.toks) rfl HO5.out ⟨wC.heap.size, 0, none⟩ 1 1 (tkV t) rfl rfl (World.news_of_block (cs := #[.int .i64 t.byte, .int .i64 t.len, .int .i64 t.back]) HN5.out) ?p1 (by decide) ?p2 ?p3 ?p4 ?_
        case p1 => simp [tkV, Value.oneCell']
        case p2 => unfold maxLen; omega
        case p3 => omega
        case p4 => exact HS5.out
        intro v' w6 hown' hgrow _
        obtain ⟨a8, c8, rfl⟩ := own_slM hown'
        have hT6 := HT5.out.kept hgrow (fun e => by have := (own_lt HO0.out e.symm).2.1; omega)
        have hW6 := HW5.out.kept hgrow (fun e => HOD.out e)
        have hS := HCT.out w6 hT6
        refine hK.out _ _ ⟨hS, ?_⟩
        clear hK K
        try simp only [Act.put, List.setIfInBounds_toArray, List.set_cons_zero, List.set_cons_succ]
        refine wpAnyC_take (i := 8) (v := ?v36) rfl (by kernel_rfl) (fun _ _ _ h => h) (Or.inl ⟨by rfl, ?y36⟩) hS ?r36
        case y36 => intro wq _; go_simp; all_goals (first | with_reducible rfl | go_num | (simp; done) | (simp; omega) | skip)
        try simp only [Act.put, List.setIfInBounds_toArray, List.set_cons_zero, List.set_cons_succ]
        refine wpAnyC_take (i := 9) (v := ?v37) rfl (by kernel_rfl) (fun _ _ _ h => h) (Or.inl ⟨by rfl, ?y37⟩) hS ?r37
        case y37 => intro wq _; go_simp; all_goals (first | with_reducible rfl | go_num | (simp; done) | (simp; omega) | skip)
        try simp only [Act.put, List.setIfInBounds_toArray, List.set_cons_zero, List.set_cons_succ]
        refine wpAnyC_one (j := 10) (by kernel_rfl) rfl (fun K hK => ?_)
        have q7c := hW6.reads 7
        have ft := hW6.thawed
        have lf := hW6.lt
        go_simp
        have hS := HCT.out _ (hT6.away (p := ⟨x.D, 7, none⟩) (by have := HL.out; show w.heap.size ≠ x.D; omega) (.slice a8 (a.toks.length + 1) c8))
        refine hK.out _ _ ⟨hS, ?_⟩
        clear hK K
        try simp only [Act.put]
        refine wpAnyC_done (by kernel_rfl) ?_ _
        clear hS ft lf
        have hown2 : w6.ownsRow x.base 48 3 (.slice a8 (a.toks.length + 1) c8) (a.toks ++ [t]).length (rowTk (a.toks ++ [t])) := by rw [← rowTk_snoc, List.length_append]; exact hown'
        have HEND := Lib.hid (DecS.added H0.out HW0.out HO0.out ((HF5.out.grown hgrow (fun _ e _ => .inr e.symm)).set (p := ⟨x.D, 7, none⟩) (fun _ => .inl rfl) (.slice a8 (a.toks.length + 1) c8)) ((hW6.set 7 (.slice a8 (a.toks.length + 1) c8))) (own_set hown2 hW6 (by decide) 7 (.slice a8 (a.toks.length + 1) c8)) hok)
        clear hown' hgrow hT6 hW6 hown2
        go_wp2_with fail
        go_ret
        exact .inl ⟨_, N, L, by unfold addP; rw [if_neg (by omega)]; rfl, rfl, Nat.le_refl _, HEND.out.1, HEND.out.2⟩
      · rw [if_pos (by rfl)]
        refine wp_build_one 23 48 _ rfl #[.int .i64 t.byte, .int .i64 t.len, .int .i64 t.back] i0 _ 3 rfl rfl hw5 Tryd.underlying23 HI0.out.1 HI0.out.2.1 HI0.out.2.2.1 (by decide) (by decide) ?_
        have hS := HCT.out w5 HT5.out
        refine hK.out _ _ ⟨hS, ?_⟩
        clear hK K
        try simp only [Act.put, List.setIfInBounds_toArray, List.set_cons_zero, List.set_cons_succ]
        refine wpAnyC_one (j := 4) (by kernel_rfl) rfl (fun K hK => ?_)
        go_simp
        refine hK.out _ _ ⟨hS, ?_⟩
        clear hK K
        try simp only [Act.put, List.setIfInBounds_toArray, List.set_cons_zero, List.set_cons_succ]
        refine wpAnyC_one (j := 7) (by kernel_rfl) rfl (fun K hK => ?_)
        rw [if_pos (by rfl)]
        refine wp_append_own_f _ _ 23 rfl x.base 48 i0 (.agg #[.int .i64 0, .int .i64 0, .int .i64 0]) 3 24 Tryd.underlying23 HI0.out.1 HI0.out.2.1 HI0.out.2.2.1 HI0.out.2.2.2 rfl (by decide) v7 a.toks.length (rowTk a.toks) rfl HO5.out ⟨wC.heap.size, 0, none⟩ 1 1 (tkV t) rfl rfl (World.news_of_block (cs := #[.int .i64 t.byte, .int .i64 t.len, .int .i64 t.back]) HN5.out) ?p1 (by decide) ?p2 ?p3 ?p4 ?_
        case p1 => simp [tkV, Value.oneCell']
        case p2 => unfold maxLen; omega
        case p3 => omega
        case p4 => exact HS5.out
        intro v' w6 hown' hgrow _
        obtain ⟨a8, c8, rfl⟩ := own_slM hown'
        have hT6 := HT5.out.kept hgrow (fun e => by have := (own_lt HO0.out e.symm).2.1; omega)
        have hW6 := HW5.out.kept hgrow (fun e => HOD.out e)
        have hS := HCT.out w6 hT6
        refine hK.out _ _ ⟨hS, ?_⟩
        clear hK K
        try simp only [Act.put, List.setIfInBounds_toArray, List.set_cons_zero, List.set_cons_succ]
        refine wpAnyC_take (i := 8) (v := ?v38) rfl (by kernel_rfl) (fun _ _ _ h => h) (Or.inl ⟨by rfl, ?y38⟩) hS ?r38
        case y38 => intro wq _; go_simp; all_goals (first | with_reducible rfl | go_num | (simp; done) | (simp; omega) | skip)
        try simp only [Act.put, List.setIfInBounds_toArray, List.set_cons_zero, List.set_cons_succ]
        refine wpAnyC_take (i := 9) (v := ?v39) rfl (by kernel_rfl) (fun _ _ _ h => h) (Or.inl ⟨by rfl, ?y39⟩) hS ?r39
        case y39 => intro wq _; go_simp; all_goals (first | with_reducible rfl | go_num | (simp; done) | (simp; omega) | skip)
        try simp only [Act.put, List.setIfInBounds_toArray, List.set_cons_zero, List.set_cons_succ]
        refine wpAnyC_one (j := 10) (by kernel_rfl) rfl (fun K hK => ?_)
        have q7c := hW6.reads 7
        have ft := hW6.thawed
        have lf := hW6.lt
        go_simp
        have hS := HCT.out _ (hT6.away (p := ⟨x.D, 7, none⟩) (by have := HL.out; show w.heap.size ≠ x.D; omega) (.slice a8 (a.toks.length + 1) c8))
        refine hK.out _ _ ⟨hS, ?_⟩
        clear hK K
        try simp only [Act.put]
        refine wpAnyC_done (by kernel_rfl) ?_ _
        clear hS ft lf
        have hown2 : w6.ownsRow x.base 48 3 (.slice a8 (a.toks.length + 1) c8) (a.toks ++ [t]).length (rowTk (a.toks ++ [t])) := by rw [← rowTk_snoc, List.length_append]; exact hown'
        have HEND := Lib.hid (DecS.added H0.out HW0.out HO0.out ((HF5.out.grown hgrow (fun _ e _ => .inr e.symm)).set (p := ⟨x.D, 7, none⟩) (fun _ => .inl rfl) (.slice a8 (a.toks.length + 1) c8)) ((hW6.set 7 (.slice a8 (a.toks.length + 1) c8))) (own_set hown2 hW6 (by decide) 7 (.slice a8 (a.toks.length + 1) c8)) hok)
        clear hown' hgrow hT6 hW6 hown2
        go_wp2_with fail
        go_ret
        exact .inl ⟨_, N, L, by unfold addP; rw [if_neg (by omega)]; rfl, rfl, Nat.le_refl _, HEND.out.1, HEND.out.2⟩
end Go.Proofs.YtnjdnldoopgcpaaDoor
