/- inflate: the lengths of the codes. -/
import Derived.Test.YtnjdnldoopgcpaaDoorInfN
namespace Go.Proofs.YtnjdnldoopgcpaaDoor
open Go.RowKit

theorem DecS.grownInt {x : Cx} {w w' : World} {p3 p4 : Value} {a : Acc} {N L : Nat} {row : Option Nat} (h : DecS x w p3 p4 a N L) (hg : w.grownBy w' row) (hrow : ∀ g, row = some g → ∃ cs, Whole w g 3 cs) : DecS x w' p3 p4 a N L := by
  have hf : Fr (fun k => some k = row) w w' := Fr.of_grown hg
  obtain ⟨rc, hrw⟩ := h.rd.whole
  obtain ⟨v, hw, ho⟩ := h.whole
  have hno : ∀ k T cs, Whole w k T cs → T ≠ 3 → ¬ (some k = row) := fun k T cs hk hT e => by
    obtain ⟨cs', hc⟩ := hrow k e.symm
    exact hk.apart hc hT rfl
  refine ⟨⟨v, hw.frame hf (hno _ _ _ hw (by decide)), own_frame ho hf (fun g hg e => ?_)⟩, h.rd.fr2 hf (hno _ _ _ hrw (by decide)) (fun cs hc => hno _ _ _ hc (by decide)), h.lens.fr hf (fun k cs hk => hno _ _ _ hk (by decide)), h.dist.fr hf (fun k cs hk => hno _ _ _ hk (by decide)), Nat.lt_of_lt_of_le h.rR hf.size, ⟨h.low.1, h.low.2.1, Nat.le_trans h.low.2.2 hf.size⟩, h.few, h.most, h.made⟩
  obtain ⟨-, -, cs, hc⟩ := own_lt ho hg
  exact hno _ _ _ hc (by decide) e
theorem infoIn : (Tryd.prog.info? 3).map (fun i => (i.zero, i.size, i.bytes)) = some (some (.int .i64 0), 1, 8) := by kernel_rfl
theorem info_in : ∃ i, Tryd.prog.info? 3 = some i ∧ i.zero = some (.int .i64 0) ∧ i.size = 1 ∧ i.bytes = 8 := by
  have h := infoIn
  cases hi : Tryd.prog.info? 3 with
  | none => rw [hi] at h; cases h
  | some i =>
    rw [hi] at h
    injection h with h
    injection h with h1 h2
    injection h2 with h2 h3
    exact ⟨i, rfl, h1, h2, h3⟩
theorem rep_small {s : Nat} (h1 : 16 ≤ s) (h2 : s ≤ 18) : repB s ≤ 7 ∧ 1 ≤ repL s ∧ repL s ≤ 11 := by
  obtain rfl | rfl | rfl : s = 16 ∨ s = 17 ∨ s = 18 := by omega
  all_goals decide
theorem codeGo_on {cl : List Int} {n f : Nat} {l : List Int} (h : l.length < n) : codeGo cl n (f + 1) l = bnd (readP cl) fun s => if s < 16 then codeGo cl n f (l ++ [(s : Int)]) else if s = 16 ∧ l = [] then bad 4 else
      bnd (bitsP (repB s)) fun m => codeGo cl n f (l ++ List.replicate (repL s + m) (if s = 16 then l.getLastD 0 else 0)) := by rw [codeGo, if_pos h]
theorem codeGo_end {cl : List Int} {n f : Nat} {l : List Int} (h : ¬ l.length < n) : codeGo cl n (f + 1) l = if n < l.length then bad 4 else rtn l := by rw [codeGo, if_neg h]
theorem getLastD_at {l : List Int} {y : Int} (h : l[l.length - 1]? = some y) : l.getLastD 0 = y := by
  rw [List.getLastD_eq_getLast?, List.getLast?_eq_getElem?, h]
  rfl
/-- What codeLengths answers. -/
def CgIs (x : Cx) (p3 p4 : Value) (a : Acc) (N L n : Nat) (cl : List Int) (w : World) (e : Ending) (w' : World) : Prop :=
  ∃ (A : Option Addr) (c : Nat) (l : List Int) (E : Int), e = .returned (.tuple #[.slice A l.length c, .int .i64 E]) ∧ Fl x w w' ∧
    ((E = 0 ∧ ∃ N' L', codeGo cl n 1000 [] N L = .ok (l, N', L') ∧ L' ≤ L ∧ l.length = n ∧ IntsAt w' A l.length c l ∧ DecS x w' p3 p4 a N' L') ∨ (E ≠ 0 ∧ l = [] ∧ codeGo cl n 1000 [] N L = .error E))
set_option maxRecDepth 100000 in
set_option maxHeartbeats 2000000 in
theorem codeLens_any (x : Cx) (p3 p4 : Value) (a : Acc) (N L n P : Nat) (cl : List Int) (w : World) (h : DecS x w p3 p4 a N L) (hE : Env w) (hb2' : 2 ≤ x.base) (ht : TabAt w P cl) (hcl : cl.length = 19) (hn : n ≤ 400) :
    Calls Tryd.prog 74 #[.pointer (some ⟨x.D, 0, none⟩), .pointer (some ⟨P, 0, none⟩), .int .i64 (n : Int)] w (CgIs x p3 p4 a N L n cl w) := by
  obtain ⟨i0, hi0, hz0, hz1, hz2⟩ := info_in
  have HI0 := Lib.hid (And.intro hi0 (And.intro hz0 (And.intro hz1 hz2)))
  clear hi0 hz0 hz1 hz2
  have H0 := Lib.hid h
  have HT := Lib.hid ht
  have HEN := Lib.hid hE
  have HLOW := Lib.hid h.low
  clear h hE ht
  go_enter Tryd.func74, Tryd.ntmps74
  go_wp2_with fail
  go_loopg [8] L (fun g v8 wr => ∃ (l : List Int) (N' f it : Nat), f + it = 1000 ∧ it ≤ l.length ∧ it ≤ n ∧ g ≤ L ∧ l.length ≤ 1000 ∧ Hid (codeGo cl n 1000 [] N L = codeGo cl n f l N' g) ∧ Hid (DecS x wr p3 p4 a N' g) ∧ Hid (Fl x w wr) ∧ Hid (wr.ownsRow w.heap.size 3 1 v8 l.length (iiv l)))
  case atStart => exact ⟨[], N, 1000, 0, rfl, by simp, by omega, Nat.le_refl _, by simp, Lib.hid rfl, H0, Lib.hid (Fl.refl _ _), Lib.hid (World.ownsRow_nil _ _ _ _)⟩
  case round =>
    obtain ⟨l, N', f, it, hfi, hil, hin, hgL, hl1000, HF, HD, HL, HOW⟩ := hrel
    obtain ⟨f', rfl⟩ : ∃ f', f = f' + 1 := ⟨f - 1, by omega⟩
    obtain ⟨A8, c8, rfl, hi8⟩ := IntsAt.of_own HOW.out
    have HI8 := Lib.hid hi8
    have h8cap := hi8.cap
    have h8top := hi8.top
    clear hi8
    by_cases hlt : l.length < n
    · have d1 : decide ((l.length : Int) < (n : Int)) = true := decide_eq_true (by omega)
      obtain ⟨lD, q0, -, -, -, -, -, -⟩ := HD.out.cells
      have HS := Lib.hid (sym_is (HT.out.fl H0.out HL.out) HD.out.rd)
      have HPG := Lib.hid (codeGo_on (cl := cl) (f := f') hlt)
      go_wp2_with fail
      refine HS.out.mono ?_
      rintro e w1 ⟨s, E, rfl, hf, hv⟩
      have HF1 := Lib.hid (HL.out.trans (Fl.ofB hf))
      rcases hv with ⟨rfl, N1, L1, hp, hs, hL1, hr⟩ | ⟨hE, rfl, hp⟩
      rotate_left
      · have d2 : (E != 0) = true := by simp [hE]
        have HZ := Lib.hid (show codeGo cl n 1000 [] N L = .error E by rw [HF.out, HPG.out, bnd_er hp])
        clear hp hf
        go_wp2_with fail
        go_ret2
        exact ⟨none, 0, [], E, rfl, HF1.out, .inr ⟨hE, rfl, HZ.out⟩⟩
      have H1 := Lib.hid (HD.out.keep hf hr (by omega))
      have HPR := Lib.hid (show codeGo cl n 1000 [] N L = (if s < 16 then codeGo cl n f' (l ++ [(s : Int)]) else if s = 16 ∧ l = [] then bad 4 else
          bnd (bitsP (repB s)) fun m => codeGo cl n f' (l ++ List.replicate (repL s + m) (if s = 16 then l.getLastD 0 else 0)) : Ps (List Int)) N1 L1 by rw [HF.out, HPG.out, bnd_ok hp])
      have HOW1 := Lib.hid (own_frame HOW.out hf (fun g hg e => by
        obtain ⟨-, -, cs, hc⟩ := own_lt HOW.out hg
        obtain ⟨rc, hrw⟩ := HD.out.rd.whole
        exact hc.apart hrw (by decide) e))
      have hs18 : s ≤ 18 := by omega
      clear hp hf hr q0 lD HS
      by_cases h16 : s < 16
      · have d3 : decide ((s : Int) < 16) = true := decide_eq_true (by omega)
        rw [if_pos h16] at HPR
        have hsz1 := HF1.out.size
        go_wp2_with (at_builtin; refine wpList_append_own _ rfl _ _ 74 rfl w.heap.size 3 i0 (.int .i64 0) 1 8 Tryd.underlying74 HI0.out.1 HI0.out.2.1 HI0.out.2.2.1 HI0.out.2.2.2 rfl (by decide) _ _ _ rfl (HOW1.out.alloc _) ⟨w1.heap.size, 0, none⟩ 1 1 [.int .i64 (s : Int)] rfl rfl (World.news_of_block (cs := #[.int .i64 (s : Int)]) (t := 3) (fr := (0, 0)) (heap_alloc_new _ _)) ?p1 ?p2 ?p3 ?p4 ?_)
        case p1 => simp [Value.oneCell']
        case p2 => unfold maxLen; omega
        case p3 => omega
        case p4 => first | omega | (simp; omega)
        intro v' w6 hown' hgrow _
        have hbA : Below w1.heap.size w1 (w1.alloc (.cells #[.int .i64 (s : Int)] 3)) := (Below.refl _ _).alloc (Nat.le_refl _) _
        have hown6 : w6.ownsRow w.heap.size 3 1 v' (l ++ [(s : Int)]).length (iiv (l ++ [(s : Int)])) := by rw [iiv_append, List.length_append]; exact hown'
        have HEND := Lib.hid (And.intro ((H1.out.later hbA).grownInt hgrow (fun g hg => by
          obtain ⟨-, -, cs, hc⟩ := own_lt (own_new HOW1.out hbA) hg
          exact ⟨cs, hc⟩)) (And.intro (Fr.grown (HF1.out.trans (Fl.new hbA)) hgrow (fun j e hj => absurd (own_lt HOW1.out e).1 (by omega))) hown6))
        clear hown' hgrow hown6 hbA
        go_wp2_with fail
        go_roundg L1
        case rel => exact ⟨l ++ [(s : Int)], N1, f', it + 1, by omega, by rw [List.length_append]; simp; omega, by omega, by omega, by rw [List.length_append]; simp; omega, HPR, Lib.hid HEND.out.1, Lib.hid HEND.out.2.1, Lib.hid HEND.out.2.2⟩
        case measure => omega
      · have d3 : decide ((s : Int) < 16) = false := decide_eq_false (by omega)
        rw [if_neg h16] at HPR
        have hrb := rep_small (s := s) (by omega) hs18
        have ews : IntKind.i64.wrap ((s : Int) - 16) = ((s - 16 : Nat) : Int) := by rw [IntKind.wrap_i64]; omega
        have HEN1 := Lib.hid (HEN.out.kept (HF1.out.below HLOW.out) hb2')
        have l1w : 1 < w1.heap.size := HEN1.out.1
        obtain ⟨lD, q0, -, -, -, -, -, -⟩ := H1.out.cells
        have h1B : (1 : Nat) ≠ x.B := by have := HLOW.out.1; omega
        have HQ := Lib.hid (And.intro H1.out.apart (And.intro lD (And.intro q0 (And.intro h1B (And.intro l1w (HEN1.out.2.2 s (by omega) hs18).1)))))
        have HC := Lib.hid (bits_is x.B x.R N1 L1 (repB s) w1.drew H1.out.rd.drew (by omega))
        have b1 : (0 : Int) ≤ ((s - 16 : Nat) : Int) := by omega
        have b2 : ((s - 16 : Nat) : Int) < 3 := by omega
        clear q0 lD
        by_cases hs16 : s = 16
        · have d4 : ((s : Int) == 16) = true := by simp [hs16]
          by_cases hnil : l = []
          · subst hnil
            have HZ := Lib.hid (show codeGo cl n 1000 [] N L = .error 4 by rw [HPR.out, if_pos ⟨hs16, rfl⟩]; rfl)
            clear hs16
            go_wp2_with fail
            go_ret2
            exact ⟨none, 0, [], 4, rfl, HF1.out, .inr ⟨by decide, rfl, HZ.out⟩⟩
          · have hl0 : 0 < l.length := List.length_pos_iff.2 hnil
            obtain ⟨y, hy⟩ : ∃ y, l[l.length - 1]? = some y := ⟨_, List.getElem?_eq_getElem (by omega)⟩
            have HPC := Lib.hid (show codeGo cl n 1000 [] N L = (bnd (bitsP (repB s)) fun m => codeGo cl n f' (l ++ List.replicate (repL s + m) y) : Ps (List Int)) N1 L1 by rw [HPR.out, if_neg (fun e => hnil e.2), if_pos hs16, getLastD_at hy])
            have hi1 : IntsAt w1 A8 l.length c8 l := by
              obtain ⟨A', c', e, hi⟩ := IntsAt.of_own HOW1.out
              injection e with e1 e2 e3
              subst e1 e3
              exact hi
            obtain ⟨R8, o8, rfl, hR8, hc8⟩ := hi1.at_ hl0
            have cy := hc8 _ _ hy
            have d5 : ((l.length : Int) == 0) = false := by simp; omega
            have ewl : IntKind.i64.wrap ((l.length : Int) - 1) = ((l.length - 1 : Nat) : Int) := by rw [IntKind.wrap_i64]; omega
            have b3 : (0 : Int) ≤ ((l.length - 1 : Nat) : Int) := by omega
            have b4 : ((l.length - 1 : Nat) : Int) < (l.length : Int) := by omega
            clear hi1 hc8 hy hnil hs16
            go_upto_region 13 with fail
            have HCC : Hid (∀ v, Fr (fun k => k = x.B) w1 v → (fun v => v.cell? ⟨x.D, 0, none⟩ = some (.pointer (some ⟨x.B, 0, none⟩)) ∧ v.cell? ⟨1, (s - 16) * 2, none⟩ = some (.int .i64 (repB s : Int))) v) := Lib.hid (fun v hb => ⟨(hb.cell' HQ.out.1 HQ.out.2.1).trans HQ.out.2.2.1, (hb.cell' HQ.out.2.2.2.1 HQ.out.2.2.2.2.1).trans HQ.out.2.2.2.2.2⟩)
            have hbd : Fr (fun k => k = x.B) w1 w1.drew := (Fr.refl _ _).drew
            have hS := HCC.out w1.drew hbd
            refine wp_region_C (fun v => v.cell? ⟨x.D, 0, none⟩ = some (.pointer (some ⟨x.B, 0, none⟩)) ∧ v.cell? ⟨1, (s - 16) * 2, none⟩ = some (.int .i64 (repB s : Int))) (by kernel_rfl) ?_
            refine wpAnyC_take (i := 0) (v := ?v1) rfl (by kernel_rfl) (fun _ _ _ h => h) (Or.inl ⟨by rfl, ?y1⟩) hS ?r1
            case y1 => intro wq _; go_simp; all_goals (first | with_reducible rfl | go_num | (simp; done) | (simp; omega) | skip)
            try simp only [Act.put, List.setIfInBounds_toArray, List.set_cons_zero, List.set_cons_succ]
            refine wpAnyC_take (i := 1) (v := ?v2) rfl (by kernel_rfl) (fun _ _ _ h => h) (Or.inl ⟨by rfl, ?y2⟩) hS ?r2
            case y2 => intro wq _; go_simp; all_goals (first | with_reducible rfl | go_num | (simp; done) | (simp; omega) | skip)
            try simp only [Act.put, List.setIfInBounds_toArray, List.set_cons_zero, List.set_cons_succ]
            refine wpAnyC_take (i := 2) (v := ?v3) rfl (by kernel_rfl) (fun _ _ _ h => h) (Or.inl ⟨by rfl, ?y3⟩) hS ?r3
            case y3 => intro wq _; go_simp; all_goals (first | with_reducible rfl | go_num | (simp; done) | (simp; omega) | skip)
            try simp only [Act.put, List.setIfInBounds_toArray, List.set_cons_zero, List.set_cons_succ]
            refine wpAnyC_take (i := 3) (v := .pointer (some ⟨x.B, 0, none⟩)) rfl (by kernel_rfl) (fun _ _ _ h => h) (Or.inl ⟨by rfl, ?y4⟩) hS ?r4
            case y4 => rintro wq ⟨c0, -⟩; go_simp; try with_reducible rfl
            try simp only [Act.put, List.setIfInBounds_toArray, List.set_cons_zero, List.set_cons_succ]
            refine wpAnyC_take (i := 4) (v := ?v5) rfl (by kernel_rfl) (fun _ _ _ h => h) (Or.inl ⟨by rfl, ?y5⟩) hS ?r5
            case y5 => intro wq _; go_simp; all_goals (first | with_reducible rfl | go_num | (simp; done) | (simp; omega) | skip)
            try simp only [Act.put, List.setIfInBounds_toArray, List.set_cons_zero, List.set_cons_succ]
            refine wpAnyC_take (i := 5) (v := .int .i64 ((s - 16 : Nat) : Int)) rfl (by kernel_rfl) (fun _ _ _ h => h) (Or.inl ⟨by rfl, ?y6⟩) hS ?r6
            case y6 => intro wq _; go_simp; all_goals (rw [ews])
            try simp only [Act.put, List.setIfInBounds_toArray, List.set_cons_zero, List.set_cons_succ]
            refine wpAnyC_take (i := 6) (v := .pointer (some ⟨1, (s - 16) * 2, none⟩)) rfl (by kernel_rfl) (fun _ _ _ h => h) (Or.inl ⟨by rfl, ?y7⟩) hS ?r7
            case y7 => intro wq _; go_simp; all_goals (first | with_reducible rfl | go_num | (simp; done) | (simp; omega) | skip)
            try simp only [Act.put, List.setIfInBounds_toArray, List.set_cons_zero, List.set_cons_succ]
            refine wpAnyC_take (i := 7) (v := .pointer (some ⟨1, (s - 16) * 2, none⟩)) rfl (by kernel_rfl) (fun _ _ _ h => h) (Or.inl ⟨by rfl, ?y8⟩) hS ?r8
            case y8 => intro wq _; go_simp; all_goals (first | with_reducible rfl | go_num | (simp; done) | (simp; omega) | skip)
            try simp only [Act.put, List.setIfInBounds_toArray, List.set_cons_zero, List.set_cons_succ]
            refine wpAnyC_take (i := 8) (v := .int .i64 (repB s : Int)) rfl (by kernel_rfl) (fun _ _ _ h => h) (Or.inl ⟨by rfl, ?y9⟩) hS ?r9
            case y9 => rintro wq ⟨-, c0⟩; go_simp; try with_reducible rfl
            try simp only [Act.put, List.setIfInBounds_toArray, List.set_cons_zero, List.set_cons_succ]
            refine wpAnyC_one (j := 9) (by kernel_rfl) rfl (fun K hK => ?_)
            go_simp
            go_at_call 69
            refine HC.out.mono ?_
            rintro e v2 ⟨m, E, rfl, kk, hv⟩
            have hb2 : Fr (fun k => k = x.B) w1 v2 := hbd.trans kk (fun _ _ e => e)
            have HV := Lib.hid hv
            clear kk hv
            have hS := HCC.out v2 hb2
            go_wp2_with fail
            refine hK.out _ _ ⟨hS, ?_⟩
            clear hK K
            try simp only [Act.put, List.setIfInBounds_toArray, List.set_cons_zero, List.set_cons_succ]
            refine wpAnyC_take (i := 10) (v := ?v10) rfl (by kernel_rfl) (fun _ _ _ h => h) (Or.inl ⟨by rfl, ?y10⟩) hS ?r10
            case y10 => intro wq _; go_simp; all_goals (first | with_reducible rfl | go_num | (simp; done) | (simp; omega) | skip)
            try simp only [Act.put, List.setIfInBounds_toArray, List.set_cons_zero, List.set_cons_succ]
            refine wpAnyC_take (i := 11) (v := ?v11) rfl (by kernel_rfl) (fun _ _ _ h => h) (Or.inl ⟨by rfl, ?y11⟩) hS ?r11
            case y11 => intro wq _; go_simp; all_goals (first | with_reducible rfl | go_num | (simp; done) | (simp; omega) | skip)
            try simp only [Act.put, List.setIfInBounds_toArray, List.set_cons_zero, List.set_cons_succ]
            refine wpAnyC_take (i := 12) (v := ?v12) rfl (by kernel_rfl) (fun _ _ _ h => h) (Or.inl ⟨by rfl, ?y12⟩) hS ?r12
            case y12 => intro wq _; go_simp; all_goals (first | with_reducible rfl | go_num | (simp; done) | (simp; omega) | skip)
            try simp only [Act.put, List.setIfInBounds_toArray, List.set_cons_zero, List.set_cons_succ]
            refine wpAnyC_take (i := 13) (v := ?v13) rfl (by kernel_rfl) (fun _ _ _ h => h) (Or.inl ⟨by rfl, ?y13⟩) hS ?r13
            case y13 => intro wq _; go_simp; all_goals (first | with_reducible rfl | go_num | (simp; done) | (simp; omega) | skip)
            try simp only [Act.put, List.setIfInBounds_toArray, List.set_cons_zero, List.set_cons_succ]
            refine wpAnyC_take (i := 14) (v := ?v14) rfl (by kernel_rfl) (fun _ _ _ h => h) (Or.inl ⟨by rfl, ?y14⟩) hS ?r14
            case y14 => intro wq _; go_simp; all_goals (first | with_reducible rfl | go_num | (simp; done) | (simp; omega) | skip)
            try simp only [Act.put, List.setIfInBounds_toArray, List.set_cons_zero, List.set_cons_succ]
            refine wpAnyC_done (by kernel_rfl) ?_ _
            clear hS HCC hbd HC
            have HFB := Lib.hid hb2
            clear hb2
            rcases HV.out with ⟨rfl, N2, L2, hp, hL2, hm, hr⟩ | ⟨hE, rfl, hp⟩
            rotate_left
            · have d4 : (E != 0) = true := by simp [hE]
              have HZ := Lib.hid (show codeGo cl n 1000 [] N L = .error E by rw [HPC.out, bnd_er hp])
              have HFZ := Lib.hid (HF1.out.trans (Fl.ofB HFB.out))
              clear hp
              go_wp2_with fail
              go_ret2
              exact ⟨none, 0, [], E, rfl, HFZ.out, .inr ⟨hE, rfl, HZ.out⟩⟩
            have H2 := Lib.hid (H1.out.keep HFB.out hr hL2)
            have HF2 := Lib.hid (HF1.out.trans (Fl.ofB HFB.out))
            have HP2 := Lib.hid (show codeGo cl n 1000 [] N L = codeGo cl n f' (l ++ List.replicate (repL s + m) y) N2 L2 by rw [HPC.out, bnd_ok hp])
            have hown2 := own_frame HOW1.out HFB.out (fun g hg e => by
              obtain ⟨-, -, cs, hc⟩ := own_lt HOW1.out hg
              obtain ⟨rc, hrw⟩ := H1.out.rd.whole
              exact hc.apart hrw (by decide) e)
            have hpow : (2 : Nat) ^ repB s ≤ 128 := Nat.le_trans (Nat.pow_le_pow_right (by decide) hrb.1) (by decide)
            have HOW2 := Lib.hid hown2
            have HEN2 := Lib.hid (HEN.out.kept (HF2.out.below HLOW.out) hb2')
            have r1 := (HEN2.out.2.2 s (by omega) hs18).2
            have l1 : 1 < v2.heap.size := HEN2.out.1
            obtain ⟨w4, hw4⟩ : ∃ w4, v2.alloc (.cells #[.int .i64 y] 3) = w4 := ⟨_, rfl⟩
            have hb4 : Below v2.heap.size v2 w4 := by rw [← hw4]; exact (Below.refl _ _).alloc (Nat.le_refl _) _
            have hwf : Whole w4 v2.heap.size 3 (iiv [y]).toArray := by rw [← hw4]; exact Whole.made _ _ _
            have r1' := (hb4.cell (p := ⟨1, (s - 16) * 2 + 1, none⟩) l1).trans r1
            have l1' : 1 < w4.heap.size := Nat.lt_of_lt_of_le l1 hb4.size
            have ewa : IntKind.i64.wrap ((repL s : Int) + (m : Int)) = ((repL s + m : Nat) : Int) := by rw [IntKind.wrap_i64]; omega
            have hk1 : 1 ≤ repL s + m ∧ repL s + m ≤ 139 := by omega
            have HRP := Lib.hid (repeat_any (some ⟨v2.heap.size, 0, none⟩) 1 y (repL s + m) w4 (IntsAt.of_whole hwf (show (1 : Nat) ≤ 9223372036854775807 by decide)) hk1.1 (by omega))
            have H4 := Lib.hid (And.intro (H2.out.later hb4) (And.intro (HF2.out.trans (Fl.new hb4)) (own_new HOW2.out hb4)))
            clear hb4 hwf hr hp hown2
            go_wp2_with fail
            refine HRP.out.mono ?_
            rintro e w5 ⟨G5, rfl, hG5, hw5, hb⟩
            have H5 := Lib.hid (And.intro (H4.out.1.later hb) (And.intro (H4.out.2.1.trans (Fl.new hb)) (own_new H4.out.2.2 hb)))
            have HW5 := Lib.hid hw5
            have hsz5 := H5.out.2.1.size
            obtain ⟨K, hK⟩ : ∃ K, repL s + m = K := ⟨_, rfl⟩
            rw [hK] at HW5 hk1 HP2
            try rw [hK]
            clear hb hw5 hG5 r1 r1' HRP hpow ewa
            go_wp2_with (at_builtin; refine wpList_append_own _ rfl _ _ 74 rfl w.heap.size 3 i0 (.int .i64 0) 1 8 Tryd.underlying74 HI0.out.1 HI0.out.2.1 HI0.out.2.2.1 HI0.out.2.2.2 rfl (by decide) _ _ _ rfl H5.out.2.2 ⟨G5, 0, none⟩ K K (iiv (List.replicate K y)) rfl (by rw [iiv_length, List.length_replicate, Nat.mul_one]) (World.news_of_block (cs := (iiv (List.replicate K y)).toArray) (t := 3) (fr := (0, 0)) HW5.out) ?p1 ?p2 ?p3 ?p4 ?_)
            case p1 => intro u hu; unfold iiv at hu; obtain ⟨b, -, rfl⟩ := List.mem_map.1 hu; rfl
            case p2 => unfold maxLen; omega
            case p3 => omega
            case p4 => exact hsz5
            intro v' w6 hown' hgrow _
            rw [← iiv_append] at hown'
            have hown6 : w6.ownsRow w.heap.size 3 1 v' (l ++ List.replicate K y).length (iiv (l ++ List.replicate K y)) := by rw [List.length_append, List.length_replicate]; exact hown'
            have HEND := Lib.hid (And.intro (H5.out.1.grownInt hgrow (fun g hg => by
              obtain ⟨-, -, cs, hc⟩ := own_lt H5.out.2.2 hg
              exact ⟨cs, hc⟩)) (And.intro (Fr.grown H5.out.2.1 hgrow (fun j e hj => absurd (own_lt H5.out.2.2 e).1 (by omega))) hown6))
            clear hown' hgrow hown6
            go_wp2_with fail
            go_roundg L2
            case rel => exact ⟨l ++ List.replicate K y, N2, f', it + 1, by omega, by rw [List.length_append, List.length_replicate]; omega, by omega, by omega, by rw [List.length_append, List.length_replicate]; omega, HP2, Lib.hid HEND.out.1, Lib.hid HEND.out.2.1, Lib.hid HEND.out.2.2⟩
            case measure => omega
        · have d4 : ((s : Int) == 16) = false := by simp; omega
          have HPC := Lib.hid (show codeGo cl n 1000 [] N L = (bnd (bitsP (repB s)) fun m => codeGo cl n f' (l ++ List.replicate (repL s + m) 0) : Ps (List Int)) N1 L1 by rw [HPR.out, if_neg (fun e => hs16 e.1), if_neg hs16])
          clear hs16
          go_upto_region 13 with fail
          have HCC : Hid (∀ v, Fr (fun k => k = x.B) w1 v → (fun v => v.cell? ⟨x.D, 0, none⟩ = some (.pointer (some ⟨x.B, 0, none⟩)) ∧ v.cell? ⟨1, (s - 16) * 2, none⟩ = some (.int .i64 (repB s : Int))) v) := Lib.hid (fun v hb => ⟨(hb.cell' HQ.out.1 HQ.out.2.1).trans HQ.out.2.2.1, (hb.cell' HQ.out.2.2.2.1 HQ.out.2.2.2.2.1).trans HQ.out.2.2.2.2.2⟩)
          have hbd : Fr (fun k => k = x.B) w1 w1.drew := (Fr.refl _ _).drew
          have hS := HCC.out w1.drew hbd
          refine wp_region_C (fun v => v.cell? ⟨x.D, 0, none⟩ = some (.pointer (some ⟨x.B, 0, none⟩)) ∧ v.cell? ⟨1, (s - 16) * 2, none⟩ = some (.int .i64 (repB s : Int))) (by kernel_rfl) ?_
          refine wpAnyC_take (i := 0) (v := ?v15) rfl (by kernel_rfl) (fun _ _ _ h => h) (Or.inl ⟨by rfl, ?y15⟩) hS ?r15
          case y15 => intro wq _; go_simp; all_goals (first | with_reducible rfl | go_num | (simp; done) | (simp; omega) | skip)
          try simp only [Act.put, List.setIfInBounds_toArray, List.set_cons_zero, List.set_cons_succ]
          refine wpAnyC_take (i := 1) (v := ?v16) rfl (by kernel_rfl) (fun _ _ _ h => h) (Or.inl ⟨by rfl, ?y16⟩) hS ?r16
          case y16 => intro wq _; go_simp; all_goals (first | with_reducible rfl | go_num | (simp; done) | (simp; omega) | skip)
          try simp only [Act.put, List.setIfInBounds_toArray, List.set_cons_zero, List.set_cons_succ]
          refine wpAnyC_take (i := 2) (v := ?v17) rfl (by kernel_rfl) (fun _ _ _ h => h) (Or.inl ⟨by rfl, ?y17⟩) hS ?r17
          case y17 => intro wq _; go_simp; all_goals (first | with_reducible rfl | go_num | (simp; done) | (simp; omega) | skip)
          try simp only [Act.put, List.setIfInBounds_toArray, List.set_cons_zero, List.set_cons_succ]
          refine wpAnyC_take (i := 3) (v := .pointer (some ⟨x.B, 0, none⟩)) rfl (by kernel_rfl) (fun _ _ _ h => h) (Or.inl ⟨by rfl, ?y18⟩) hS ?r18
          case y18 => rintro wq ⟨c0, -⟩; go_simp; try with_reducible rfl
          try simp only [Act.put, List.setIfInBounds_toArray, List.set_cons_zero, List.set_cons_succ]
          refine wpAnyC_take (i := 4) (v := ?v19) rfl (by kernel_rfl) (fun _ _ _ h => h) (Or.inl ⟨by rfl, ?y19⟩) hS ?r19
          case y19 => intro wq _; go_simp; all_goals (first | with_reducible rfl | go_num | (simp; done) | (simp; omega) | skip)
          try simp only [Act.put, List.setIfInBounds_toArray, List.set_cons_zero, List.set_cons_succ]
          refine wpAnyC_take (i := 5) (v := .int .i64 ((s - 16 : Nat) : Int)) rfl (by kernel_rfl) (fun _ _ _ h => h) (Or.inl ⟨by rfl, ?y20⟩) hS ?r20
          case y20 => intro wq _; go_simp; all_goals (rw [ews])
          try simp only [Act.put, List.setIfInBounds_toArray, List.set_cons_zero, List.set_cons_succ]
          refine wpAnyC_take (i := 6) (v := .pointer (some ⟨1, (s - 16) * 2, none⟩)) rfl (by kernel_rfl) (fun _ _ _ h => h) (Or.inl ⟨by rfl, ?y21⟩) hS ?r21
          case y21 => intro wq _; go_simp; all_goals (first | with_reducible rfl | go_num | (simp; done) | (simp; omega) | skip)
          try simp only [Act.put, List.setIfInBounds_toArray, List.set_cons_zero, List.set_cons_succ]
          refine wpAnyC_take (i := 7) (v := .pointer (some ⟨1, (s - 16) * 2, none⟩)) rfl (by kernel_rfl) (fun _ _ _ h => h) (Or.inl ⟨by rfl, ?y22⟩) hS ?r22
          case y22 => intro wq _; go_simp; all_goals (first | with_reducible rfl | go_num | (simp; done) | (simp; omega) | skip)
          try simp only [Act.put, List.setIfInBounds_toArray, List.set_cons_zero, List.set_cons_succ]
          refine wpAnyC_take (i := 8) (v := .int .i64 (repB s : Int)) rfl (by kernel_rfl) (fun _ _ _ h => h) (Or.inl ⟨by rfl, ?y23⟩) hS ?r23
          case y23 => rintro wq ⟨-, c0⟩; go_simp; try with_reducible rfl
          try simp only [Act.put, List.setIfInBounds_toArray, List.set_cons_zero, List.set_cons_succ]
          refine wpAnyC_one (j := 9) (by kernel_rfl) rfl (fun K hK => ?_)
          go_simp
          go_at_call 69
          refine HC.out.mono ?_
          rintro e v2 ⟨m, E, rfl, kk, hv⟩
          have hb2 : Fr (fun k => k = x.B) w1 v2 := hbd.trans kk (fun _ _ e => e)
          have HV := Lib.hid hv
          clear kk hv
          have hS := HCC.out v2 hb2
          go_wp2_with fail
          refine hK.out _ _ ⟨hS, ?_⟩
          clear hK K
          try simp only [Act.put, List.setIfInBounds_toArray, List.set_cons_zero, List.set_cons_succ]
          refine wpAnyC_take (i := 10) (v := ?v24) rfl (by kernel_rfl) (fun _ _ _ h => h) (Or.inl ⟨by rfl, ?y24⟩) hS ?r24
          case y24 => intro wq _; go_simp; all_goals (first | with_reducible rfl | go_num | (simp; done) | (simp; omega) | skip)
          try simp only [Act.put, List.setIfInBounds_toArray, List.set_cons_zero, List.set_cons_succ]
          refine wpAnyC_take (i := 11) (v := ?v25) rfl (by kernel_rfl) (fun _ _ _ h => h) (Or.inl ⟨by rfl, ?y25⟩) hS ?r25
          case y25 => intro wq _; go_simp; all_goals (first | with_reducible rfl | go_num | (simp; done) | (simp; omega) | skip)
          try simp only [Act.put, List.setIfInBounds_toArray, List.set_cons_zero, List.set_cons_succ]
          refine wpAnyC_take (i := 12) (v := ?v26) rfl (by kernel_rfl) (fun _ _ _ h => h) (Or.inl ⟨by rfl, ?y26⟩) hS ?r26
          case y26 => intro wq _; go_simp; all_goals (first | with_reducible rfl | go_num | (simp; done) | (simp; omega) | skip)
          try simp only [Act.put, List.setIfInBounds_toArray, List.set_cons_zero, List.set_cons_succ]
          refine wpAnyC_take (i := 13) (v := ?v27) rfl (by kernel_rfl) (fun _ _ _ h => h) (Or.inl ⟨by rfl, ?y27⟩) hS ?r27
          case y27 => intro wq _; go_simp; all_goals (first | with_reducible rfl | go_num | (simp; done) | (simp; omega) | skip)
          try simp only [Act.put, List.setIfInBounds_toArray, List.set_cons_zero, List.set_cons_succ]
          refine wpAnyC_take (i := 14) (v := ?v28) rfl (by kernel_rfl) (fun _ _ _ h => h) (Or.inl ⟨by rfl, ?y28⟩) hS ?r28
          case y28 => intro wq _; go_simp; all_goals (first | with_reducible rfl | go_num | (simp; done) | (simp; omega) | skip)
          try simp only [Act.put, List.setIfInBounds_toArray, List.set_cons_zero, List.set_cons_succ]
          refine wpAnyC_done (by kernel_rfl) ?_ _
          clear hS HCC hbd HC
          have HFB := Lib.hid hb2
          clear hb2
          rcases HV.out with ⟨rfl, N2, L2, hp, hL2, hm, hr⟩ | ⟨hE, rfl, hp⟩
          rotate_left
          · have d4 : (E != 0) = true := by simp [hE]
            have HZ := Lib.hid (show codeGo cl n 1000 [] N L = .error E by rw [HPC.out, bnd_er hp])
            have HFZ := Lib.hid (HF1.out.trans (Fl.ofB HFB.out))
            clear hp
            go_wp2_with fail
            go_ret2
            exact ⟨none, 0, [], E, rfl, HFZ.out, .inr ⟨hE, rfl, HZ.out⟩⟩
          have H2 := Lib.hid (H1.out.keep HFB.out hr hL2)
          have HF2 := Lib.hid (HF1.out.trans (Fl.ofB HFB.out))
          have HP2 := Lib.hid (show codeGo cl n 1000 [] N L = codeGo cl n f' (l ++ List.replicate (repL s + m) 0) N2 L2 by rw [HPC.out, bnd_ok hp])
          have hown2 := own_frame HOW1.out HFB.out (fun g hg e => by
            obtain ⟨-, -, cs, hc⟩ := own_lt HOW1.out hg
            obtain ⟨rc, hrw⟩ := H1.out.rd.whole
            exact hc.apart hrw (by decide) e)
          have hpow : (2 : Nat) ^ repB s ≤ 128 := Nat.le_trans (Nat.pow_le_pow_right (by decide) hrb.1) (by decide)
          have HOW2 := Lib.hid hown2
          have HEN2 := Lib.hid (HEN.out.kept (HF2.out.below HLOW.out) hb2')
          have r1 := (HEN2.out.2.2 s (by omega) hs18).2
          have l1 : 1 < v2.heap.size := HEN2.out.1
          obtain ⟨w4, hw4⟩ : ∃ w4, v2.alloc (.cells #[.int .i64 0] 3) = w4 := ⟨_, rfl⟩
          have hb4 : Below v2.heap.size v2 w4 := by rw [← hw4]; exact (Below.refl _ _).alloc (Nat.le_refl _) _
          have hwf : Whole w4 v2.heap.size 3 (iiv [0]).toArray := by rw [← hw4]; exact Whole.made _ _ _
          have r1' := (hb4.cell (p := ⟨1, (s - 16) * 2 + 1, none⟩) l1).trans r1
          have l1' : 1 < w4.heap.size := Nat.lt_of_lt_of_le l1 hb4.size
          have ewa : IntKind.i64.wrap ((repL s : Int) + (m : Int)) = ((repL s + m : Nat) : Int) := by rw [IntKind.wrap_i64]; omega
          have hk1 : 1 ≤ repL s + m ∧ repL s + m ≤ 139 := by omega
          have HRP := Lib.hid (repeat_any (some ⟨v2.heap.size, 0, none⟩) 1 0 (repL s + m) w4 (IntsAt.of_whole hwf (show (1 : Nat) ≤ 9223372036854775807 by decide)) hk1.1 (by omega))
          have H4 := Lib.hid (And.intro (H2.out.later hb4) (And.intro (HF2.out.trans (Fl.new hb4)) (own_new HOW2.out hb4)))
          clear hb4 hwf hr hp hown2
          go_wp2_with fail
          refine HRP.out.mono ?_
          rintro e w5 ⟨G5, rfl, hG5, hw5, hb⟩
          have H5 := Lib.hid (And.intro (H4.out.1.later hb) (And.intro (H4.out.2.1.trans (Fl.new hb)) (own_new H4.out.2.2 hb)))
          have HW5 := Lib.hid hw5
          have hsz5 := H5.out.2.1.size
          obtain ⟨K, hK⟩ : ∃ K, repL s + m = K := ⟨_, rfl⟩
          rw [hK] at HW5 hk1 HP2
          try rw [hK]
          clear hb hw5 hG5 r1 r1' HRP hpow ewa
          go_wp2_with (at_builtin; refine wpList_append_own _ rfl _ _ 74 rfl w.heap.size 3 i0 (.int .i64 0) 1 8 Tryd.underlying74 HI0.out.1 HI0.out.2.1 HI0.out.2.2.1 HI0.out.2.2.2 rfl (by decide) _ _ _ rfl H5.out.2.2 ⟨G5, 0, none⟩ K K (iiv (List.replicate K 0)) rfl (by rw [iiv_length, List.length_replicate, Nat.mul_one]) (World.news_of_block (cs := (iiv (List.replicate K 0)).toArray) (t := 3) (fr := (0, 0)) HW5.out) ?p1 ?p2 ?p3 ?p4 ?_)
          case p1 => intro u hu; unfold iiv at hu; obtain ⟨b, -, rfl⟩ := List.mem_map.1 hu; rfl
          case p2 => unfold maxLen; omega
          case p3 => omega
          case p4 => exact hsz5
          intro v' w6 hown' hgrow _
          rw [← iiv_append] at hown'
          have hown6 : w6.ownsRow w.heap.size 3 1 v' (l ++ List.replicate K 0).length (iiv (l ++ List.replicate K 0)) := by rw [List.length_append, List.length_replicate]; exact hown'
          have HEND := Lib.hid (And.intro (H5.out.1.grownInt hgrow (fun g hg => by
            obtain ⟨-, -, cs, hc⟩ := own_lt H5.out.2.2 hg
            exact ⟨cs, hc⟩)) (And.intro (Fr.grown H5.out.2.1 hgrow (fun j e hj => absurd (own_lt H5.out.2.2 e).1 (by omega))) hown6))
          clear hown' hgrow hown6
          go_wp2_with fail
          go_roundg L2
          case rel => exact ⟨l ++ List.replicate K 0, N2, f', it + 1, by omega, by rw [List.length_append, List.length_replicate]; omega, by omega, by omega, by rw [List.length_append, List.length_replicate]; omega, HP2, Lib.hid HEND.out.1, Lib.hid HEND.out.2.1, Lib.hid HEND.out.2.2⟩
          case measure => omega
    · have d1 : decide ((l.length : Int) < (n : Int)) = false := decide_eq_false (by omega)
      have HPG := Lib.hid (codeGo_end (cl := cl) (f := f') hlt)
      by_cases hgt : n < l.length
      · have d2 : decide ((l.length : Int) > (n : Int)) = true := decide_eq_true (by omega)
        have HZ := Lib.hid (show codeGo cl n 1000 [] N L = .error 4 by rw [HF.out, HPG.out, if_pos hgt]; rfl)
        go_wp2_with fail
        go_ret2
        exact ⟨none, 0, [], 4, rfl, HL.out, .inr ⟨by decide, rfl, HZ.out⟩⟩
      · have d2 : decide ((l.length : Int) > (n : Int)) = false := decide_eq_false (by omega)
        have HZ := Lib.hid (show codeGo cl n 1000 [] N L = .ok (l, N', gk) by rw [HF.out, HPG.out, if_neg hgt]; rfl)
        go_wp2_with fail
        go_ret2
        exact ⟨A8, c8, l, 0, rfl, HL.out, .inl ⟨rfl, N', gk, HZ.out, hgL, by omega, HI8.out, HD.out⟩⟩
end Go.Proofs.YtnjdnldoopgcpaaDoor
