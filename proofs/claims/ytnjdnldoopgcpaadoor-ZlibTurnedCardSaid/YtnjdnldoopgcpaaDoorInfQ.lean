/- inflate: the codes of a block of its own. -/
import Derived.Test.YtnjdnldoopgcpaaDoorInfO
namespace Go.Proofs.YtnjdnldoopgcpaaDoor
open Go.RowKit

theorem below_drew1 {w v : World} (h : Below w.drew.heap.size w.drew v) : Below w.heap.size w v := ((Below.refl w.heap.size w).drew).trans h
theorem fieldsP_lt : ∀ (ks : List Nat) {N L : Nat} {vs : List Nat} {N' L' : Nat}, fieldsP ks N L = .ok (vs, N', L') → ∀ (i k v : Nat), ks[i]? = some k → vs[i]? = some v → v < 2 ^ k
  | [], N, L, vs, N', L', h, i, k, v, hk, _ => by simp at hk
  | k0 :: ks, N, L, vs, N', L', h, i, k, v, hk, hv => by
    rw [fieldsP] at h
    by_cases hle : k0 ≤ L
    · have e : bitsP k0 N L = .ok (N % 2 ^ k0, N / 2 ^ k0, L - k0) := by unfold bitsP; rw [if_pos hle]
      rw [bnd_ok e] at h
      cases hq : fieldsP ks (N / 2 ^ k0) (L - k0) with
      | error e' => rw [bnd_er hq] at h; cases h
      | ok r =>
        obtain ⟨us, N1, L1⟩ := r
        rw [bnd_ok hq] at h
        injection h with h
        injection h with h _
        subst h
        match i, hk, hv with
        | 0, hk, hv =>
          simp at hk hv
          subst hk hv
          exact Nat.mod_lt _ (Nat.two_pow_pos _)
        | i + 1, hk, hv => exact fieldsP_lt ks hq i k v (by simpa using hk) (by simpa using hv)
    · have e : bitsP k0 N L = .error 6 := by unfold bitsP; rw [if_neg hle]
      rw [bnd_er e] at h; cases h
theorem IntsAt.left {w : World} {R o n c : Nat} {l : List Int} (h : IntsAt w (some ⟨R, o, none⟩) n c l) {k : Nat} (hk : k ≤ n) : IntsAt w (some ⟨R, o, none⟩) k c (l.take k) := by
  refine ⟨by rw [List.length_take, h.len]; omega, by have := h.cap; omega, h.top, fun h0 => ?_⟩
  obtain ⟨R', o', e, hR, hc⟩ := h.at_ (by omega)
  refine ⟨R', o', e, hR, fun i x hx => hc i x ?_⟩
  rw [List.getElem?_take] at hx
  split at hx
  · exact hx
  · cases hx
theorem IntsAt.right {w : World} {R o n c : Nat} {l : List Int} (h : IntsAt w (some ⟨R, o, none⟩) n c l) {k : Nat} (hk : k ≤ n) : IntsAt w (some ⟨R, o + k, none⟩) (n - k) (c - k) (l.drop k) := by
  refine ⟨by rw [List.length_drop, h.len], by have := h.cap; omega, by have := h.top; omega, fun h0 => ?_⟩
  obtain ⟨R', o', e, hR, hc⟩ := h.at_ (by omega)
  injection e with e
  injection e with e1 e2
  subst e1 e2
  refine ⟨R, o + k, rfl, hR, fun i x hx => ?_⟩
  rw [List.getElem?_drop] at hx
  have := hc (k + i) x hx
  rw [← Nat.add_assoc] at this
  exact this
theorem results_dy (tmps : Array Value) (w : World) (g : Nat) (a b v : Value) (hp : tmps.getD 2 undef = .pointer (some ⟨g, 0, none⟩)) (hv : tmps.getD 3 undef = v) (h0 : w.cell? ⟨g, 0, none⟩ = some a) (h1 : w.cell? ⟨g, 1, none⟩ = some b) :
    (results Tryd.f55 tmps).run Tryd.prog w = .ok (.tuple #[.agg #[a, b], v]) w := by
  have hp' : tmps[2]?.getD undef = .pointer (some ⟨g, 0, none⟩) := by simpa using hp
  have hv' : tmps[3]?.getD undef = v := by simpa using hv
  simp [results, Tryd.results55, hp', hv', asAddr, go_sem, h0, h1]
/-- What dynamicCodes answers. -/
def DynIs (x : Cx) (p3 p4 : Value) (a : Acc) (N L : Nat) (w : World) (e : Ending) (w' : World) : Prop :=
  ∃ (q1 q2 : Value) (E : Int), e = .returned (.tuple #[.agg #[q1, q2], .int .i64 E]) ∧ Fl x w w' ∧
    ((E = 0 ∧ ∃ N' L' ls ds P1 P2, dynP N L = .ok ((ls, ds), N', L') ∧ L' ≤ L ∧ q1 = .pointer (some ⟨P1, 0, none⟩) ∧ q2 = .pointer (some ⟨P2, 0, none⟩) ∧ TabAt w' P1 ls ∧ TabAt w' P2 ds ∧ DecS x w' p3 p4 a N' L') ∨ (E ≠ 0 ∧ q1 = .pointer none ∧ q2 = .pointer none ∧ dynP N L = .error E))
theorem dyn_err {x : Cx} {p3 p4 : Value} {a : Acc} {N L : Nat} {w w1 : World} {E : Int} (hE : E ≠ 0) (hf : Fl x w w1) (hp : dynP N L = .error E) :
    DynIs x p3 p4 a N L w (.returned (.tuple #[.agg #[.pointer none, .pointer none], .int .i64 E])) ((w1.setCell ⟨w.heap.size, 0, none⟩ (.pointer none)).setCell ⟨w.heap.size, 1, none⟩ (.pointer none)) :=
  ⟨_, _, E, rfl, (hf.setNew (Nat.le_refl _) 0 _).setNew (Nat.le_refl _) 1 _, .inr ⟨hE, rfl, rfl, hp⟩⟩
set_option maxRecDepth 100000 in
set_option maxHeartbeats 2000000 in
theorem dyn_any (x : Cx) (p3 p4 : Value) (a : Acc) (N L : Nat) (w : World) (h : DecS x w p3 p4 a N L) (hE : Env w) (hb2' : 2 ≤ x.base) :
    Calls Tryd.prog 55 #[.pointer (some ⟨x.D, 0, none⟩)] w (DynIs x p3 p4 a N L w) := by
  obtain ⟨wA, hwA⟩ : ∃ wA, w.alloc (.cells #[.pointer none, .pointer none] 64) = wA := ⟨_, rfl⟩
  have hbA : Below w.heap.size w wA := by rw [← hwA]; exact (Below.refl _ _).alloc (Nat.le_refl _) _
  have hGA : Whole wA w.heap.size 64 #[.pointer none, .pointer none] := by rw [← hwA]; exact Whole.made _ _ _
  obtain ⟨wB, hwB⟩ : ∃ wB, wA.alloc (.cells #[.int .i64 5, .int .i64 5, .int .i64 4] 3) = wB := ⟨_, rfl⟩
  have hbB : Below wA.heap.size wA wB := by rw [← hwB]; exact (Below.refl _ _).alloc (Nat.le_refl _) _
  have hwk : Whole wB wA.heap.size 3 (iiv ([5, 5, 4].map Int.ofNat)).toArray := by rw [← hwB]; exact Whole.made _ _ _
  have HB0 := Lib.hid (And.intro ((h.later hbA).later hbB) (And.intro ((Fl.new (x := x) hbA).trans (Fl.new hbB)) (hGA.here hbB)))
  have HFI := Lib.hid (fields_any x p3 p4 a N L (some ⟨wA.heap.size, 0, none⟩) 3 3 [5, 5, 4] wB HB0.out.1 (IntsAt.of_whole hwk (by decide)) (fun R o e => by
    injection e with e
    injection e with e
    obtain ⟨rc, hrw⟩ := (h.later hbA).rd.whole
    have := hrw.lt
    omega) (by decide) (by decide))
  have HEN := Lib.hid hE
  have HLOW := Lib.hid h.low
  clear h hE hbA hGA hbB hwk
  go_enter Tryd.func55, Tryd.ntmps55
  go_wp2_with fail
  refine HFI.out.mono ?_
  rintro e w3 ⟨A3, c3, vs, E, rfl, hf, hv⟩
  have HB0F := Lib.hid hf
  have HF3 := Lib.hid (HB0.out.2.1.trans (Fl.ofB hf))
  have hG3 := HB0.out.2.2.fl HB0.out.1 (Fl.ofB hf) (by decide) (by decide) (by decide)
  rcases hv with ⟨rfl, N1, L1, G, hp, hvl, hL, hr, rfl, hG, rfl, hw, hlt⟩ | ⟨hE, rfl, hp⟩
  rotate_left
  · have d1 : (E != 0) = true := by simp [hE]
    have HZ := Lib.hid (show dynP N L = .error E by unfold dynP; rw [bnd_er hp])
    have HG3 := Lib.hid hG3
    have g0 := hG3.reads 0
    have g1 := hG3.reads 1
    have ft := hG3.thawed
    have lG := hG3.lt
    clear hp hf hG3
    go_wp2_with fail
    have hW2 := (HG3.out.set 0 (.pointer none)).set 1 (.pointer none)
    exact bodyPost_ret (v := .tuple #[.agg #[.pointer none, .pointer none], .int .i64 E]) (results_dy _ _ w.heap.size _ _ _ rfl rfl (hW2.reads 0) (hW2.reads 1)) rfl (dyn_err hE HF3.out HZ.out)
  obtain ⟨v0, v1, v2, rfl⟩ : ∃ v0 v1 v2, vs = [v0, v1, v2] := by
    match vs, hvl with
    | [v0, v1, v2], _ => exact ⟨v0, v1, v2, rfl⟩
  have hv0 := fieldsP_lt _ hp 0 5 v0 rfl rfl
  have hv1 := fieldsP_lt _ hp 1 5 v1 rfl rfl
  have hv2 := fieldsP_lt _ hp 2 4 v2 rfl rfl
  have H3 := Lib.hid (And.intro (HB0.out.1.keep HB0F.out hr hL) (And.intro HF3.out (And.intro hG3 hw)))
  have HPD := Lib.hid (show dynP N L = (if 286 < v0 + 257 ∨ 30 < v1 + 1 then bad 4 else bnd (lenCodesP (v2 + 4)) fun cl => bnd (codeGo cl (v0 + 257 + (v1 + 1)) 1000 []) fun l => makeBoth (l.take (v0 + 257)) (l.drop (v0 + 257)) : Ps (List Int × List Int)) N1 L1 by unfold dynP; rw [bnd_ok hp]; rfl)
  obtain ⟨S0, hS0⟩ : ∃ S0, v0 + 257 = S0 := ⟨_, rfl⟩
  obtain ⟨S1, hS1⟩ : ∃ S1, v1 + 1 = S1 := ⟨_, rfl⟩
  have ew0 : IntKind.i64.wrap ((v0 : Int) + 257) = (S0 : Int) := by rw [IntKind.wrap_i64]; omega
  have ew1 : IntKind.i64.wrap ((v1 : Int) + 1) = (S1 : Int) := by rw [IntKind.wrap_i64]; omega
  have hS0l : 257 ≤ S0 ∧ S0 ≤ 288 := by omega
  have hS1l : 1 ≤ S1 ∧ S1 ≤ 32 := by omega
  rw [hS0, hS1] at HPD
  have k0 : w3.cell? ⟨G, 0, none⟩ = some (.int .i64 (v0 : Int)) := hw.reads 0
  have k1 : w3.cell? ⟨G, 1, none⟩ = some (.int .i64 (v1 : Int)) := hw.reads 1
  have lGG := hw.lt
  clear hp hf hr hw hlt hG3 hS0 hS1 HFI
  go_wp2_with fail
  go_quiet (fail)
  generalize hwD : w3.drewN nq = wD
  have hbD : Below w3.heap.size w3 wD := by rw [← hwD]; exact below_drewN (Below.refl _ _) _
  have H4 := Lib.hid (And.intro (H3.out.1.later hbD) (And.intro (H3.out.2.1.trans (Fl.new hbD)) (H3.out.2.2.2.here hbD)))
  have HG4 := Lib.hid (H3.out.2.2.1.here hbD)
  clear hbD hwD k0 k1 lGG
  by_cases hbig : 286 < S0 ∨ 30 < S1
  · have HZ := Lib.hid (show dynP N L = .error 4 by rw [HPD.out, if_pos hbig]; rfl)
    have HF4 := Lib.hid H4.out.2.1
    have g0 := HG4.out.reads 0
    have g1 := HG4.out.reads 1
    have ft := HG4.out.thawed
    have lG := HG4.out.lt
    by_cases h286 : 286 < S0
    · have d5 : decide ((S0 : Int) > 286) = true := decide_eq_true (by omega)
      clear hbig h286
      go_wp2_with fail
      have hW2 := (HG4.out.set 0 (.pointer none)).set 1 (.pointer none)
      exact bodyPost_ret (v := .tuple #[.agg #[.pointer none, .pointer none], .int .i64 4]) (results_dy _ _ w.heap.size _ _ _ rfl rfl (hW2.reads 0) (hW2.reads 1)) rfl (dyn_err (by decide) HF4.out HZ.out)
    · have d5 : decide ((S0 : Int) > 286) = false := decide_eq_false (by omega)
      have d6 : decide ((S1 : Int) > 30) = true := decide_eq_true (by omega)
      clear hbig h286
      go_wp2_with fail
      have hW2 := (HG4.out.set 0 (.pointer none)).set 1 (.pointer none)
      exact bodyPost_ret (v := .tuple #[.agg #[.pointer none, .pointer none], .int .i64 4]) (results_dy _ _ w.heap.size _ _ _ rfl rfl (hW2.reads 0) (hW2.reads 1)) rfl (dyn_err (by decide) HF4.out HZ.out)
  have d5 : decide ((S0 : Int) > 286) = false := decide_eq_false (by omega)
  have d6 : decide ((S1 : Int) > 30) = false := decide_eq_false (by omega)
  rw [if_neg hbig] at HPD
  have hsz0 : S0 ≤ 286 ∧ S1 ≤ 30 := by omega
  clear hbig
  have k2 : wD.cell? ⟨G, 2, none⟩ = some (.int .i64 (v2 : Int)) := H4.out.2.2.reads 2
  have lGG := H4.out.2.2.lt
  have ew2 : IntKind.i64.wrap ((v2 : Int) + 4) = ((v2 + 4 : Nat) : Int) := by rw [IntKind.wrap_i64]; omega
  have HEN4 := Lib.hid (HEN.out.kept (H4.out.2.1.below HLOW.out) hb2')
  have HLC := Lib.hid (lenCodes_any x p3 p4 a N1 L1 (v2 + 4) wD H4.out.1 HEN4.out hb2' (by omega) (by omega))
  go_wp2_with fail
  refine HLC.out.mono ?_
  rintro e w5 ⟨p, E, rfl, hf, hv⟩
  have HF5 := Lib.hid (H4.out.2.1.trans hf)
  have HG5 := Lib.hid (HG4.out.fl H4.out.1 hf (by decide) (by decide) (by decide))
  clear hf k2 lGG HLC
  rcases hv with ⟨rfl, N2, L2, cl, P, hp, hL2, rfl, hcl, ht, hd⟩ | ⟨hE, rfl, hp⟩
  rotate_left
  · have d7 : (E != 0) = true := by simp [hE]
    have HZ := Lib.hid (show dynP N L = .error E by rw [HPD.out, bnd_er hp])
    have g0 := HG5.out.reads 0
    have g1 := HG5.out.reads 1
    have ft := HG5.out.thawed
    have lG := HG5.out.lt
    clear hp
    go_wp2_with fail
    have hW2 := (HG5.out.set 0 (.pointer none)).set 1 (.pointer none)
    exact bodyPost_ret (v := .tuple #[.agg #[.pointer none, .pointer none], .int .i64 E]) (results_dy _ _ w.heap.size _ _ _ rfl rfl (hW2.reads 0) (hW2.reads 1)) rfl (dyn_err hE HF5.out HZ.out)
  have HP5 := Lib.hid (show dynP N L = (bnd (codeGo cl (S0 + S1) 1000 []) fun l => makeBoth (l.take S0) (l.drop S0) : Ps (List Int × List Int)) N2 L2 by rw [HPD.out, bnd_ok hp])
  have H5 := Lib.hid hd
  have HEN5 := Lib.hid (HEN.out.kept (HF5.out.below HLOW.out) hb2')
  have ews : IntKind.i64.wrap ((S0 : Int) + (S1 : Int)) = ((S0 + S1 : Nat) : Int) := by rw [IntKind.wrap_i64]; omega
  have HCL := Lib.hid (codeLens_any x p3 p4 a N2 L2 (S0 + S1) P cl w5 hd HEN5.out hb2' ht hcl (by omega))
  clear hp ht hd
  go_wp2_with fail
  refine HCL.out.mono ?_
  rintro e w6 ⟨A9, c9, l, E, rfl, hf, hv⟩
  have HF6 := Lib.hid (HF5.out.trans hf)
  have HG6 := Lib.hid (HG5.out.fl H5.out hf (by decide) (by decide) (by decide))
  clear hf HCL
  rcases hv with ⟨rfl, N3, L3, hp, hL3, hll, hi, hd⟩ | ⟨hE, rfl, hp⟩
  rotate_left
  · have d7 : (E != 0) = true := by simp [hE]
    have HZ := Lib.hid (show dynP N L = .error E by rw [HP5.out, bnd_er hp])
    have g0 := HG6.out.reads 0
    have g1 := HG6.out.reads 1
    have ft := HG6.out.thawed
    have lG := HG6.out.lt
    clear hp
    go_wp2_with fail
    have hW2 := (HG6.out.set 0 (.pointer none)).set 1 (.pointer none)
    exact bodyPost_ret (v := .tuple #[.agg #[.pointer none, .pointer none], .int .i64 E]) (results_dy _ _ w.heap.size _ _ _ rfl rfl (hW2.reads 0) (hW2.reads 1)) rfl (dyn_err hE HF6.out HZ.out)
  have HP6 := Lib.hid (show dynP N L = makeBoth (l.take S0) (l.drop S0) N3 L3 by rw [HP5.out, bnd_ok hp])
  have H6 := Lib.hid hd
  obtain ⟨R9, o9, rfl, -, -⟩ := hi.at_ (by omega)
  have h9cap := hi.cap
  have h9top := hi.top
  have hir := hi.right (k := S0) (by omega)
  have hil := hi.left (k := S0) (by omega)
  rw [show l.length - S0 = S1 by omega] at hir
  have HMB := Lib.hid (both_mk (some ⟨R9, o9, none⟩) (some ⟨R9, o9 + S0, none⟩) S0 c9 S1 (c9 - S0) (l.take S0) (l.drop S0) w6.drew (hil.below ((Below.refl w6.heap.size w6).drew)) (hir.below ((Below.refl w6.heap.size w6).drew)) (by omega))
  have HG9 := Lib.hid HG6.out
  have b1 : (0 : Int) ≤ (S0 : Int) := by omega
  have b2 : (S0 : Int) ≤ (l.length : Int) := by omega
  clear hp hd hi hir hil
  go_wp2_with fail
  go_upto_region 13 with fail
  have hS : True := trivial
  refine wp_region_C (fun _ => True) (by kernel_rfl) ?_
  refine wpAnyC_take (i := 0) (v := ?v1) rfl (by kernel_rfl) (fun _ _ _ h => h) (Or.inl ⟨by rfl, ?y1⟩) hS ?r1
  case y1 => intro wq _; go_simp; all_goals (first | with_reducible rfl | go_num | (simp; done) | (simp; omega) | skip)
  try simp only [Act.put, List.setIfInBounds_toArray, List.set_cons_zero, List.set_cons_succ]
  refine wpAnyC_take (i := 1) (v := ?v2) rfl (by kernel_rfl) (fun _ _ _ h => h) (Or.inl ⟨by rfl, ?y2⟩) hS ?r2
  case y2 => intro wq _; go_simp; all_goals (first | with_reducible rfl | go_num | (simp; done) | (simp; omega) | skip)
  try simp only [Act.put, List.setIfInBounds_toArray, List.set_cons_zero, List.set_cons_succ]
  refine wpAnyC_take (i := 3) (v := ?v3) rfl (by kernel_rfl) (fun _ _ _ h => h) (Or.inl ⟨by rfl, ?y3⟩) hS ?r3
  case y3 => intro wq _; go_simp; all_goals (first | with_reducible rfl | go_num | (simp; done) | (simp; omega) | skip)
  try simp only [Act.put, List.setIfInBounds_toArray, List.set_cons_zero, List.set_cons_succ]
  refine wpAnyC_take (i := 4) (v := ?v4) rfl (by kernel_rfl) (fun _ _ _ h => h) (Or.inl ⟨by rfl, ?y4⟩) hS ?r4
  case y4 => intro wq _; go_simp; all_goals (first | with_reducible rfl | go_num | (simp; done) | (simp; omega) | skip)
  try simp only [Act.put, List.setIfInBounds_toArray, List.set_cons_zero, List.set_cons_succ]
  refine wpAnyC_take (i := 2) (v := .slice (some ⟨R9, o9, none⟩) S0 c9) rfl (by kernel_rfl) (fun _ _ _ h => h) (Or.inl ⟨by rfl, ?y5⟩) hS ?r5
  case y5 => intro wq _; go_simp; all_goals (first | omega | (simp; omega) | skip)
  try simp only [Act.put, List.setIfInBounds_toArray, List.set_cons_zero, List.set_cons_succ]
  refine wpAnyC_take (i := 5) (v := .slice (some ⟨R9, o9 + S0, none⟩) S1 (c9 - S0)) rfl (by kernel_rfl) (fun _ _ _ h => h) (Or.inl ⟨by rfl, ?y6⟩) hS ?r6
  case y6 => intro wq _; go_simp; all_goals (first | omega | (simp; omega) | (rw [if_pos (by omega), if_neg (by omega)]; done) | skip)
  try simp only [Act.put, List.setIfInBounds_toArray, List.set_cons_zero, List.set_cons_succ]
  refine wpAnyC_one (j := 6) (by kernel_rfl) rfl (fun K hK => ?_)
  go_simp
  go_at_call 75
  refine HMB.out.mono ?_
  rintro e v2 ⟨q1, q2, E, rfl, kk, hv⟩
  have hq : (∃ r, q1 = Value.pointer r) ∧ ∃ r, q2 = Value.pointer r := by
    rcases hv with ⟨-, -, P1, P2, e1, e2, -⟩ | ⟨-, e1, e2, -⟩
    · exact ⟨⟨_, e1⟩, _, e2⟩
    · exact ⟨⟨_, e1⟩, _, e2⟩
  obtain ⟨⟨r1, rfl⟩, r2, rfl⟩ := hq
  have HBV := Lib.hid (below_drew1 kk)
  have HV := Lib.hid hv
  clear kk hv
  go_wp2_with fail
  refine hK.out _ _ ⟨trivial, ?_⟩
  clear hK K
  try simp only [Act.put, List.setIfInBounds_toArray, List.set_cons_zero, List.set_cons_succ]
  refine wpAnyC_take (i := 7) (v := ?v7) rfl (by kernel_rfl) (fun _ _ _ h => h) (Or.inl ⟨by rfl, ?y7⟩) hS ?r7
  case y7 => intro wq _; go_simp; all_goals (first | with_reducible rfl | go_num | (simp; done) | (simp; omega) | skip)
  try simp only [Act.put, List.setIfInBounds_toArray, List.set_cons_zero, List.set_cons_succ]
  refine wpAnyC_take (i := 8) (v := ?v8) rfl (by kernel_rfl) (fun _ _ _ h => h) (Or.inl ⟨by rfl, ?y8⟩) hS ?r8
  case y8 => intro wq _; go_simp; all_goals (first | with_reducible rfl | go_num | (simp; done) | (simp; omega) | skip)
  try simp only [Act.put, List.setIfInBounds_toArray, List.set_cons_zero, List.set_cons_succ]
  refine wpAnyC_one (j := 9) (by kernel_rfl) rfl (fun K hK => ?_)
  have hG9 := HG9.out.here HBV.out
  have g0 := hG9.reads 0
  have g1 := hG9.reads 1
  have ft := hG9.thawed
  have lG := hG9.lt
  go_simp
  refine hK.out _ _ ⟨trivial, ?_⟩
  clear hK K
  try simp only [Act.put]
  refine wpAnyC_take (i := 10) (v := ?v9) rfl (by kernel_rfl) (fun _ _ _ h => h) (Or.inl ⟨by rfl, ?y9⟩) hS ?r9
  case y9 => intro wq _; go_simp; all_goals (first | with_reducible rfl | go_num | (simp; done) | (simp; omega) | skip)
  try simp only [Act.put, List.setIfInBounds_toArray, List.set_cons_zero, List.set_cons_succ]
  refine wpAnyC_done (by kernel_rfl) ?_ _
  have HW0 := Lib.hid (HG9.out.here HBV.out)
  have HF9 := Lib.hid (HF6.out.trans (Fl.new HBV.out))
  have HD9 := Lib.hid (H6.out.later HBV.out)
  have hL3L : L3 ≤ L := by omega
  clear g0 g1 ft lG hG9
  go_wp2_with fail
  have hW1 := HW0.out.set 0 (.pointer r1)
  have hW2 := hW1.set 1 (.pointer r2)
  refine bodyPost_ret (v := .tuple #[.agg #[.pointer r1, .pointer r2], .int .i64 E]) (results_dy _ _ w.heap.size _ _ _ rfl rfl (hW2.reads 0) (hW2.reads 1)) rfl ?_
  rcases HV.out with ⟨rfl, hm, P1, P2, e1, e2, ht1, ht2⟩ | ⟨hE, e1, e2, hm⟩
  · exact ⟨_, _, 0, rfl, (HF9.out.setNew (Nat.le_refl _) 0 _).setNew (Nat.le_refl _) 1 _, .inl ⟨rfl, N3, L3, _, _, P1, P2, by rw [HP6.out, hm]; rfl, hL3L, e1, e2, (ht1.set HW0.out (by decide) (by decide) (by decide) 0 _).set hW1 (by decide) (by decide) (by decide) 1 _, (ht2.set HW0.out (by decide) (by decide) (by decide) 0 _).set hW1 (by decide) (by decide) (by decide) 1 _, (HD9.out.setOff HW0.out 0 _).setOff hW1 1 _⟩⟩
  · exact ⟨_, _, E, rfl, (HF9.out.setNew (Nat.le_refl _) 0 _).setNew (Nat.le_refl _) 1 _, .inr ⟨hE, e1, e2, by rw [HP6.out, hm]; rfl⟩⟩
end Go.Proofs.YtnjdnldoopgcpaaDoor
/- inflate: all blocks. -/
namespace Go.Proofs.YtnjdnldoopgcpaaDoor
open Go.RowKit

theorem if_beq {α : Type} (h0 : Nat) (A B : α) : (if ((h0 : Int) == 1) = true then A else B) = if h0 = 1 then A else B := by
  by_cases h : h0 = 1
  · rw [if_pos h, if_pos (by simp [h])]
  · rw [if_neg h, if_neg (by simp; omega)]
theorem FixAt.set2 {w : World} {p3 p4 : Value} (h : FixAt w p3 p4) {g : Nat} {cs cs2 : Array Value} (hg : Whole w g 64 cs) (i : Nat) (u : Value) (hg2 : Whole (w.setCell ⟨g, i, none⟩ u) g 64 cs2) (j : Nat) (v : Value) : FixAt ((w.setCell ⟨g, i, none⟩ u).setCell ⟨g, j, none⟩ v) p3 p4 := by
  rcases h with h | ⟨P1, P2, e1, e2, h1, h2⟩
  · exact .inl h
  · exact .inr ⟨P1, P2, e1, e2, (h1.set hg (by decide) (by decide) (by decide) i u).set hg2 (by decide) (by decide) (by decide) j v, (h2.set hg (by decide) (by decide) (by decide) i u).set hg2 (by decide) (by decide) (by decide) j v⟩
/-- What blocks answers. -/
def BlIs (x : Cx) (N L : Nat) (p : Ps Acc) (w : World) (e : Ending) (w' : World) : Prop :=
  (∃ a' N' L' q3 q4, p N L = .ok (a', N', L') ∧ e = .returned (.int .i64 0) ∧ L' ≤ L ∧ DecS x w' q3 q4 a' N' L' ∧ Fl x w w') ∨
  (∃ E, p N L = .error E ∧ E ≠ 0 ∧ e = .returned (.int .i64 E) ∧ Fl x w w')
set_option maxRecDepth 100000 in
set_option maxHeartbeats 4000000 in
theorem blocks_any (x : Cx) (p3 p4 : Value) (a : Acc) (N L : Nat) (w : World) (h : DecS x w p3 p4 a N L) (hx : FixAt w p3 p4) (hE : Env w) (hb2' : 2 ≤ x.base) :
    Calls Tryd.prog 30 #[.pointer (some ⟨x.D, 0, none⟩)] w (BlIs x N L (blocksP x.most FUEL a) w) := by
  have hfew : L < FUEL := by have := h.few; unfold FUEL; omega
  have H0 := Lib.hid h
  have HX0 := Lib.hid hx
  have HEN := Lib.hid hE
  have HLOW := Lib.hid h.low
  clear h hx hE
  go_enter Tryd.func30, Tryd.ntmps30
  go_wp2_with fail
  go_step3
  go_wp2_with fail
  go_step3
  go_wp2_with fail
  go_loopg [3] L (fun g s3 wr => ∃ (a' : Acc) (N' f : Nat) (q3 q4 : Value) (lb : Bool), s3 = .bool lb ∧ g ≤ L ∧ g < f ∧ Hid (blocksP x.most FUEL a N L = (if lb = true then rtn a' else blocksP x.most f a' : Ps Acc) N' g) ∧ Hid (DecS x wr q3 q4 a' N' g) ∧ Hid (FixAt wr q3 q4) ∧ Hid (Fl x w wr))
  case atStart => exact ⟨a, N, FUEL, p3, p4, false, rfl, Nat.le_refl _, hfew, Lib.hid rfl, H0, HX0, Lib.hid (Fl.refl _ _)⟩
  case round =>
    obtain ⟨a', N', f, q3, q4, lb, rfl, hgL, hgf, HF, HD, HX, HL⟩ := hrel
    cases lb
    rotate_left
    · have HZ := Lib.hid (show blocksP x.most FUEL a N L = .ok (a', N', gk) by rw [HF.out, if_pos rfl]; rfl)
      go_wp2_with fail
      go_ret
      exact .inl ⟨a', N', gk, q3, q4, HZ.out, rfl, hgL, HD.out, HL.out⟩
    obtain ⟨f', rfl⟩ : ∃ f', f = f' + 1 := ⟨f - 1, by omega⟩
    obtain ⟨wB, hwB⟩ : ∃ wB, wr.alloc (.cells #[.int .i64 1, .int .i64 2] 3) = wB := ⟨_, rfl⟩
    have hbB : Below wr.heap.size wr wB := by rw [← hwB]; exact (Below.refl _ _).alloc (Nat.le_refl _) _
    have hwk : Whole wB wr.heap.size 3 (iiv ([1, 2].map Int.ofNat)).toArray := by rw [← hwB]; exact Whole.made _ _ _
    have HB0 := Lib.hid (And.intro (HD.out.later hbB) (And.intro (HL.out.trans (Fl.new hbB)) (HX.out.fl HD.out (Fl.new hbB))))
    have HFI := Lib.hid (fields_any x q3 q4 a' N' gk (some ⟨wr.heap.size, 0, none⟩) 2 2 [1, 2] wB HB0.out.1 (IntsAt.of_whole hwk (by decide)) (fun R o e => by
      injection e with e
      injection e with e
      obtain ⟨rc, hrw⟩ := HD.out.rd.whole
      have := hrw.lt
      omega) (by decide) (by decide))
    clear hbB hwk
    go_wp2_with fail
    refine HFI.out.mono ?_
    rintro e w3 ⟨A3, c3, vs, E, rfl, hf, hv⟩
    have HF3 := Lib.hid (HB0.out.2.1.trans (Fl.ofB hf))
    rcases hv with ⟨rfl, N1, L1, G, hp, hvl, hL, hr, rfl, hG, rfl, hw, hlt⟩ | ⟨hE, rfl, hp⟩
    rotate_left
    · have d1 : (E != 0) = true := by simp [hE]
      have HZ := Lib.hid (show blocksP x.most FUEL a N L = .error E by rw [HF.out, if_neg (by decide), blocksP, bnd_er hp])
      clear hp hf
      go_wp2_with fail
      go_ret
      exact .inr ⟨E, HZ.out, hE, rfl, HF3.out⟩
    obtain ⟨h0, h1, rfl⟩ : ∃ h0 h1, vs = [h0, h1] := by
      match vs, hvl with
      | [h0, h1], _ => exact ⟨h0, h1, rfl⟩
    have hL3 : L1 + 3 = gk := by have := fieldsP_len _ hp; simpa using this.symm
    have h14 := fieldsP_lt _ hp 1 2 h1 rfl rfl
    have HPB := Lib.hid (show blocksP x.most FUEL a N L = (bnd (blockP x.most h1 a') fun a2 => if h0 = 1 then rtn a2 else blocksP x.most f' a2 : Ps Acc) N1 L1 by rw [HF.out, if_neg (by decide), blocksP, bnd_ok hp]; rfl)
    have hfB := Lib.hid hf
    have H3 := Lib.hid (And.intro (HB0.out.1.keep hf hr hL) (HB0.out.2.2.fl HB0.out.1 (Fl.ofB hf)))
    have k0 : w3.cell? ⟨G, 0, none⟩ = some (.int .i64 (h0 : Int)) := hw.reads 0
    have lGG := hw.lt
    obtain ⟨w4, hw4⟩ : ∃ w4, w3.alloc (.cells #[.pointer none, .pointer none] 64) = w4 := ⟨_, rfl⟩
    have hb4 : Below w3.heap.size w3 w4 := by rw [← hw4]; exact (Below.refl _ _).alloc (Nat.le_refl _) _
    have HG4 := Lib.hid (show Whole w4 w3.heap.size 64 #[.pointer none, .pointer none] by rw [← hw4]; exact Whole.made _ _ _)
    have H4 := Lib.hid (H3.out.1.later hb4)
    have HX9 := Lib.hid (H3.out.2.fl H3.out.1 (Fl.new hb4))
    have HF4 := Lib.hid (HF3.out.trans (Fl.new hb4))
    have k1 : w4.cell? ⟨G, 1, none⟩ = some (.int .i64 (h1 : Int)) := (hw.here hb4).reads 1
    have lG4 := (hw.here hb4).lt
    clear hp hf hr hw hlt hb4 hL HFI
    by_cases e0 : h1 = 0
    · subst e0
      have HST0 := Lib.hid (stored_any x q3 q4 a' N1 L1 w4 H4.out)
      have hbp : blockP x.most 0 a' = storedP x.most a' := rfl
      rw [hbp] at HPB
      go_wp2_with fail
      · refine HST0.out.mono ?_
        rintro e w9 hst
        have HST := Lib.hid hst
        clear hst k1 lG4
        rcases HST.out with ⟨a2, N4, L4, hp, rfl, hL4, hd, hf⟩ | ⟨E, hp, hE, rfl, hf⟩
        · have HZ := Lib.hid (And.intro hd (And.intro (HF4.out.trans hf) (HX9.out.fl H4.out hf)))
          have HPZ := Lib.hid (show blocksP x.most FUEL a N L = (if ((h0 : Int) == 1) = true then rtn a2 else blocksP x.most f' a2 : Ps Acc) N4 L4 by rw [if_beq]; rw [HPB.out, bnd_ok hp])
          clear hd hf hp
          go_wp2_with fail
          go_roundg L4
          case rel => exact ⟨a2, N4, f', q3, q4, ((h0 : Int) == 1), rfl, by omega, by omega, HPZ, Lib.hid HZ.out.1, Lib.hid HZ.out.2.2, Lib.hid HZ.out.2.1⟩
          case measure => omega
        · have d9 : (E != 0) = true := by simp [hE]
          have HPZ := Lib.hid (show blocksP x.most FUEL a N L = .error E by rw [HPB.out, bnd_er hp])
          have HZ := Lib.hid (HF4.out.trans hf)
          clear hf hp
          go_wp2_with fail
          go_ret
          exact .inr ⟨E, HPZ.out, hE, rfl, HZ.out⟩
    have d0 : ((h1 : Int) == 0) = false := by simp; omega
    by_cases e1 : h1 = 1
    · subst e1
      have hbp : blockP x.most 1 a' = symsP x.most fixedL (List.replicate 32 5) FUEL a' := rfl
      rw [hbp] at HPB
      have HFXC := Lib.hid (fixedC_any x q3 q4 a' N1 L1 w4 H4.out HX9.out)
      go_wp2_with fail
      · refine HFXC.out.mono ?_
        rintro e w5 ⟨P1, P2, rfl, hd5, hf5, ht1, ht2⟩
        have hG5 := HG4.out.fl H4.out hf5 (by decide) (by decide) (by decide)
        have hG6 := hG5.set 0 (.pointer (some ⟨P1, 0, none⟩))
        have hG7 := hG6.set 1 (.pointer (some ⟨P2, 0, none⟩))
        have g0 := hG5.reads 0
        have g1 := hG5.reads 1
        have ft := hG5.thawed
        have lG := hG5.lt
        have H7 := Lib.hid ((hd5.setOff hG5 0 (.pointer (some ⟨P1, 0, none⟩))).setOff hG6 1 (.pointer (some ⟨P2, 0, none⟩)))
        have hsz : w.heap.size ≤ w3.heap.size := HF3.out.size
        have HF7 := Lib.hid (((HF4.out.trans hf5).setNew hsz 0 (.pointer (some ⟨P1, 0, none⟩))).setNew hsz 1 (.pointer (some ⟨P2, 0, none⟩)))
        have HT7 := Lib.hid (And.intro ((ht1.set hG5 (by decide) (by decide) (by decide) 0 (.pointer (some ⟨P1, 0, none⟩))).set hG6 (by decide) (by decide) (by decide) 1 (.pointer (some ⟨P2, 0, none⟩))) ((ht2.set hG5 (by decide) (by decide) (by decide) 0 (.pointer (some ⟨P1, 0, none⟩))).set hG6 (by decide) (by decide) (by decide) 1 (.pointer (some ⟨P2, 0, none⟩))))
        have HG7 := Lib.hid hG7
        clear HX9
        obtain ⟨w7, hw7⟩ : ∃ w7, (w5.setCell ⟨w3.heap.size, 0, none⟩ (.pointer (some ⟨P1, 0, none⟩))).setCell ⟨w3.heap.size, 1, none⟩ (.pointer (some ⟨P2, 0, none⟩)) = w7 := ⟨_, rfl⟩
        rw [hw7] at H7 HF7 HT7 HG7
        have HX9 := Lib.hid (show FixAt w7 (.pointer (some ⟨P1, 0, none⟩)) (.pointer (some ⟨P2, 0, none⟩)) from .inr ⟨P1, P2, rfl, rfl, HT7.out.1, HT7.out.2⟩)
        have HSY := Lib.hid (syms_any x _ _ a' N1 L1 P1 P2 fixedL (List.replicate 32 5) w7 H7.out HT7.out.1 HT7.out.2)
        have y0 : w7.cell? ⟨w3.heap.size, 0, none⟩ = some (.pointer (some ⟨P1, 0, none⟩)) := HG7.out.reads 0
        have y1 : w7.cell? ⟨w3.heap.size, 1, none⟩ = some (.pointer (some ⟨P2, 0, none⟩)) := HG7.out.reads 1
        clear hd5 hf5 ht1 ht2 hG5 hG6 hG7 k1 lG4
        go_wp2_with fail
        refine HSY.out.mono ?_
        rintro e w9 hst
        have HST := Lib.hid hst
        clear hst y0 y1
        rcases HST.out with ⟨a2, N4, L4, hp, rfl, hL4, hd, hf⟩ | ⟨E, hp, hE, rfl, hf⟩
        · have HZ := Lib.hid (And.intro hd (And.intro (HF7.out.trans hf) (HX9.out.fl H7.out hf)))
          have HPZ := Lib.hid (show blocksP x.most FUEL a N L = (if ((h0 : Int) == 1) = true then rtn a2 else blocksP x.most f' a2 : Ps Acc) N4 L4 by rw [if_beq]; rw [HPB.out, bnd_ok hp])
          clear hd hf hp
          go_wp2_with fail
          go_roundg L4
          case rel => exact ⟨a2, N4, f', (.pointer (some ⟨P1, 0, none⟩)), (.pointer (some ⟨P2, 0, none⟩)), ((h0 : Int) == 1), rfl, by omega, by omega, HPZ, Lib.hid HZ.out.1, Lib.hid HZ.out.2.2, Lib.hid HZ.out.2.1⟩
          case measure => omega
        · have d9 : (E != 0) = true := by simp [hE]
          have HPZ := Lib.hid (show blocksP x.most FUEL a N L = .error E by rw [HPB.out, bnd_er hp])
          have HZ := Lib.hid (HF7.out.trans hf)
          clear hf hp
          go_wp2_with fail
          go_ret
          exact .inr ⟨E, HPZ.out, hE, rfl, HZ.out⟩
    have d1 : ((h1 : Int) == 1) = false := by simp; omega
    by_cases e2 : h1 = 2
    · subst e2
      have hbp : blockP x.most 2 a' = bnd dynP fun c => symsP x.most c.1 c.2 FUEL a' := rfl
      rw [hbp] at HPB
      have HDY := Lib.hid (dyn_any x q3 q4 a' N1 L1 w4 H4.out (HEN.out.kept (HF4.out.below HLOW.out) hb2') hb2')
      go_wp2_with fail
      · refine HDY.out.mono ?_
        rintro e w5 ⟨r1, r2, E, rfl, hf5, hv⟩
        have hq : (∃ r, r1 = Value.pointer r) ∧ ∃ r, r2 = Value.pointer r := by
          rcases hv with ⟨-, N2, L2, ls, ds, P1, P2, -, -, e1, e2, -⟩ | ⟨-, e1, e2, -⟩
          · exact ⟨⟨_, e1⟩, _, e2⟩
          · exact ⟨⟨_, e1⟩, _, e2⟩
        obtain ⟨⟨o1, rfl⟩, o2, rfl⟩ := hq
        have hG5 := HG4.out.fl H4.out hf5 (by decide) (by decide) (by decide)
        have hG6 := hG5.set 0 (.pointer o1)
        have hG7 := hG6.set 1 (.pointer o2)
        have g0 := hG5.reads 0
        have g1 := hG5.reads 1
        have ft := hG5.thawed
        have lG := hG5.lt
        have hsz : w.heap.size ≤ w3.heap.size := HF3.out.size
        have HF7 := Lib.hid (((HF4.out.trans hf5).setNew hsz 0 (.pointer o1)).setNew hsz 1 (.pointer o2))
        rcases hv with ⟨rfl, N2, L2, ls, ds, P1, P2, hp, hL2, e1, e2, ht1, ht2, hd5⟩ | ⟨hE, e1, e2, hp⟩
        · injection e1 with e1
          injection e2 with e2
          subst e1 e2
          have HX5 := Lib.hid (HX9.out.fl H4.out hf5)
          have H7 := Lib.hid ((hd5.setOff hG5 0 (.pointer (some ⟨P1, 0, none⟩))).setOff hG6 1 (.pointer (some ⟨P2, 0, none⟩)))
          have HT7 := Lib.hid (And.intro ((ht1.set hG5 (by decide) (by decide) (by decide) 0 (.pointer (some ⟨P1, 0, none⟩))).set hG6 (by decide) (by decide) (by decide) 1 (.pointer (some ⟨P2, 0, none⟩))) ((ht2.set hG5 (by decide) (by decide) (by decide) 0 (.pointer (some ⟨P1, 0, none⟩))).set hG6 (by decide) (by decide) (by decide) 1 (.pointer (some ⟨P2, 0, none⟩))))
          have HG7 := Lib.hid hG7
          have HX7 := Lib.hid (FixAt.set2 HX5.out hG5 0 (.pointer (some ⟨P1, 0, none⟩)) hG6 1 (.pointer (some ⟨P2, 0, none⟩)))
          clear HX9
          obtain ⟨w7, hw7⟩ : ∃ w7, (w5.setCell ⟨w3.heap.size, 0, none⟩ (.pointer (some ⟨P1, 0, none⟩))).setCell ⟨w3.heap.size, 1, none⟩ (.pointer (some ⟨P2, 0, none⟩)) = w7 := ⟨_, rfl⟩
          rw [hw7] at H7 HF7 HT7 HG7 HX7
          have HX9 := Lib.hid HX7.out
          have HPC := Lib.hid (show blocksP x.most FUEL a N L = (bnd (symsP x.most ls ds FUEL a') fun a2 => if h0 = 1 then rtn a2 else blocksP x.most f' a2 : Ps Acc) N2 L2 by
            rw [HPB.out]
            cases hq : symsP x.most ls ds FUEL a' N2 L2 with
            | ok r => obtain ⟨a2, N4, L4⟩ := r; rw [bnd_ok (show bnd dynP (fun c => symsP x.most c.1 c.2 FUEL a') N1 L1 = .ok (a2, N4, L4) by rw [bnd_ok hp]; exact hq), bnd_ok hq]
            | error e' => rw [bnd_er (show bnd dynP (fun c => symsP x.most c.1 c.2 FUEL a') N1 L1 = .error e' by rw [bnd_ok hp]; exact hq), bnd_er hq])
          clear HPB
          have HPB := Lib.hid HPC.out
          have HSY := Lib.hid (syms_any x _ _ a' N2 L2 P1 P2 ls ds w7 H7.out HT7.out.1 HT7.out.2)
          have y0 : w7.cell? ⟨w3.heap.size, 0, none⟩ = some (.pointer (some ⟨P1, 0, none⟩)) := HG7.out.reads 0
          have y1 : w7.cell? ⟨w3.heap.size, 1, none⟩ = some (.pointer (some ⟨P2, 0, none⟩)) := HG7.out.reads 1
          clear hd5 hf5 ht1 ht2 hG5 hG6 hG7 k1 lG4 hp
          go_wp2_with fail
          refine HSY.out.mono ?_
          rintro e w9 hst
          have HST := Lib.hid hst
          clear hst y0 y1
          rcases HST.out with ⟨a2, N4, L4, hp, rfl, hL4, hd, hf⟩ | ⟨E, hp, hE, rfl, hf⟩
          · have HZ := Lib.hid (And.intro hd (And.intro (HF7.out.trans hf) (HX9.out.fl H7.out hf)))
            have HPZ := Lib.hid (show blocksP x.most FUEL a N L = (if ((h0 : Int) == 1) = true then rtn a2 else blocksP x.most f' a2 : Ps Acc) N4 L4 by rw [if_beq]; rw [HPB.out, bnd_ok hp])
            clear hd hf hp
            go_wp2_with fail
            go_roundg L4
            case rel => exact ⟨a2, N4, f', q3, q4, ((h0 : Int) == 1), rfl, by omega, by omega, HPZ, Lib.hid HZ.out.1, Lib.hid HZ.out.2.2, Lib.hid HZ.out.2.1⟩
            case measure => omega
          · have d9 : (E != 0) = true := by simp [hE]
            have HPZ := Lib.hid (show blocksP x.most FUEL a N L = .error E by rw [HPB.out, bnd_er hp])
            have HZ := Lib.hid (HF7.out.trans hf)
            clear hf hp
            go_wp2_with fail
            go_ret
            exact .inr ⟨E, HPZ.out, hE, rfl, HZ.out⟩
        · have d7 : (E != 0) = true := by simp [hE]
          have HPZ := Lib.hid (show blocksP x.most FUEL a N L = .error E by rw [HPB.out, bnd_er (bnd_er hp)])
          clear hp hf5 hG5 hG6 hG7 k1 lG4
          go_wp2_with fail
          go_ret
          exact .inr ⟨E, HPZ.out, hE, rfl, HF7.out⟩
    have d2 : ((h1 : Int) == 2) = false := by simp; omega
    have HPZ := Lib.hid (show blocksP x.most FUEL a N L = .error 4 by
      have hbp : blockP x.most h1 a' = bad 4 := by unfold blockP; rw [if_neg e0, if_neg e1, if_neg e2]
      rw [HPB.out, hbp]
      rfl)
    go_wp2_with fail
    go_ret
    exact .inr ⟨4, HPZ.out, by decide, rfl, HF4.out⟩
end Go.Proofs.YtnjdnldoopgcpaaDoor
