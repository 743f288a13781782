/- run's partsOf: the iterator over the parts as which some bytes are put. -/
import Derived.Test.YtbghmbcipekboaaRunGet
namespace Go.Proofs.Ytbghmbcipekboaa
open Go.RowKit
attribute [local go_sem] Oper.semAt_some

/-- How yield is called. -/
def YOf (n₀ : Nat) (s : List Nat) (vs : Array Value) (t : List Nat) (W : World) : Prop :=
  s ≠ [] ∧ t = s.drop (psz s) ∧ ∃ R o c, vs = #[.slice (some ⟨R, o, none⟩) (psz s) c, .bool (decide (2 ≤ rep s))] ∧ Bytes W (some ⟨R, o, none⟩) (psz s) c (s.take (psz s)) ∧ R < n₀
theorem Bytes.first {w : World} {R o n c k : Nat} {bs : List Nat} (h : Bytes w (some ⟨R, o, none⟩) n c bs) (hk : k ≤ n) (hn : 0 < n) : Bytes w (some ⟨R, o, none⟩) k c (bs.take k) := by
  have hl := h.len
  have hcap := h.cap
  have htop := h.top
  refine ⟨by rw [List.length_take]; omega, by omega, by omega, fun b hb => h.byte b (List.mem_of_mem_take hb), fun _ => ?_⟩
  obtain ⟨R', o', e, hR, hc⟩ := h.at_ hn
  injection e with e
  injection e with e1 e2
  subst e1 e2
  refine ⟨R, o, rfl, hR, fun i b hb => hc i b ?_⟩
  have hi := (List.getElem?_eq_some_iff.1 hb).1
  rw [List.length_take] at hi
  rw [List.getElem?_take, if_pos (by omega)] at hb
  exact hb
theorem next_of {B n₀ R o c k : Nat} {W : World} {s : List Nat} (I : List Nat → World → Prop) (hI : ∀ s W W', I s W → Fr (fun j => j = B) W W' → (∃ t, BoxIn B n₀ t W) → I s W') (hB : n₀ ≤ B) (hi : I (s.drop k) W) (hb : Boxed W B 22 (.slice (some ⟨R, o, none⟩) s.length c)) (hy : Bytes W (some ⟨R, o, none⟩) s.length c s) (hlo : LowA n₀ (some ⟨R, o, none⟩)) (hk : k ≤ s.length)
    (A2 : Option Addr) (c2 : Nat) (hc2 : c2 = c - k) (hA2 : k < s.length → A2 = some ⟨R, o + k, none⟩) (hl2 : LowA n₀ A2) :
    I (s.drop k) (W.setCell ⟨B, 0, none⟩ (.slice A2 (s.length - k) c2)) ∧ BoxIn B n₀ (s.drop k) (W.setCell ⟨B, 0, none⟩ (.slice A2 (s.length - k) c2)) := by
  subst hc2
  have hf : Fr (fun j => j = B) W (W.setCell ⟨B, 0, none⟩ (.slice A2 (s.length - k) (c - k))) := (Fr.refl _ W).setB 0 _
  refine ⟨hI _ _ _ hi hf ⟨s, _, _, _, hb, hy, fun _ => hlo⟩, A2, s.length - k, c - k, hb.set _, (hy.cut hk ?_).fr hf ?_, fun _ => hl2⟩
  · intro R' o' e hk
    injection e with e
    injection e with e1 e2
    subst e1 e2
    exact hA2 hk
  · intro _ R' o' e hR' e2
    have := hl2 R' o' e
    omega
set_option maxRecDepth 100000 in
set_option maxHeartbeats 2000000 in
theorem partsOf_iter (B n₀ n : Nat) (hn : 1 ≤ n) (hB : n₀ ≤ B) (b : List Nat) :
    Iter Fence.wide n Try.prog 16 #[.pointer (some ⟨B, 0, none⟩)] (fun k => k = B) (BoxIn B n₀) (YOf n₀) (fun s => s = []) (KpIn B n₀) b := by
  intro l I Ix W hI hIx hY hI0 hT0
  refine callsIn_of_wp Try.func16 rfl trivial ?_ rfl
  simp only [Try.ntmps16, List.size_toArray, List.length_cons, List.length_nil, Nat.reduceAdd, Nat.reduceSub, Array.replicate_succ, Array.replicate_zero, List.push_toArray, List.append_toArray, List.nil_append, List.cons_append]
  gi_wp2
  gi_loopg [3] b.length (fun g _ wr => ∃ s : List Nat, s.length = g ∧ I s wr ∧ BoxIn B n₀ s wr)
  case atStart => exact ⟨b, rfl, hI0, hT0⟩
  case round =>
    obtain ⟨s, hsl, hi, ht⟩ := hrel
    have HI := Lib.hid hi
    have HT := Lib.hid ht
    have HL := Lib.hid hsl
    obtain ⟨A, m, c, hbx, hby, hlow⟩ := ht
    have cB := hbx.cell
    have hsl2 := hby.len
    have hcap := hby.cap
    have htop := hby.top
    obtain rfl := hsl2
    have HB := Lib.hid hby
    clear hsl hi hby
    by_cases hs : s = []
    · subst hs
      gi_wp2
      go_end0
      exact ⟨⟨_, rfl⟩, .inl ⟨[], rfl, HI.out⟩⟩
    · have hpos := List.length_pos_iff.2 hs
      obtain ⟨R, o, hA, hR, hcell⟩ := HB.out.at_ hpos
      have hlow1 := hlow hpos
      have HA := Lib.hid hA
      have HLO := Lib.hid hlow1
      have HCE := Lib.hid hcell
      have HS := Lib.hid hs
      clear hA hlow hlow1 hcell
      obtain rfl := HA.out
      have hp1 := psz_pos hs
      have hp2 := psz_le s
      have hp0 := rep_pos hs
      have fin : ∀ j, I s (wr.drewN j) ∧ BoxIn B n₀ s (wr.drewN j) := fun j =>
        have hf : Fr (fun k => k = B) wr (wr.drewN j) := (Fr.refl _ wr).drewN j
        ⟨hI _ _ _ HI.out hf ⟨_, HT.out⟩, BoxIn.fr HT.out ((Fr.refl (fun _ => False) wr).drewN j) (fun h => h) (fun k hk h => h)⟩
      have yof : ∀ j, YOf n₀ s #[.slice (some ⟨R, o, none⟩) (psz s) c, .bool (decide (2 ≤ rep s))] (s.drop (psz s)) (wr.drewN j) := fun j =>
        ⟨hs, rfl, R, o, c, rfl, (HB.out.first hp2.2 hpos).drewN j, HLO.out R o rfl⟩
      have HF := Lib.hid fin
      have HY := Lib.hid yof
      have h0 : ((s.length : Int) > 0) := by omega
      clear hs fin yof
      by_cases hr : rep s < 2
      · have hps : psz s = sgl s := if_pos hr
        have hrd : decide (2 ≤ rep s) = false := by simp; omega
        have hri : decide ((rep s : Int) < 2) = true := by simp; omega
        gi_wp2_with fail
        refine ⟨trivial, (callsIn_wide.2 (repeated_any _ _ _ s _ HB.out)).mono ?_⟩
        rintro e w1 ⟨rfl, j, rfl⟩
        gi_wp2_with fail
        refine ⟨trivial, (callsIn_wide.2 (single_any _ _ _ s _ (HB.out.drewN j))).mono ?_⟩
        rintro e w1 ⟨rfl, j2, rfl⟩
        rw [hps] at hp1 hp2
        by_cases h1 : sgl s = 1
        · have H1 := Lib.hid h1
          have hg : decide ((1 : Int) < (sgl s : Int)) = false := by simp; omega
          clear h1
          have HX := Lib.hid (HY.out (j + j2 + 1))
          rw [hps, hrd] at HX
          have hcx : sgl s ≤ c := by omega
          have HPS := Lib.hid hps
          clear hps hrd
          gi_wp2
          refine wpIn_region_still_tail open_wide 15 (by kernel_rfl) (by kernel_rfl) ?_
          simp only [List.take_succ_cons, List.take_zero, List.drop_succ_cons, List.drop_zero]
          repeat ((with_reducible refine wpStill_step (fun K hK => ?_)); go_simp; refine hK _ ?_; clear hK K)
          refine wpStill_nil ?_
          obtain ⟨fn, tmps, assign, body, hy, hR2⟩ := hY _ _ _ _ (HF.out (j + j2 + 1)).1 (HF.out (j + j2 + 1)).2 HX.out
          gi_wp2
          refine hR2.mono ?_
          rintro e W3 (⟨rfl, hJ3, hK3⟩ | ⟨rfl, hJx3⟩)
          · have hbx3 : Boxed W3 B 22 (.slice (some ⟨R, o, none⟩) s.length c) := (hK3.block B hbx.lt (fun e => e.2 rfl)).trans hbx
            have cB3 := hbx3.cell
            have fB3 := hbx3.frozen
            have hby3 : Bytes W3 (some ⟨R, o, none⟩) s.length c s := (HB.out.drewN (j + j2 + 1)).fr hK3 (fun _ R' o' e _ e2 => by have := HLO.out R' o' e; omega)
            have hlo := HLO.out R o rfl
            have HN := Lib.hid (next_of (k := sgl s) I hI hB hJ3 hbx3 hby3 HLO.out (by omega))
            clear hJ3 hK3 hbx3 hby3
            by_cases hck : c = sgl s
            · have hln := HN.out (some ⟨R, o, none⟩) 0 (by omega) (fun h => by omega) (fun R' o' e => by injection e with e; injection e with e1 e2; omega)
              have HLN := Lib.hid hln
              clear hln
              gi_wp2
              gi_roundg (s.length - sgl s)
              case measure => have := HL.out; omega
              case rel => exact ⟨s.drop (sgl s), by rw [List.length_drop], HLN.out.1, HLN.out.2⟩
            · have hln := HN.out (some ⟨R, o + sgl s, none⟩) (c - sgl s) rfl (fun h => rfl) (fun R' o' e => by injection e with e; injection e with e1 e2; omega)
              have HLN := Lib.hid hln
              clear hln
              gi_wp2
              gi_roundg (s.length - sgl s)
              case measure => have := HL.out; omega
              case rel => exact ⟨s.drop (sgl s), by rw [List.length_drop], HLN.out.1, HLN.out.2⟩
          · gi_wp2
            refine bodyPost_ret (results_none rfl _ _ _) rfl ?_
            exact ⟨⟨_, rfl⟩, .inr ⟨_, hJx3⟩⟩
        · have hg : decide ((1 : Int) < (sgl s : Int)) = true := by simp; omega
          obtain ⟨x, y, hx, hy0, hxy⟩ : ∃ x y, s[0]? = some x ∧ s[1]? = some y ∧ x ≠ y := by
            match s, hr, hp2, h1, hp1 with
            | [], _, hp2, _, hp1 => simp at hp2; omega
            | [x], _, hp2, h1, hp1 => simp at hp2; omega
            | x :: y :: l, hr, _, _, _ => exact ⟨x, y, rfl, rfl, fun e => by have := (rep_two x y l).2 e; omega⟩
          have c0 := HCE.out 0 x hx
          rw [Nat.add_zero] at c0
          have c1 := HCE.out 1 y hy0
          have hq : ((x : Int) == (y : Int)) = false := by simp; omega
          have hl1 : (1 : Int) < (s.length : Int) := by omega
          clear hx hy0
          have HX := Lib.hid (HY.out (j + j2 + 1))
          rw [hps, hrd] at HX
          have hcx : sgl s ≤ c := by omega
          have HPS := Lib.hid hps
          clear hps hrd
          gi_wp2
          refine wpIn_region_still_tail open_wide 15 (by kernel_rfl) (by kernel_rfl) ?_
          simp only [List.take_succ_cons, List.take_zero, List.drop_succ_cons, List.drop_zero]
          repeat ((with_reducible refine wpStill_step (fun K hK => ?_)); go_simp; refine hK _ ?_; clear hK K)
          refine wpStill_nil ?_
          obtain ⟨fn, tmps, assign, body, hy, hR2⟩ := hY _ _ _ _ (HF.out (j + j2 + 1)).1 (HF.out (j + j2 + 1)).2 HX.out
          gi_wp2
          refine hR2.mono ?_
          rintro e W3 (⟨rfl, hJ3, hK3⟩ | ⟨rfl, hJx3⟩)
          · have hbx3 : Boxed W3 B 22 (.slice (some ⟨R, o, none⟩) s.length c) := (hK3.block B hbx.lt (fun e => e.2 rfl)).trans hbx
            have cB3 := hbx3.cell
            have fB3 := hbx3.frozen
            have hby3 : Bytes W3 (some ⟨R, o, none⟩) s.length c s := (HB.out.drewN (j + j2 + 1)).fr hK3 (fun _ R' o' e _ e2 => by have := HLO.out R' o' e; omega)
            have hlo := HLO.out R o rfl
            have HN := Lib.hid (next_of (k := sgl s) I hI hB hJ3 hbx3 hby3 HLO.out (by omega))
            clear hJ3 hK3 hbx3 hby3
            by_cases hck : c = sgl s
            · have hln := HN.out (some ⟨R, o, none⟩) 0 (by omega) (fun h => by omega) (fun R' o' e => by injection e with e; injection e with e1 e2; omega)
              have HLN := Lib.hid hln
              clear hln
              gi_wp2
              gi_roundg (s.length - sgl s)
              case measure => have := HL.out; omega
              case rel => exact ⟨s.drop (sgl s), by rw [List.length_drop], HLN.out.1, HLN.out.2⟩
            · have hln := HN.out (some ⟨R, o + sgl s, none⟩) (c - sgl s) rfl (fun h => rfl) (fun R' o' e => by injection e with e; injection e with e1 e2; omega)
              have HLN := Lib.hid hln
              clear hln
              gi_wp2
              gi_roundg (s.length - sgl s)
              case measure => have := HL.out; omega
              case rel => exact ⟨s.drop (sgl s), by rw [List.length_drop], HLN.out.1, HLN.out.2⟩
          · gi_wp2
            refine bodyPost_ret (results_none rfl _ _ _) rfl ?_
            exact ⟨⟨_, rfl⟩, .inr ⟨_, hJx3⟩⟩
      · have hps : psz s = rep s := if_neg hr
        have hrd : decide (2 ≤ rep s) = true := by simp; omega
        have hri : decide ((rep s : Int) < 2) = false := by simp; omega
        gi_wp2_with fail
        refine ⟨trivial, (callsIn_wide.2 (repeated_any _ _ _ s _ HB.out)).mono ?_⟩
        rintro e w1 ⟨rfl, j, rfl⟩
        rw [hps] at hp1 hp2
        have hg : decide ((1 : Int) < (rep s : Int)) = true := by simp; omega
        obtain ⟨x, hx, hy0⟩ : ∃ x, s[0]? = some x ∧ s[1]? = some x := by
          match s, hr, hp2, hp1 with
          | [], hr, hp2, hp1 => simp at hp2; omega
          | [x], hr, hp2, hp1 => rw [rep_one] at hr; omega
          | x :: y :: l, hr, _, _ =>
            have := (rep_two x y l).1 (by omega)
            subst this
            exact ⟨x, rfl, rfl⟩
        have c0 := HCE.out 0 x hx
        rw [Nat.add_zero] at c0
        have c1 := HCE.out 1 x hy0
        have hl1 : (1 : Int) < (s.length : Int) := by omega
        clear hx hy0
        have HX := Lib.hid (HY.out (j + 1))
        rw [hps, hrd] at HX
        have hcx : rep s ≤ c := by omega
        have HPS := Lib.hid hps
        clear hps hrd
        gi_wp2
        refine wpIn_region_still_tail open_wide 15 (by kernel_rfl) (by kernel_rfl) ?_
        simp only [List.take_succ_cons, List.take_zero, List.drop_succ_cons, List.drop_zero]
        repeat ((with_reducible refine wpStill_step (fun K hK => ?_)); go_simp; refine hK _ ?_; clear hK K)
        refine wpStill_nil ?_
        obtain ⟨fn, tmps, assign, body, hy, hR2⟩ := hY _ _ _ _ (HF.out (j + 1)).1 (HF.out (j + 1)).2 HX.out
        gi_wp2
        refine hR2.mono ?_
        rintro e W3 (⟨rfl, hJ3, hK3⟩ | ⟨rfl, hJx3⟩)
        · have hbx3 : Boxed W3 B 22 (.slice (some ⟨R, o, none⟩) s.length c) := (hK3.block B hbx.lt (fun e => e.2 rfl)).trans hbx
          have cB3 := hbx3.cell
          have fB3 := hbx3.frozen
          have hby3 : Bytes W3 (some ⟨R, o, none⟩) s.length c s := (HB.out.drewN (j + 1)).fr hK3 (fun _ R' o' e _ e2 => by have := HLO.out R' o' e; omega)
          have hlo := HLO.out R o rfl
          have HN := Lib.hid (next_of (k := rep s) I hI hB hJ3 hbx3 hby3 HLO.out (by omega))
          clear hJ3 hK3 hbx3 hby3
          by_cases hck : c = rep s
          · have hln := HN.out (some ⟨R, o, none⟩) 0 (by omega) (fun h => by omega) (fun R' o' e => by injection e with e; injection e with e1 e2; omega)
            have HLN := Lib.hid hln
            clear hln
            gi_wp2
            gi_roundg (s.length - rep s)
            case measure => have := HL.out; omega
            case rel => exact ⟨s.drop (rep s), by rw [List.length_drop], HLN.out.1, HLN.out.2⟩
          · have hln := HN.out (some ⟨R, o + rep s, none⟩) (c - rep s) rfl (fun h => rfl) (fun R' o' e => by injection e with e; injection e with e1 e2; omega)
            have HLN := Lib.hid hln
            clear hln
            gi_wp2
            gi_roundg (s.length - rep s)
            case measure => have := HL.out; omega
            case rel => exact ⟨s.drop (rep s), by rw [List.length_drop], HLN.out.1, HLN.out.2⟩
        · gi_wp2
          refine bodyPost_ret (results_none rfl _ _ _) rfl ?_
          exact ⟨⟨_, rfl⟩, .inr ⟨_, hJx3⟩⟩
end Go.Proofs.Ytbghmbcipekboaa
