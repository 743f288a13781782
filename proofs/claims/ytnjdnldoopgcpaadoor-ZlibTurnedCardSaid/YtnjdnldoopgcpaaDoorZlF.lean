/- zlib: Unpack, behind a head that is right. -/
import Derived.Test.YtnjdnldoopgcpaaDoorZlE
import Derived.Test.YtnjdnldoopgcpaaDoorInfX
import Derived.Test.YtnjdnldoopgcpaaDoorRegionI
namespace Go.Proofs.YtnjdnldoopgcpaaDoor
open Go.RowKit

def unzP (rs : List Nat) (most : Int) : List Nat × Int := match inflP rs most with
  | .error E => ([], E)
  | .ok (x, u) => if (rs.drop u).length < 4 then ([], 6) else if (rs.drop u).take 4 = bigE (sumZ x) then (x, 0) else ([], 7)
theorem unzP_er {rs : List Nat} {most E : Int} (h : inflP rs most = .error E) : unzP rs most = ([], E) := by unfold unzP; rw [h]
theorem unzP_ok {rs x : List Nat} {most : Int} {u : Nat} (h : inflP rs most = .ok (x, u)) : unzP rs most = if (rs.drop u).length < 4 then ([], 6) else if (rs.drop u).take 4 = bigE (sumZ x) then (x, 0) else ([], 7) := by unfold unzP; rw [h]
theorem Bytes.part {w : World} {R o n c : Nat} {bs : List Nat} (h : Bytes w (some ⟨R, o, Option.none⟩) n c bs) {a b : Nat} (hab : a ≤ b) (hb : b ≤ n) : Bytes w (some ⟨R, o + a, Option.none⟩) (b - a) (c - a) ((bs.take b).drop a) := by
  have hl := h.len
  have hcap := h.cap
  have htop := h.top
  refine ⟨by rw [List.length_drop, List.length_take]; omega, by omega, by omega, fun x hx => h.byte x (List.mem_of_mem_take (List.mem_of_mem_drop hx)), fun hn => ?_⟩
  obtain ⟨R', o', e, hR, hc⟩ := h.at_ (by omega)
  injection e with e
  injection e with e1 e2
  subst e1 e2
  refine ⟨_, _, rfl, hR, fun i x hx => ?_⟩
  rw [List.getElem?_drop, List.getElem?_take] at hx
  split at hx
  · have := hc (a + i) x hx
    rw [← Nat.add_assoc] at this
    exact this
  · cases hx
theorem Bytes.nil (w : World) : Bytes w Option.none 0 0 [] := ⟨rfl, Nat.le_refl _, by omega, by simp, fun h => absurd h (by simp)⟩
/-- What Unpack answers. -/
def ZUIs (rs : List Nat) (most : Int) (w : World) (e : Ending) (w' : World) : Prop :=
  ∃ (x : List Nat) (E : Int) (A : Option Addr) (c : Nat), unzP rs most = (x, E) ∧ e = .returned (.tuple #[.slice A x.length c, .int .i64 E]) ∧ Bytes w' A x.length c x ∧ Below w.heap.size w w'
set_option maxRecDepth 100000 in
set_option maxHeartbeats 4000000 in
theorem zunp_any (A : Option Addr) (n c : Nat) (rs : List Nat) (most : Int) (w : World) (h : Bytes w A n c (120 :: 1 :: rs)) (h3 : 3 ≤ n) (hn : n ≤ 10000000) (hm : 0 ≤ most ∧ most ≤ 1048576) (hE : Env w) (hu : ∀ x u, inflP rs most = .ok (x, u) → u < rs.length) :
    Calls Tryd.prog 16 #[.slice A n c, .int .i64 most] w (ZUIs rs most w) := by
  have hl := h.len
  have hcap := h.cap
  have htop := h.top
  obtain ⟨R, o, rfl, hR, hc⟩ := h.at_ (by omega)
  have k0 : w.cell? ⟨R, o + 0, none⟩ = some (.int .u8 120) := hc 0 120 rfl
  have k1 : w.cell? ⟨R, o + 1, none⟩ = some (.int .u8 1) := hc 1 1 rfl
  rw [Nat.add_zero] at k0
  have hb2 := h.part (a := 2) (b := n) (by omega) (Nat.le_refl _)
  rw [List.take_of_length_le (by omega)] at hb2
  have hb3 : Bytes w (some ⟨R, o + 2, none⟩) (n - 2) (c - 2) rs := hb2
  have H0 := Lib.hid (And.intro h hb3)
  have HEN := Lib.hid hE
  have HU := Lib.hid hu
  have hrl : rs.length = n - 2 := hb3.len
  have d0 : decide (most < 0) = false := decide_eq_false (by omega)
  have d1 : decide (most > 1048576) = false := decide_eq_false (by omega)
  have d2 : decide ((n : Int) < 2) = false := decide_eq_false (by omega)
  have nc2 : ¬ c = 2 := by omega
  have b0 : (0 : Int) < (n : Int) := by omega
  have b1 : (1 : Int) < (n : Int) := by omega
  have b2 : (2 : Int) ≤ (n : Int) := by omega
  have bn0 : 0 < n := by omega
  have bn1 : 1 < n := by omega
  clear h hc hb2 hb3 hE hu
  go_enter Tryd.func16, Tryd.ntmps16
  go_wp2_with fail
  go_still_tail 8, (by kernel_rfl)
  change wpList _ _ _ _ _ w.drew
  have HD := Lib.hid ((Below.refl w.heap.size w).drew)
  clear k0 k1
  generalize w.drew = w1 at *
  go_wp2_with fail
  refine (head_any w1).mono ?_
  rintro e w2 ⟨rfl, hb⟩
  have H2 := Lib.hid (HD.out.trans (hb.mono HD.out.size))
  clear hb
  have HI := Lib.hid (inf_gen (some ⟨R, o + 2, none⟩) (n - 2) (c - 2) rs most w2 (H0.out.2.below H2.out) (by omega) (HEN.out.here H2.out))
  go_wp2_with fail
  refine HI.out.mono ?_
  rintro e w3 ⟨X, k, x, u, E, rfl, hby, hb, hv⟩
  have HV := Lib.hid hv
  have H3 := Lib.hid (And.intro hby (H2.out.trans (hb.mono H2.out.size)))
  clear hby hb hv HI
  rcases HV.out with ⟨rfl, hp, hxm, hul⟩ | ⟨hE, rfl, rfl, hp⟩
  rotate_left
  · have d4 : (E != 0) = true := by simp [hE]
    have HZ := Lib.hid (unzP_er hp)
    clear hp
    go_wp2_with fail
    go_ret2
    exact ⟨[], E, none, 0, HZ.out, rfl, Bytes.nil _, H3.out.2⟩
  have hult := HU.out x u hp
  rw [hrl] at hult
  have nc3 : ¬ c - 2 = u := by omega
  have b3 : (0 : Int) ≤ (u : Int) := by omega
  have b4 : (u : Int) ≤ ((n - 2 : Nat) : Int) := by omega
  have HP := Lib.hid (unzP_ok hp)
  have hdl : (rs.drop u).length = n - 2 - u := by rw [List.length_drop, hrl]
  by_cases hL : n - 2 - u < 4
  · have d5 : decide (((n - 2 - u : Nat) : Int) < 4) = true := decide_eq_true (by omega)
    have HZ := Lib.hid (show unzP rs most = ([], 6) by rw [HP.out, if_pos (by omega)])
    clear hp hdl
    go_wp2_with fail
    go_ret2
    exact ⟨[], 6, none, 0, HZ.out, rfl, Bytes.nil _, H3.out.2⟩
  have d5 : decide (((n - 2 - u : Nat) : Int) < 4) = false := decide_eq_false (by omega)
  have hpt := H0.out.2.part (a := u) (b := u + 4) (by omega) (by omega)
  rw [show u + 4 - u = 4 by omega, List.drop_take, show u + 4 - u = 4 by omega] at hpt
  have HPT := Lib.hid hpt
  have HQ := Lib.hid (show unzP rs most = if (rs.drop u).take 4 = bigE (sumZ x) then (x, 0) else ([], 7) by rw [HP.out, if_neg (by omega)])
  have b5 : (4 : Int) ≤ ((n - 2 - u : Nat) : Int) := by omega
  have b6 : (4 : Int) ≤ ((c - 2 - u : Nat) : Int) := by omega
  have b7 : 4 ≤ c - 2 - u := by omega
  have hxs : x.length ≤ 1048576 := by omega
  clear hp hdl hpt
  go_wp2_with fail
  go_upto_region 14 with fail
  have HD3 := Lib.hid (And.intro (H3.out.1.below ((Below.refl w3.heap.size w3).drew)) (H3.out.2.trans ((Below.refl w3.heap.size w3).drew.mono H3.out.2.size)))
  have HS := Lib.hid (sum_any X x.length k x w3.drew HD3.out.1 (by omega))
  refine wp_region_C (fun _ => True) (by kernel_rfl) ?_
  refine wpAnyC_take (i := 0) (v := ?v1) rfl (by kernel_rfl) (fun _ _ _ h => h) (Or.inl ⟨by rfl, ?y1⟩) trivial ?r1
  case y1 => intro wq _; go_simp; all_goals (first | with_reducible rfl | go_num | (simp; done) | (simp; omega) | skip)
  try simp only [Act.put, List.setIfInBounds_toArray, List.set_cons_zero, List.set_cons_succ]
  refine wpAnyC_take (i := 1) (v := ?v2) rfl (by kernel_rfl) (fun _ _ _ h => h) (Or.inl ⟨by rfl, ?y2⟩) trivial ?r2
  case y2 => intro wq _; go_simp; all_goals (first | with_reducible rfl | go_num | (simp; done) | (simp; omega) | skip)
  try simp only [Act.put, List.setIfInBounds_toArray, List.set_cons_zero, List.set_cons_succ]
  refine wpAnyC_take (i := 2) (v := ?v3) rfl (by kernel_rfl) (fun _ _ _ h => h) (Or.inl ⟨by rfl, ?y3⟩) trivial ?r3
  case y3 => intro wq _; go_simp; all_goals (first | with_reducible rfl | go_num | (simp; done) | (simp; omega) | skip)
  try simp only [Act.put, List.setIfInBounds_toArray, List.set_cons_zero, List.set_cons_succ]
  refine wpAnyC_one (j := 3) (by kernel_rfl) rfl (fun K hK => ?_)
  go_simp
  go_at_call 18
  refine HS.out.mono ?_
  rintro e w5 ⟨rfl, hb⟩
  have H5 := Lib.hid (And.intro (HD3.out.1.below hb) (HD3.out.2.trans (hb.mono HD3.out.2.size)))
  have HBG := Lib.hid (big_any (sumZ x) w5 (sumZ_lt x))
  clear hb HS
  go_wp2_with fail
  refine hK.out _ _ ⟨trivial, ?_⟩
  clear hK K
  try simp only [Act.put, List.setIfInBounds_toArray, List.set_cons_zero, List.set_cons_succ]
  refine wpAnyC_one (j := 4) (by kernel_rfl) rfl (fun K hK => ?_)
  go_simp
  go_at_call 33
  refine HBG.out.mono ?_
  rintro e w6 ⟨rfl, hw, hb⟩
  have H6 := Lib.hid (And.intro (H5.out.1.below hb) (H5.out.2.trans (hb.mono H5.out.2.size)))
  have HEQ := Lib.hid (equal_any (some ⟨R, o + 2 + u, none⟩) 4 (c - 2 - u) ((rs.drop u).take 4) (some ⟨w5.heap.size, 0, none⟩) 4 (bigE (sumZ x)) w6 (HPT.out.below H6.out.2) (Bytes.whole hw rfl (by decide) (bigE_byte _)))
  clear hw hb HBG
  go_wp2_with fail
  refine hK.out _ _ ⟨trivial, ?_⟩
  clear hK K
  try simp only [Act.put, List.setIfInBounds_toArray, List.set_cons_zero, List.set_cons_succ]
  refine wpAnyC_one (j := 5) (by kernel_rfl) rfl (fun K hK => ?_)
  go_simp
  go_at_call 35
  refine HEQ.out.mono ?_
  rintro e w7 ⟨rfl, hb⟩
  have H7 := Lib.hid (And.intro (H6.out.1.below hb) (H6.out.2.trans (hb.mono H6.out.2.size)))
  clear hb HEQ
  obtain ⟨q, hq9⟩ : ∃ q, decide ((rs.drop u).take 4 = bigE (sumZ x)) = q := ⟨_, rfl⟩
  rw [hq9]
  go_wp2_with fail
  refine hK.out _ _ ⟨trivial, ?_⟩
  clear hK K
  try simp only [Act.put, List.setIfInBounds_toArray, List.set_cons_zero, List.set_cons_succ]
  refine wpAnyC_take (i := 6) (v := ?v4) rfl (by kernel_rfl) (fun _ _ _ h => h) (Or.inl ⟨by rfl, ?y4⟩) trivial ?r4
  case y4 => intro wq _; go_simp; all_goals (first | with_reducible rfl | go_num | (simp; done) | (simp; omega) | skip)
  try simp only [Act.put, List.setIfInBounds_toArray, List.set_cons_zero, List.set_cons_succ]
  refine wpAnyC_done (by kernel_rfl) ?_ _
  by_cases hq : (rs.drop u).take 4 = bigE (sumZ x)
  · have HZ := Lib.hid (show unzP rs most = (x, 0) by rw [HQ.out, if_pos hq])
    obtain rfl : q = true := by rw [← hq9]; exact decide_eq_true hq
    clear hq hq9
    go_wp2_with fail
    go_ret2
    exact ⟨x, 0, X, k, HZ.out, rfl, H7.out.1, H7.out.2⟩
  · have HZ := Lib.hid (show unzP rs most = ([], 7) by rw [HQ.out, if_neg hq])
    obtain rfl : q = false := by rw [← hq9]; exact decide_eq_false hq
    clear hq hq9
    go_wp2_with fail
    go_ret2
    exact ⟨[], 7, none, 0, HZ.out, rfl, Bytes.nil _, H7.out.2⟩
end Go.Proofs.YtnjdnldoopgcpaaDoor
