/- ZlibBack, walked. -/
import Derived.Test.YtnjdnldoopgcpaaDoorZlG
namespace Go.Proofs.YtnjdnldoopgcpaaDoor
open Go.RowKit

theorem Bytes.left {w : World} {A : Option Addr} {n c k : Nat} {bs : List Nat} (h : Bytes w A n c bs) (hk : k ≤ n) : Bytes w A k c (bs.take k) := by
  have hl := h.len
  have hcap := h.cap
  refine ⟨by rw [List.length_take]; omega, by omega, h.top, fun x hx => h.byte x (List.mem_of_mem_take hx), fun hn => ?_⟩
  obtain ⟨R, o, e, hR, hc⟩ := h.at_ (by omega)
  refine ⟨R, o, e, hR, fun i x hx => ?_⟩
  rw [List.getElem?_take] at hx
  split at hx
  · exact hc i x hx
  · cases hx
theorem packB_split (bs ds t : List Nat) : packB bs ds ++ t = 120 :: 1 :: (ds ++ (bigE (sumZ bs) ++ t)) := by unfold packB; simp
theorem packB_cut (bs ds : List Nat) : (packB bs ds).take (ds.length + 5) = 120 :: 1 :: (ds ++ (bigE (sumZ bs)).take 3) := by
  unfold packB
  rw [List.append_assoc, List.take_append, List.take_of_length_le (by simp)]
  show _ ++ List.take (ds.length + 5 - 2) _ = _
  rw [List.take_append, List.take_of_length_le (by omega), show ds.length + 5 - 2 - ds.length = 3 by omega]
  rfl
theorem packB_at (bs ds : List Nat) : ∀ j x, (bigE (sumZ bs))[j]? = some x → (packB bs ds)[ds.length + 2 + j]? = some x := by
  intro j x hx
  have hll : ([120, 1] ++ ds).length ≤ ds.length + 2 + j := by simp only [List.length_append, List.length_cons, List.length_nil]; omega
  unfold packB
  rw [List.getElem?_append_right hll]
  simp only [List.length_append, List.length_cons, List.length_nil]
  rw [show ds.length + 2 + j - (0 + 1 + 1 + ds.length) = j by omega]
  exact hx
set_option maxRecDepth 100000 in
set_option maxHeartbeats 8000000 in
theorem zback_law (A : Option Addr) (n c : Nat) (bs : List Nat) (A1 : Option Addr) (n1 c1 : Nat) (rs : List Nat) (w : World) (h : Bytes w A n c bs) (h1 : Bytes w A1 n1 c1 rs) (hnil1 : A1 = none → c1 = 0) (hE : Env w) :
    Calls Tryd.prog 5 #[.slice A n c, .slice A1 n1 c1] w (True_ w) := by
  have hl := h.len
  have hl1 := h1.len
  have H0 := Lib.hid (And.intro h h1)
  have HN := Lib.hid hnil1
  have HE := Lib.hid hE
  clear h h1 hnil1 hE
  go_enter Tryd.func5, Tryd.ntmps5
  by_cases g1 : 2000 < n
  · have d1 : decide ((n : Int) > 2000) = true := decide_eq_true (by omega)
    go_wp2_with fail
    go_ret
    exact ⟨rfl, Below.refl _ _⟩
  have d1 : decide ((n : Int) > 2000) = false := decide_eq_false (by omega)
  by_cases g2 : 300 < n1
  · have d2 : decide ((n1 : Int) > 300) = true := decide_eq_true (by omega)
    go_wp2_with fail
    go_ret
    exact ⟨rfl, Below.refl _ _⟩
  have d2 : decide ((n1 : Int) > 300) = false := decide_eq_false (by omega)
  go_wp2_with fail
  refine (zpack_any A n c bs w H0.out.1 (by omega)).mono ?_
  rintro e w1 ⟨v, ds, hho, rfl, hown, hb⟩
  have hpb : ∀ x ∈ packB bs ds, x < 256 := fun x hx => by
    unfold packB at hx
    rcases List.mem_append.1 hx with hx | hx
    · rcases List.mem_append.1 hx with hx | hx
      · simp at hx; omega
      · exact hho.byte x hx
    · exact bigE_byte _ x hx
  obtain ⟨A2, c2, rfl, hby⟩ := own_bytes hown hpb
  have hpl := packB_len bs ds
  have hsh := hho.short (tokD_ok H0.out.1.byte)
  have htl := tokD_len bs
  obtain ⟨K, hK⟩ : ∃ K, (packB bs ds).length = K := ⟨_, rfl⟩
  have hK6 : ds.length + 6 = K := by omega
  have hKl : K ≤ 20000 := by omega
  rw [hK] at hby ⊢
  have H1 := Lib.hid (And.intro hby hb)
  have HH := Lib.hid hho
  have HPB := Lib.hid hpb
  have HK := Lib.hid hK
  have d3 : decide ((K : Int) < 6) = false := decide_eq_false (by omega)
  have z2 : A2 = none → c2 = 0 := fun e => by
    obtain ⟨R, o, e2, -⟩ := hby.at_ (by omega)
    rw [e] at e2
    cases e2
  have HZ2 := Lib.hid z2
  obtain ⟨wE, hwE⟩ : ∃ wE, w1.alloc (.cells #[] 5) = wE := ⟨_, rfl⟩
  have hbE : Below w1.heap.size w1 wE := by rw [← hwE]; exact (Below.refl _ _).alloc (Nat.le_refl _) _
  have HOE := Lib.hid (own_empty2 (size := 1) (show Whole wE w1.heap.size 5 #[] by rw [← hwE]; exact Whole.made _ _ _) (Nat.le_refl w1.heap.size))
  have HBE := Lib.hid hbE
  have hszE := hbE.size
  have HYE := Lib.hid (hby.below hbE)
  clear hho hown hb hby hbE hpb hpl hsh htl hK z2
  go_wp2_with (at_builtin; refine app_bytes rfl _ _ rfl w1.heap.size _ 0 [] rfl HOE.out A2 K c2 (packB bs ds) rfl HYE.out HZ2.out (by omega) hszE ?_)
  intro v2 w2 hown2 hgr2
  have hb2 : Below w1.heap.size w1 w2 := HBE.out.grown hgr2 hszE (fun j e => (own_lt HOE.out e).1)
  have HO2 := Lib.hid hown2
  have HB2 := Lib.hid hb2
  have hsz2 := hb2.size
  have HY2 := Lib.hid ((H0.out.2.below H1.out.2).below hb2)
  clear hown2 hgr2 hb2
  go_wp2_with (at_builtin; refine app_bytes rfl _ _ rfl w1.heap.size v2 K (bvs (packB bs ds)) rfl HO2.out A1 n1 c1 rs rfl HY2.out HN.out (by omega) hsz2 ?_)
  intro v3 w3 hown3 hgr3
  have hb3 : Below w1.heap.size w1 w3 := HB2.out.grown hgr3 hsz2 (fun j e => (own_lt HO2.out e).1)
  have hown4 : w3.ownsRow w1.heap.size 5 1 v3 (packB bs ds ++ rs).length (bvs (packB bs ds ++ rs)) := by
    rw [List.length_append, HK.out, hl1, bvs_append]
    exact hown3
  obtain ⟨A3, c3, rfl, hby3⟩ := own_bytes hown4 (fun x hx => by
    rcases List.mem_append.1 hx with hx | hx
    · exact HPB.out x hx
    · exact H0.out.2.byte x hx)
  rw [packB_split] at hby3
  have hlen3 : (packB bs ds ++ rs).length = K + n1 := by rw [List.length_append, HK.out, hl1]
  rw [← packB_split, hlen3] at hby3
  rw [packB_split] at hby3
  rw [hlen3]
  have hw13 : Below w.heap.size w w3 := H1.out.2.trans (hb3.mono H1.out.2.size)
  have ht0 : bigE (sumZ bs) ++ rs ≠ [] := by simp [bigE]
  have HU1 := Lib.hid (zunp_any A3 (K + n1) c3 (ds ++ (bigE (sumZ bs) ++ rs)) 2000 w3 hby3 (by omega) (by omega) (by omega) (HE.out.here hw13) (fun x u hx => unz_used H0.out.1.byte (by omega) (by omega) HH.out ht0 hx))
  have HP1 := Lib.hid (show unzP (ds ++ (bigE (sumZ bs) ++ rs)) 2000 = (bs, 0) by
    rw [unz_pack _ H0.out.1.byte (by omega) (by omega) HH.out, if_neg (by simp [bigE]), if_pos (by simp [bigE])])
  have H3 := Lib.hid (And.intro (H1.out.1.below hb3) hw13)
  clear hown3 hgr3 hb3 hown4 hby3 hlen3 hw13 ht0
  go_wp2_with fail
  refine HU1.out.mono ?_
  rintro e w4 ⟨x, E, A4, c4, hp, rfl, hby, hb⟩
  rw [HP1.out] at hp
  injection hp with hp1 hp2
  subst hp1 hp2
  have H4 := Lib.hid (And.intro hby (And.intro (H3.out.1.below hb) (H3.out.2.trans (hb.mono H3.out.2.size))))
  clear hby hb HU1
  obtain ⟨R, o, rfl, hR, hc⟩ := H4.out.2.1.at_ (by omega)
  obtain ⟨S, hS⟩ : ∃ S, sumZ bs = S := ⟨_, rfl⟩
  have hS32 := sumZ_lt bs
  rw [hS] at hS32
  obtain ⟨x4, hx4⟩ : ∃ x, S / 16777216 % 256 = x := ⟨_, rfl⟩
  obtain ⟨i4, hi4⟩ : ∃ i, ds.length + 2 = i := ⟨_, rfl⟩
  have k4 : w4.cell? ⟨R, o + i4, none⟩ = some (.int .u8 (x4 : Int)) := by
    rw [← hi4, ← hx4, ← hS]
    exact hc _ _ (packB_at bs ds 0 _ rfl)
  have u4 : x4 < 256 := by omega
  have ew4 : IntKind.i64.wrap ((K : Int) - 4) = (i4 : Int) := by rw [IntKind.wrap_i64]; omega
  have p4 : (0 : Int) ≤ (i4 : Int) := by omega
  have q4 : (i4 : Int) < (K : Int) := by omega
  obtain ⟨x3, hx3⟩ : ∃ x, S / 65536 % 256 = x := ⟨_, rfl⟩
  obtain ⟨i3, hi3⟩ : ∃ i, ds.length + 3 = i := ⟨_, rfl⟩
  have k3 : w4.cell? ⟨R, o + i3, none⟩ = some (.int .u8 (x3 : Int)) := by
    rw [← hi3, ← hx3, ← hS]
    exact hc _ _ (packB_at bs ds 1 _ rfl)
  have u3 : x3 < 256 := by omega
  have ew3 : IntKind.i64.wrap ((K : Int) - 3) = (i3 : Int) := by rw [IntKind.wrap_i64]; omega
  have p3 : (0 : Int) ≤ (i3 : Int) := by omega
  have q3 : (i3 : Int) < (K : Int) := by omega
  obtain ⟨x2, hx2⟩ : ∃ x, S / 256 % 256 = x := ⟨_, rfl⟩
  obtain ⟨i2, hi2⟩ : ∃ i, ds.length + 4 = i := ⟨_, rfl⟩
  have k2 : w4.cell? ⟨R, o + i2, none⟩ = some (.int .u8 (x2 : Int)) := by
    rw [← hi2, ← hx2, ← hS]
    exact hc _ _ (packB_at bs ds 2 _ rfl)
  have u2 : x2 < 256 := by omega
  have ew2 : IntKind.i64.wrap ((K : Int) - 2) = (i2 : Int) := by rw [IntKind.wrap_i64]; omega
  have p2 : (0 : Int) ≤ (i2 : Int) := by omega
  have q2 : (i2 : Int) < (K : Int) := by omega
  obtain ⟨x1, hx1⟩ : ∃ x, S % 256 = x := ⟨_, rfl⟩
  obtain ⟨i1, hi1⟩ : ∃ i, ds.length + 5 = i := ⟨_, rfl⟩
  have k1 : w4.cell? ⟨R, o + i1, none⟩ = some (.int .u8 (x1 : Int)) := by
    rw [← hi1, ← hx1, ← hS]
    exact hc _ _ (packB_at bs ds 3 _ rfl)
  have u1 : x1 < 256 := by omega
  have ew1 : IntKind.i64.wrap ((K : Int) - 1) = (i1 : Int) := by rw [IntKind.wrap_i64]; omega
  have p1 : (0 : Int) ≤ (i1 : Int) := by omega
  have q1 : (i1 : Int) < (K : Int) := by omega
  have HX := Lib.hid (show 16777216 * x4 + 65536 * x3 + 256 * x2 + x1 = S by omega)
  obtain ⟨m4, hm4⟩ : ∃ m, 16777216 * x4 = m := ⟨_, rfl⟩
  obtain ⟨m3, hm3⟩ : ∃ m, 65536 * x3 = m := ⟨_, rfl⟩
  obtain ⟨m2, hm2⟩ : ∃ m, 256 * x2 = m := ⟨_, rfl⟩
  obtain ⟨s1, hs1⟩ : ∃ m, m4 + m3 = m := ⟨_, rfl⟩
  obtain ⟨s2, hs2⟩ : ∃ m, s1 + m2 = m := ⟨_, rfl⟩
  have f1 : IntKind.i64.wrap (16777216 * (x4 : Int)) = (m4 : Int) := by rw [IntKind.wrap_i64]; omega
  have f2 : IntKind.i64.wrap (65536 * (x3 : Int)) = (m3 : Int) := by rw [IntKind.wrap_i64]; omega
  have f3 : IntKind.i64.wrap (256 * (x2 : Int)) = (m2 : Int) := by rw [IntKind.wrap_i64]; omega
  have f4 : IntKind.i64.wrap ((m4 : Int) + (m3 : Int)) = (s1 : Int) := by rw [IntKind.wrap_i64]; omega
  have f5 : IntKind.i64.wrap ((s1 : Int) + (m2 : Int)) = (s2 : Int) := by rw [IntKind.wrap_i64]; omega
  have f6 : IntKind.i64.wrap ((s2 : Int) + (x1 : Int)) = (S : Int) := by rw [IntKind.wrap_i64]; omega
  have HI := Lib.hid (And.intro hi4 (And.intro hi3 (And.intro hi2 (And.intro hi1 hS))))
  clear hc hx4 hx3 hx2 hx1 hi4 hi3 hi2 hi1 hS hm4 hm3 hm2 hs1 hs2
  go_wp2_with fail
  go_quiet (fail)
  have hd5 : Below w4.heap.size w4 (w4.drewN nq) := below_drewN (Below.refl _ _) _
  have hc5 := H4.out.2.1.below hd5
  have hcap := hc5.cap
  have hb5 := H4.out.2.2.trans (hd5.mono H4.out.2.2.size)
  have hlf := hc5.left (k := i1) (by omega)
  rw [← HI.out.2.2.2.1, packB_cut, HI.out.2.2.2.1] at hlf
  have r1 : (i1 : Int) ≤ (c2 : Int) := by omega
  have ht3 : (bigE (sumZ bs)).take 3 ≠ [] := by simp [bigE]
  have HU2 := Lib.hid (zunp_any (some ⟨R, o, none⟩) i1 c2 (ds ++ (bigE (sumZ bs)).take 3) 2000 (w4.drewN nq) hlf (by have := HI.out.2.2.2.1; omega) (by omega) (by omega) (HE.out.here hb5) (fun x u hx => unz_used H0.out.1.byte (by omega) (by omega) HH.out ht3 hx))
  have HP2 := Lib.hid (show unzP (ds ++ (bigE (sumZ bs)).take 3) 2000 = ([], 6) by
    rw [unz_pack _ H0.out.1.byte (by omega) (by omega) HH.out, if_pos (by simp [bigE])])
  have H5 := Lib.hid (And.intro (H4.out.1.below hd5) hb5)
  clear hd5 hc5 hb5 hlf ht3 k4 k3 k2 k1 ew4 ew3 ew2 f1 f2 f3 f4 f5 f6
  generalize w4.drewN nq = w5 at *
  go_wp2_with fail
  refine HU2.out.mono ?_
  rintro e w6 ⟨x, E, A6, c6, hp, rfl, hby, hb⟩
  rw [HP2.out] at hp
  injection hp with hp1 hp2
  subst hp1 hp2
  have H6 := Lib.hid (And.intro (H5.out.1.below hb) (H5.out.2.trans (hb.mono H5.out.2.size)))
  clear hby hb HU2
  go_wp2_with fail
  refine (awake08 _).mono ?_
  rintro e w7 ⟨rfl, hb⟩
  have H7 := Lib.hid (And.intro (H6.out.1.below hb) (H6.out.2.trans (hb.mono H6.out.2.size)))
  have hs1 := H7.out.1.str
  rw [hl] at hs1
  have hs2 := (H0.out.1.below H7.out.2).str
  have e1 := str_same (strB bs)
  have HS7 := Lib.hid (sum_any A n c bs w7 (H0.out.1.below H7.out.2) (by omega))
  rw [HI.out.2.2.2.2] at HS7
  have e2 : ((S : Int) == (S : Int)) = true := by simp
  clear hb
  go_wp2_with fail
  refine HS7.out.mono ?_
  rintro e w8 ⟨rfl, hb⟩
  have H8 := Lib.hid (H7.out.2.trans (hb.mono H7.out.2.size))
  clear hb
  go_wp2_with fail
  go_ret
  exact ⟨rfl, H8.out⟩
end Go.Proofs.YtnjdnldoopgcpaaDoor
