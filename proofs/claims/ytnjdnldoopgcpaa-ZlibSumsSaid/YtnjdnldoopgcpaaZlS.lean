/- ZlibSums, walked. -/
import Derived.Test.YtnjdnldoopgcpaaZlG
namespace Go.Proofs.Ytnjdnldoopgcpaa
open Go.RowKit

set_option maxRecDepth 100000 in
set_option maxHeartbeats 8000000 in
theorem zsums_law (A : Option Addr) (n c : Nat) (bs : List Nat) (A1 : Option Addr) (n1 c1 : Nat) (rs : List Nat) (w : World) (h : Bytes w A n c bs) (hnil : A = none → c = 0) (h1 : Bytes w A1 n1 c1 rs) (hnil1 : A1 = none → c1 = 0) :
    Calls Try.prog 6 #[.slice A n c, .slice A1 n1 c1] w (True_ w) := by
  have hl := h.len
  have hl1 := h1.len
  have H0 := Lib.hid (And.intro h h1)
  have HN := Lib.hid (And.intro hnil hnil1)
  clear h h1 hnil hnil1
  go_enter Try.func6, Try.ntmps6
  by_cases g1 : 2000 < n
  · have d1 : decide ((n : Int) > 2000) = true := decide_eq_true (by omega)
    go_wp2_with fail
    go_ret
    exact ⟨rfl, Below.refl _ _⟩
  have d1 : decide ((n : Int) > 2000) = false := decide_eq_false (by omega)
  by_cases g2 : 2000 < n1
  · have d2 : decide ((n1 : Int) > 2000) = true := decide_eq_true (by omega)
    go_wp2_with fail
    go_ret
    exact ⟨rfl, Below.refl _ _⟩
  have d2 : decide ((n1 : Int) > 2000) = false := decide_eq_false (by omega)
  have HS1 := Lib.hid (sum_any A n c bs w H0.out.1 (by omega))
  obtain ⟨S1, hS1⟩ : ∃ S, sumZ bs = S := ⟨_, rfl⟩
  obtain ⟨S2, hS2⟩ : ∃ S, sumZ rs = S := ⟨_, rfl⟩
  obtain ⟨S3, hS3⟩ : ∃ S, sumZ (bs ++ rs) = S := ⟨_, rfl⟩
  have hap := sumZ_app bs rs
  obtain ⟨p1, p2, p3, p4⟩ := sumZ_parts bs
  obtain ⟨r1, r2, r3, r4⟩ := sumZ_parts rs
  rw [← p1] at p3
  rw [← p2] at p4
  rw [← r1] at r3
  rw [← r2] at r4
  rw [hS1, hS2, hS3, hl1] at hap
  rw [hS1] at p3 p4 HS1
  rw [hS2] at r3 r4
  obtain ⟨a1, ha1⟩ : ∃ x, S1 % 65536 = x := ⟨_, rfl⟩
  obtain ⟨a2, ha2⟩ : ∃ x, S2 % 65536 = x := ⟨_, rfl⟩
  obtain ⟨q1, hq1⟩ : ∃ x, S1 / 65536 = x := ⟨_, rfl⟩
  obtain ⟨q2, hq2⟩ : ∃ x, S2 / 65536 = x := ⟨_, rfl⟩
  rw [ha1, ha2, hq1, hq2] at hap
  rw [ha1] at p3
  rw [hq1] at p4
  rw [ha2] at r3
  rw [hq2] at r4
  have tm1 : Int.tmod (S1 : Int) 65536 = (a1 : Int) := by rw [Int.tmod_eq_emod_of_nonneg (by omega)]; omega
  have tm2 : Int.tmod (S2 : Int) 65536 = (a2 : Int) := by rw [Int.tmod_eq_emod_of_nonneg (by omega)]; omega
  have td1 : Int.tdiv (S1 : Int) 65536 = (q1 : Int) := by rw [Int.tdiv_eq_ediv_of_nonneg (by omega)]; omega
  have td2 : Int.tdiv (S2 : Int) 65536 = (q2 : Int) := by rw [Int.tdiv_eq_ediv_of_nonneg (by omega)]; omega
  have em1 : (S1 : Int) % 65536 = (a1 : Int) := by omega
  have em2 : (S2 : Int) % 65536 = (a2 : Int) := by omega
  have ed1 : (S1 : Int) / 65536 = (q1 : Int) := by omega
  have ed2 : (S2 : Int) / 65536 = (q2 : Int) := by omega
  obtain ⟨u, hu⟩ : ∃ x, a1 + a2 = x := ⟨_, rfl⟩
  obtain ⟨u2, hu2⟩ : ∃ x, u + 65520 = x := ⟨_, rfl⟩
  obtain ⟨lo, hlo⟩ : ∃ x, u2 % 65521 = x := ⟨_, rfl⟩
  obtain ⟨v, hv⟩ : ∃ x, q1 + q2 = x := ⟨_, rfl⟩
  obtain ⟨r, hr⟩ : ∃ x, a1 + 65520 = x := ⟨_, rfl⟩
  obtain ⟨P, hP⟩ : ∃ x, n1 * r = x := ⟨_, rfl⟩
  obtain ⟨v2, hv2⟩ : ∃ x, v + P = x := ⟨_, rfl⟩
  obtain ⟨hi, hhi⟩ : ∃ x, v2 % 65521 = x := ⟨_, rfl⟩
  obtain ⟨m, hm⟩ : ∃ x, 65536 * hi = x := ⟨_, rfl⟩
  have hP2 : P ≤ 2000 * 131041 := by rw [← hP]; exact Nat.mul_le_mul (by omega) (by omega)
  rw [hu, hu2, hlo, hv, hr, hP, hv2, hhi, hm] at hap
  have w1 : IntKind.i64.wrap ((a1 : Int) + (a2 : Int)) = (u : Int) := by rw [IntKind.wrap_i64]; omega
  have w2 : IntKind.i64.wrap ((u : Int) + 65520) = (u2 : Int) := by rw [IntKind.wrap_i64]; omega
  have t3 : Int.tmod (u2 : Int) 65521 = (lo : Int) := by rw [Int.tmod_eq_emod_of_nonneg (by omega)]; omega
  have t3' : (u2 : Int) % 65521 = (lo : Int) := by omega
  have w3 : IntKind.i64.wrap ((q1 : Int) + (q2 : Int)) = (v : Int) := by rw [IntKind.wrap_i64]; omega
  have w4 : IntKind.i64.wrap ((a1 : Int) + 65520) = (r : Int) := by rw [IntKind.wrap_i64]; omega
  have w5 : IntKind.i64.wrap ((n1 : Int) * (r : Int)) = (P : Int) := by rw [show (n1 : Int) * (r : Int) = (P : Int) by rw [← hP]; push_cast; rfl, IntKind.wrap_i64]; omega
  have w6 : IntKind.i64.wrap ((v : Int) + (P : Int)) = (v2 : Int) := by rw [IntKind.wrap_i64]; omega
  have t4 : Int.tmod (v2 : Int) 65521 = (hi : Int) := by rw [Int.tmod_eq_emod_of_nonneg (by omega)]; omega
  have t4' : (v2 : Int) % 65521 = (hi : Int) := by omega
  have w7 : IntKind.i64.wrap (65536 * (hi : Int)) = (m : Int) := by rw [IntKind.wrap_i64]; omega
  have w8 : IntKind.i64.wrap ((m : Int) + (lo : Int)) = (S3 : Int) := by rw [IntKind.wrap_i64]; omega
  have wq1 : IntKind.i64.wrap (q1 : Int) = (q1 : Int) := by rw [IntKind.wrap_i64]; omega
  have wq2 : IntKind.i64.wrap (q2 : Int) = (q2 : Int) := by rw [IntKind.wrap_i64]; omega
  have e9 : ((S3 : Int) == (S3 : Int)) = true := by simp
  have HE := Lib.hid (And.intro hS2 hS3)
  clear hap p1 p2 p3 p4 r1 r2 r3 r4 ha1 ha2 hq1 hq2 hu hu2 hlo hv hr hP hv2 hhi hm hP2 hS1 hS2 hS3
  go_wp2_with fail
  refine HS1.out.mono ?_
  rintro e w1' ⟨rfl, hb⟩
  have H1 := Lib.hid hb
  have HS2 := Lib.hid (sum_any A1 n1 c1 rs w1' (H0.out.2.below hb) (by omega))
  rw [HE.out.1] at HS2
  clear hb
  go_wp2_with fail
  refine HS2.out.mono ?_
  rintro e w2' ⟨rfl, hb⟩
  have H2 := Lib.hid (H1.out.trans (hb.mono H1.out.size))
  clear hb
  obtain ⟨wE, hwE⟩ : ∃ wE, w2'.alloc (.cells #[] 5) = wE := ⟨_, rfl⟩
  have hbE : Below w2'.heap.size w2' wE := by rw [← hwE]; exact (Below.refl _ _).alloc (Nat.le_refl _) _
  have HOE := Lib.hid (own_empty2 (size := 1) (show Whole wE w2'.heap.size 5 #[] by rw [← hwE]; exact Whole.made _ _ _) (Nat.le_refl w2'.heap.size))
  have HBE := Lib.hid hbE
  have hszE := hbE.size
  have HYE := Lib.hid ((H0.out.1.below H2.out).below hbE)
  clear hbE
  go_wp2_with (at_builtin; refine app_bytes rfl _ _ rfl w2'.heap.size _ 0 [] rfl HOE.out A n c bs rfl HYE.out HN.out.1 (by omega) hszE ?_)
  intro x2 w3' hown2 hgr2
  have hb2 : Below w2'.heap.size w2' w3' := HBE.out.grown hgr2 hszE (fun j e => (own_lt HOE.out e).1)
  have HO2 := Lib.hid hown2
  have HB2 := Lib.hid hb2
  have hsz2 := hb2.size
  have HY2 := Lib.hid ((H0.out.2.below H2.out).below hb2)
  clear hown2 hgr2 hb2
  go_wp2_with (at_builtin; refine app_bytes rfl _ _ rfl w2'.heap.size x2 n (bvs bs) rfl HO2.out A1 n1 c1 rs rfl HY2.out HN.out.2 (by omega) hsz2 ?_)
  intro x3 w4' hown3 hgr3
  have hb3 : Below w2'.heap.size w2' w4' := HB2.out.grown hgr3 hsz2 (fun j e => (own_lt HO2.out e).1)
  have hown4 : w4'.ownsRow w2'.heap.size 5 1 x3 (bs ++ rs).length (bvs (bs ++ rs)) := by
    rw [List.length_append, hl, hl1, bvs_append]
    exact hown3
  obtain ⟨A3, c3, rfl, hby3⟩ := own_bytes hown4 (fun x hx => by
    rcases List.mem_append.1 hx with hx | hx
    · exact H0.out.1.byte x hx
    · exact H0.out.2.byte x hx)
  have hlen3 : (bs ++ rs).length = n + n1 := by rw [List.length_append, hl, hl1]
  rw [hlen3] at hby3 ⊢
  have H3 := Lib.hid (H2.out.trans (hb3.mono H2.out.size))
  have HS3 := Lib.hid (sum_any A3 (n + n1) c3 (bs ++ rs) w4' hby3 (by omega))
  rw [HE.out.2] at HS3
  clear hown3 hgr3 hb3 hown4 hby3 hlen3
  go_wp2_with fail
  refine HS3.out.mono ?_
  rintro e w5' ⟨rfl, hb⟩
  have H5 := Lib.hid (H3.out.trans (hb.mono H3.out.size))
  clear hb
  go_wp2_with fail
  refine (awake08 _).mono ?_
  rintro e w6' ⟨rfl, hb⟩
  have H6 := Lib.hid (H5.out.trans (hb.mono H5.out.size))
  clear hb
  go_wp2_with fail
  go_ret
  exact ⟨rfl, H6.out⟩
end Go.Proofs.Ytnjdnldoopgcpaa
