/- The law LexOn. Written by gen_lexz.py. -/
import Derived.Test.YtdiaijdobglaaaaDoorLexY
import Derived.Test.YtdiaijdobglaaaaDoorLexW
namespace Go.Proofs.YtdiaijdobglaaaaDoor
open Go.RowKit

set_option maxRecDepth 100000 in
set_option maxHeartbeats 16000000 in
theorem on_long (A : Option Addr) (n c : Nat) (at_ : Int) (A' : Option Addr) (m c' : Nat) (w : World) (hl : 500 < n ∨ 100 < m) :
    Calls Tryd.prog 4 #[.slice A n c, .int .i64 at_, .slice A' m c'] w (True_ w) := by
  by_cases h1 : 500 < n
  · have d1 : decide ((500 : Int) < (n : Int)) = true := decide_eq_true (by omega)
    clear h1 hl
    go_enter Tryd.func4, Tryd.ntmps4
    go_wp2_with fail
    go_ret
    refine ⟨rfl, ?_⟩
    (repeat (first | with_reducible exact Below.refl _ _ | with_reducible refine Below.drew ?_ | with_reducible refine bdrewN ?_ _ | (with_reducible refine Below.setCell ?_ ?_ _; rotate_left; focus (first | exact Nat.le_refl _ | omega | (simp; omega) | (simp; done))) | (with_reducible refine Below.alloc ?_ ?_ _; rotate_left; focus (first | exact Nat.le_refl _ | omega | (simp; omega) | (simp; done))) | (with_reducible refine Below.trans ?_ (Below.mono (by assumption) ?_); rotate_left; focus (first | exact Nat.le_refl _ | omega | (simp; omega) | (simp; done)))))
  · have d1 : decide ((500 : Int) < (n : Int)) = false := decide_eq_false (by omega)
    have d2 : decide ((100 : Int) < (m : Int)) = true := decide_eq_true (by omega)
    clear h1 hl
    go_enter Tryd.func4, Tryd.ntmps4
    go_wp2_with fail
    go_ret
    refine ⟨rfl, ?_⟩
    (repeat (first | with_reducible exact Below.refl _ _ | with_reducible refine Below.drew ?_ | with_reducible refine bdrewN ?_ _ | (with_reducible refine Below.setCell ?_ ?_ _; rotate_left; focus (first | exact Nat.le_refl _ | omega | (simp; omega) | (simp; done))) | (with_reducible refine Below.alloc ?_ ?_ _; rotate_left; focus (first | exact Nat.le_refl _ | omega | (simp; omega) | (simp; done))) | (with_reducible refine Below.trans ?_ (Below.mono (by assumption) ?_); rotate_left; focus (first | exact Nat.le_refl _ | omega | (simp; omega) | (simp; done)))))
set_option maxRecDepth 100000 in
set_option maxHeartbeats 16000000 in
theorem on_err (A : Option Addr) (n c : Nat) (bs : List Nat) (at_ : Int) (A' : Option Addr) (m c' : Nat) (w : World) (hl : n ≤ 500) (hm : m ≤ 100) (h : Bytes w A n c bs) (hE : Env w) (e : Int) (he : ¬ e = 0) (hn : nextI bs at_ = (e, noTok, 0)) :
    Calls Tryd.prog 4 #[.slice A n c, .int .i64 at_, .slice A' m c'] w (True_ w) := by
  have d1 : decide ((500 : Int) < (n : Int)) = false := decide_eq_false (by omega)
  have d2 : decide ((100 : Int) < (m : Int)) = false := decide_eq_false (by omega)
  have e1 : (e != 0) = true := by simpa using he
  have HY := Lib.hid h
  have HE := Lib.hid hE
  have N1 := Lib.hid hn
  clear h hE hn he
  go_enter Tryd.func4, Tryd.ntmps4
  go_wp2_with fail
  refine (next_cat N1.out (v := .agg #[.int .i64 0, .int .i64 0, .int .i64 0, .string ⟨#[]⟩]) (by rfl) _ _ _ _ HY.out HE.out.1 (by omega)).mono ?_
  rintro e w1 ⟨rfl, hb⟩
  have HB1 := Lib.hid (hb.alloc hb.size (.cells #[.int .i64 0, .int .i64 0, .int .i64 0, .string ⟨#[]⟩] 25))
  have HW := Lib.hid (Whole.made w1 25 #[.int .i64 0, .int .i64 0, .int .i64 0, .string ⟨#[]⟩])
  clear hb
  go_wp2_with fail
  refine (awake_any _ (HE.out.below HB1.out)).mono ?_
  rintro e w2 ⟨rfl, hb⟩
  have HB2 := Lib.hid (HB1.out.trans (hb.mono HB1.out.size))
  have q1 := (HW.out.here hb).reads
  have l1 := (HW.out.here hb).lt
  clear hb
  go_wp2_with fail
  go_ret
  exact ⟨rfl, HB2.out⟩
set_option maxRecDepth 100000 in
set_option maxHeartbeats 16000000 in
theorem on_end (A : Option Addr) (n c : Nat) (bs : List Nat) (hA : A = none → c = 0) (i : Nat) (A' : Option Addr) (m c' : Nat) (ms : List Nat) (hA' : A' = none → c' = 0) (w : World) (hl : n ≤ 500) (hm : m ≤ 100) (h : Bytes w A n c bs) (h' : Bytes w A' m c' ms) (hE : Env w)
    (kd zm zs : Int) (r : ByteArray) (y : ByteArray) (k : Nat) (hk : kd = 0) (hn : nextI bs i = (0, ⟨kd, zm, zs, natsOf r⟩, (k : Int))) (hik : i ≤ k) (hkn : k ≤ n)
    (hp : ∀ w, Env w → Calls Tryd.prog 6 #[.agg #[.int .i64 kd, .int .i64 zm, .int .i64 zs, .string r]] w fun e' w' => e' = .returned (.tuple #[.string y, .int .i64 0]) ∧ Below w.heap.size w w')
    (e2 p2 : Int) (t2 : TokV) (hn2 : nextI (bs.take k ++ [32] ++ ms) i = (e2, t2, p2)) :
    Calls Tryd.prog 4 #[.slice A n c, .int .i64 (i : Int), .slice A' m c'] w (True_ w) := by
  have d1 : decide ((500 : Int) < (n : Int)) = false := decide_eq_false (by omega)
  have d2 : decide ((100 : Int) < (m : Int)) = false := decide_eq_false (by omega)
  have d3 : decide ((k : Int) < (i : Int)) = false := decide_eq_false (by omega)
  have d4 : decide ((n : Int) < (k : Int)) = false := decide_eq_false (by omega)
  have d5 : (kd == 0) = true := by simpa using hk
  have d6 : (kd != 0) = false := by simpa using hk

  have HY := Lib.hid h
  have HY' := Lib.hid h'
  have HE := Lib.hid hE
  have N1 := Lib.hid hn
  have N2 := Lib.hid hn2
  have HP := Lib.hid hp
  have HC := h.cap
  have HTK := Lib.hid (fun (W : World) (a : Option Addr) (q : Bytes W a n c bs) => (⟨by rw [List.length_take, q.len]; omega, by omega, q.top, fun b hb => q.byte b (List.mem_of_mem_take hb), fun hk0 => by
    obtain ⟨R, o, e, hR, hc⟩ := q.at_ (by omega)
    exact ⟨R, o, e, hR, fun j b hj => hc j b (by rw [List.getElem?_take] at hj; split at hj <;> simp_all)⟩⟩ : Bytes W a k c (bs.take k)))

  clear h h' hE hn hn2 hp hk
  obtain ⟨i0, hi, hz0, hz1, hz2⟩ := info_parts info8
  obtain ⟨k2, m2, s2, x2⟩ := t2
  go_enter Tryd.func4, Tryd.ntmps4
  go_wp2_with fail
  refine (next_cat N1.out (tok_val kd zm zs r) _ _ _ _ HY.out HE.out.1 (by omega)).mono ?_
  rintro e w1 ⟨rfl, hb⟩
  have hb1 := hb.alloc hb.size (.cells #[.int .i64 kd, .int .i64 zm, .int .i64 zs, .string r] 25)
  have HB1 := Lib.hid hb1
  have HW := Lib.hid (Whole.made w1 25 #[.int .i64 kd, .int .i64 zm, .int .i64 zs, .string r])
  have q1 := HW.out.reads
  have l1 := HW.out.lt
  clear hb hb1
  go_wp2_with fail
  refine (HP.out _ (HE.out.below HB1.out)).mono ?_
  rintro e w2 ⟨rfl, hb⟩
  have HB2 := Lib.hid (HB1.out.trans (hb.mono HB1.out.size))
  have HW2 := Lib.hid (HW.out.here hb)
  have HO := Lib.hid (own_lit w2 [] (by decide))
  have HBA := Lib.hid (HB2.out.alloc HB2.out.size (.cells (bvs []).toArray 5))
  have HYK := Lib.hid (HTK.out _ _ (HY.out.below HBA.out))
  clear hb q1 l1
  cases A with
  | none =>
    obtain rfl : c = 0 := hA rfl
    obtain rfl : n = 0 := by omega
    obtain rfl : k = 0 := by omega
    go_wp2_with (at_builtin; refine app_bytes rfl _ _ rfl w2.heap.size _ 0 [] rfl HO.out _ 0 0 (bs.take 0) rfl HYK.out (fun _ => rfl) (by omega) (by simp) ?_)
    intro v3 w3 hown hg
    have h3 : w3.ownsRow w2.heap.size 5 1 v3 0 (bvs (bs.take 0)) := by simpa [bvs] using hown
    obtain ⟨a3, c3, rfl⟩ := own_slice h3
    have HO3 := Lib.hid h3
    have HB3 := Lib.hid (((Below.refl w2.heap.size w2).alloc (Nat.le_refl _) _).grown hg (by simp) (fun j e => (own_lt HO.out e).1))
    have s3 := HB3.out.size
    clear hown hg h3
    go_wp2_with (at_builtin; refine wpList_append_own _ rfl _ _ 30 rfl w2.heap.size 5 i0 (.int .u8 0) 1 1 Tryd.underlying30 hi hz0 hz1 hz2 rfl (by decide) _ _ _ rfl (HO3.out.alloc _) ⟨w3.heap.size, 0, none⟩ 1 1 [.int .u8 32] rfl rfl ?ca1 ?ca2 ?ca3 ?ca4 ?ca5 ?_)
    case ca1 => exact cell_one_new _ _ _
    case ca2 => simp [Value.oneCell']
    case ca3 => unfold maxLen; omega
    case ca4 => omega
    case ca5 => first | omega | (simp; omega)
    intro v4 w4 hown hg _
    have h4 : w4.ownsRow w2.heap.size 5 1 v4 (0 + 1) (bvs (bs.take 0 ++ [32])) := by simpa [bvs] using hown
    obtain ⟨a4, c4, rfl⟩ := own_slice h4
    have HO4 := Lib.hid h4
    have HB4 := Lib.hid (own_step1 HO3.out HB3.out HB3.out.size hg)
    have s4 := HB4.out.size
    have HY4 := Lib.hid ((HY'.out.below HB2.out).below HB4.out)
    clear hown hg h4
    go_wp2_with (at_builtin; refine app_bytes rfl _ _ rfl w2.heap.size _ (0 + 1) _ rfl HO4.out A' m c' ms rfl HY4.out hA' (by omega) s4 ?_)
    intro v5 w5 hown hg
    have h5 : w5.ownsRow w2.heap.size 5 1 v5 (0 + 1 + m) (bvs (bs.take 0 ++ [32] ++ ms)) := by simpa [bvs] using hown
    obtain ⟨a5, c5, rfl⟩ := own_slice h5
    have hb5 := HB4.out.grown hg s4 (fun j e => (own_lt HO4.out e).1)
    have HY5 := Lib.hid (own_bytes h5 (fun b hb => by
      rcases List.mem_append.1 hb with hb | hb
      · rcases List.mem_append.1 hb with hb | hb
        · exact HY.out.byte b (List.mem_of_mem_take hb)
        · rw [List.mem_singleton.1 hb]; decide
      · exact HY'.out.byte b hb))
    have HW5 := Lib.hid (HW2.out.here hb5)
    have HB5 := Lib.hid (HB2.out.trans (hb5.mono HB2.out.size))
    clear hown hg h5 hb5
    go_wp2_with fail
    refine (next_cat N2.out (v := .agg #[.int .i64 k2, .int .i64 m2, .int .i64 s2, .string (strB x2)]) (by rfl) _ _ _ _ HY5.out (HE.out.below HB5.out).1 (by omega)).mono ?_
    rintro e w6 ⟨rfl, hb⟩
    have HB6 := Lib.hid ((HB5.out.trans (hb.mono HB5.out.size)).alloc (HB5.out.trans (hb.mono HB5.out.size)).size (.cells #[.int .i64 k2, .int .i64 m2, .int .i64 s2, .string (strB x2)] 25))
    have HW6 := Lib.hid ((HW5.out.here hb).old (.cells #[.int .i64 k2, .int .i64 m2, .int .i64 s2, .string (strB x2)] 25))
    have HV6 := Lib.hid (Whole.made w6 25 #[.int .i64 k2, .int .i64 m2, .int .i64 s2, .string (strB x2)])
    have q1 := (HW5.out.here hb).reads
    have l1 := (HW5.out.here hb).lt
    clear hb
    go_wp2_with fail
    refine (awake_any _ (HE.out.below HB6.out)).mono ?_
    rintro e w7 ⟨rfl, hb⟩
    have HB7 := Lib.hid (HB6.out.trans (hb.mono HB6.out.size))
    have q2 := (HW6.out.here hb).reads
    have l2 := (HW6.out.here hb).lt
    have qv := (HV6.out.here hb).reads
    have lv := (HV6.out.here hb).lt
    clear hb q1 l1
    go_wp2_with fail
    go_ret
    exact ⟨rfl, HB7.out⟩
  | some a =>
    have g1 : (k : Int) ≤ (c : Int) := by omega
    have g2 : decide ((k : Int) ≤ (c : Int)) = true := decide_eq_true g1
    go_wp2_with (at_builtin; refine app_bytes rfl _ _ rfl w2.heap.size _ 0 [] rfl HO.out _ k c (bs.take k) rfl HYK.out (fun h => by cases h) (by omega) (by simp) ?_)
    intro v3 w3 hown hg
    have h3 : w3.ownsRow w2.heap.size 5 1 v3 k (bvs (bs.take k)) := by simpa [bvs] using hown
    obtain ⟨a3, c3, rfl⟩ := own_slice h3
    have HO3 := Lib.hid h3
    have HB3 := Lib.hid (((Below.refl w2.heap.size w2).alloc (Nat.le_refl _) _).grown hg (by simp) (fun j e => (own_lt HO.out e).1))
    have s3 := HB3.out.size
    clear hown hg h3
    go_wp2_with (at_builtin; refine wpList_append_own _ rfl _ _ 30 rfl w2.heap.size 5 i0 (.int .u8 0) 1 1 Tryd.underlying30 hi hz0 hz1 hz2 rfl (by decide) _ _ _ rfl (HO3.out.alloc _) ⟨w3.heap.size, 0, none⟩ 1 1 [.int .u8 32] rfl rfl ?ca1 ?ca2 ?ca3 ?ca4 ?ca5 ?_)
    case ca1 => exact cell_one_new _ _ _
    case ca2 => simp [Value.oneCell']
    case ca3 => unfold maxLen; omega
    case ca4 => omega
    case ca5 => first | omega | (simp; omega)
    intro v4 w4 hown hg _
    have h4 : w4.ownsRow w2.heap.size 5 1 v4 (k + 1) (bvs (bs.take k ++ [32])) := by simpa [bvs] using hown
    obtain ⟨a4, c4, rfl⟩ := own_slice h4
    have HO4 := Lib.hid h4
    have HB4 := Lib.hid (own_step1 HO3.out HB3.out HB3.out.size hg)
    have s4 := HB4.out.size
    have HY4 := Lib.hid ((HY'.out.below HB2.out).below HB4.out)
    clear hown hg h4
    go_wp2_with (at_builtin; refine app_bytes rfl _ _ rfl w2.heap.size _ (k + 1) _ rfl HO4.out A' m c' ms rfl HY4.out hA' (by omega) s4 ?_)
    intro v5 w5 hown hg
    have h5 : w5.ownsRow w2.heap.size 5 1 v5 (k + 1 + m) (bvs (bs.take k ++ [32] ++ ms)) := by simpa [bvs] using hown
    obtain ⟨a5, c5, rfl⟩ := own_slice h5
    have hb5 := HB4.out.grown hg s4 (fun j e => (own_lt HO4.out e).1)
    have HY5 := Lib.hid (own_bytes h5 (fun b hb => by
      rcases List.mem_append.1 hb with hb | hb
      · rcases List.mem_append.1 hb with hb | hb
        · exact HY.out.byte b (List.mem_of_mem_take hb)
        · rw [List.mem_singleton.1 hb]; decide
      · exact HY'.out.byte b hb))
    have HW5 := Lib.hid (HW2.out.here hb5)
    have HB5 := Lib.hid (HB2.out.trans (hb5.mono HB2.out.size))
    clear hown hg h5 hb5
    go_wp2_with fail
    refine (next_cat N2.out (v := .agg #[.int .i64 k2, .int .i64 m2, .int .i64 s2, .string (strB x2)]) (by rfl) _ _ _ _ HY5.out (HE.out.below HB5.out).1 (by omega)).mono ?_
    rintro e w6 ⟨rfl, hb⟩
    have HB6 := Lib.hid ((HB5.out.trans (hb.mono HB5.out.size)).alloc (HB5.out.trans (hb.mono HB5.out.size)).size (.cells #[.int .i64 k2, .int .i64 m2, .int .i64 s2, .string (strB x2)] 25))
    have HW6 := Lib.hid ((HW5.out.here hb).old (.cells #[.int .i64 k2, .int .i64 m2, .int .i64 s2, .string (strB x2)] 25))
    have HV6 := Lib.hid (Whole.made w6 25 #[.int .i64 k2, .int .i64 m2, .int .i64 s2, .string (strB x2)])
    have q1 := (HW5.out.here hb).reads
    have l1 := (HW5.out.here hb).lt
    clear hb
    go_wp2_with fail
    refine (awake_any _ (HE.out.below HB6.out)).mono ?_
    rintro e w7 ⟨rfl, hb⟩
    have HB7 := Lib.hid (HB6.out.trans (hb.mono HB6.out.size))
    have q2 := (HW6.out.here hb).reads
    have l2 := (HW6.out.here hb).lt
    have qv := (HV6.out.here hb).reads
    have lv := (HV6.out.here hb).lt
    clear hb q1 l1
    go_wp2_with fail
    go_ret
    exact ⟨rfl, HB7.out⟩
set_option maxRecDepth 100000 in
set_option maxHeartbeats 16000000 in
theorem on_tok (A : Option Addr) (n c : Nat) (bs : List Nat) (hA : A = none → c = 0) (i : Nat) (A' : Option Addr) (m c' : Nat) (ms : List Nat) (hA' : A' = none → c' = 0) (w : World) (hl : n ≤ 500) (hm : m ≤ 100) (h : Bytes w A n c bs) (h' : Bytes w A' m c' ms) (hE : Env w)
    (kd zm zs : Int) (r : ByteArray) (y : ByteArray) (k : Nat) (hk : ¬ kd = 0) (hn : nextI bs i = (0, ⟨kd, zm, zs, natsOf r⟩, (k : Int))) (hik : i ≤ k) (hkn : k ≤ n) (hne : ¬ i = k)
    (hp : ∀ w, Env w → Calls Tryd.prog 6 #[.agg #[.int .i64 kd, .int .i64 zm, .int .i64 zs, .string r]] w fun e' w' => e' = .returned (.tuple #[.string y, .int .i64 0]) ∧ Below w.heap.size w w')
    (e2 p2 : Int) (t2 : TokV) (hn2 : nextI (bs.take k ++ [32] ++ ms) i = (e2, t2, p2)) (h2 : e2 = 0 ∧ t2 = ⟨kd, zm, zs, natsOf r⟩ ∧ p2 = (k : Int)) :
    Calls Tryd.prog 4 #[.slice A n c, .int .i64 (i : Int), .slice A' m c'] w (True_ w) := by
  have d1 : decide ((500 : Int) < (n : Int)) = false := decide_eq_false (by omega)
  have d2 : decide ((100 : Int) < (m : Int)) = false := decide_eq_false (by omega)
  have d3 : decide ((k : Int) < (i : Int)) = false := decide_eq_false (by omega)
  have d4 : decide ((n : Int) < (k : Int)) = false := decide_eq_false (by omega)
  have d5 : (kd == 0) = false := by simpa using hk
  have d6 : (kd != 0) = true := by simpa using hk
  have d7 : ((k : Int) == (i : Int)) = false := by simp; omega
  have HY := Lib.hid h
  have HY' := Lib.hid h'
  have HE := Lib.hid hE
  have N1 := Lib.hid hn
  have N2 := Lib.hid hn2
  have HP := Lib.hid hp
  have HC := h.cap
  have HTK := Lib.hid (fun (W : World) (a : Option Addr) (q : Bytes W a n c bs) => (⟨by rw [List.length_take, q.len]; omega, by omega, q.top, fun b hb => q.byte b (List.mem_of_mem_take hb), fun hk0 => by
    obtain ⟨R, o, e, hR, hc⟩ := q.at_ (by omega)
    exact ⟨R, o, e, hR, fun j b hj => hc j b (by rw [List.getElem?_take] at hj; split at hj <;> simp_all)⟩⟩ : Bytes W a k c (bs.take k)))
  obtain ⟨rfl, rfl, rfl⟩ := h2
  clear h h' hE hn hn2 hp hk
  obtain ⟨i0, hi, hz0, hz1, hz2⟩ := info_parts info8

  go_enter Tryd.func4, Tryd.ntmps4
  go_wp2_with fail
  refine (next_cat N1.out (tok_val kd zm zs r) _ _ _ _ HY.out HE.out.1 (by omega)).mono ?_
  rintro e w1 ⟨rfl, hb⟩
  have hb1 := hb.alloc hb.size (.cells #[.int .i64 kd, .int .i64 zm, .int .i64 zs, .string r] 25)
  have HB1 := Lib.hid hb1
  have HW := Lib.hid (Whole.made w1 25 #[.int .i64 kd, .int .i64 zm, .int .i64 zs, .string r])
  have q1 := HW.out.reads
  have l1 := HW.out.lt
  clear hb hb1
  go_wp2_with fail
  refine (HP.out _ (HE.out.below HB1.out)).mono ?_
  rintro e w2 ⟨rfl, hb⟩
  have HB2 := Lib.hid (HB1.out.trans (hb.mono HB1.out.size))
  have HW2 := Lib.hid (HW.out.here hb)
  have HO := Lib.hid (own_lit w2 [] (by decide))
  have HBA := Lib.hid (HB2.out.alloc HB2.out.size (.cells (bvs []).toArray 5))
  have HYK := Lib.hid (HTK.out _ _ (HY.out.below HBA.out))
  clear hb q1 l1
  cases A with
  | none =>
    exfalso
    have := hA rfl
    omega
  | some a =>
    have g1 : (k : Int) ≤ (c : Int) := by omega
    have g2 : decide ((k : Int) ≤ (c : Int)) = true := decide_eq_true g1
    go_wp2_with (at_builtin; refine app_bytes rfl _ _ rfl w2.heap.size _ 0 [] rfl HO.out _ k c (bs.take k) rfl HYK.out (fun h => by cases h) (by omega) (by simp) ?_)
    intro v3 w3 hown hg
    have h3 : w3.ownsRow w2.heap.size 5 1 v3 k (bvs (bs.take k)) := by simpa [bvs] using hown
    obtain ⟨a3, c3, rfl⟩ := own_slice h3
    have HO3 := Lib.hid h3
    have HB3 := Lib.hid (((Below.refl w2.heap.size w2).alloc (Nat.le_refl _) _).grown hg (by simp) (fun j e => (own_lt HO.out e).1))
    have s3 := HB3.out.size
    clear hown hg h3
    go_wp2_with (at_builtin; refine wpList_append_own _ rfl _ _ 30 rfl w2.heap.size 5 i0 (.int .u8 0) 1 1 Tryd.underlying30 hi hz0 hz1 hz2 rfl (by decide) _ _ _ rfl (HO3.out.alloc _) ⟨w3.heap.size, 0, none⟩ 1 1 [.int .u8 32] rfl rfl ?ca1 ?ca2 ?ca3 ?ca4 ?ca5 ?_)
    case ca1 => exact cell_one_new _ _ _
    case ca2 => simp [Value.oneCell']
    case ca3 => unfold maxLen; omega
    case ca4 => omega
    case ca5 => first | omega | (simp; omega)
    intro v4 w4 hown hg _
    have h4 : w4.ownsRow w2.heap.size 5 1 v4 (k + 1) (bvs (bs.take k ++ [32])) := by simpa [bvs] using hown
    obtain ⟨a4, c4, rfl⟩ := own_slice h4
    have HO4 := Lib.hid h4
    have HB4 := Lib.hid (own_step1 HO3.out HB3.out HB3.out.size hg)
    have s4 := HB4.out.size
    have HY4 := Lib.hid ((HY'.out.below HB2.out).below HB4.out)
    clear hown hg h4
    go_wp2_with (at_builtin; refine app_bytes rfl _ _ rfl w2.heap.size _ (k + 1) _ rfl HO4.out A' m c' ms rfl HY4.out hA' (by omega) s4 ?_)
    intro v5 w5 hown hg
    have h5 : w5.ownsRow w2.heap.size 5 1 v5 (k + 1 + m) (bvs (bs.take k ++ [32] ++ ms)) := by simpa [bvs] using hown
    obtain ⟨a5, c5, rfl⟩ := own_slice h5
    have hb5 := HB4.out.grown hg s4 (fun j e => (own_lt HO4.out e).1)
    have HY5 := Lib.hid (own_bytes h5 (fun b hb => by
      rcases List.mem_append.1 hb with hb | hb
      · rcases List.mem_append.1 hb with hb | hb
        · exact HY.out.byte b (List.mem_of_mem_take hb)
        · rw [List.mem_singleton.1 hb]; decide
      · exact HY'.out.byte b hb))
    have HW5 := Lib.hid (HW2.out.here hb5)
    have HB5 := Lib.hid (HB2.out.trans (hb5.mono HB2.out.size))
    clear hown hg h5 hb5
    go_wp2_with fail
    refine (next_cat N2.out (v := .agg #[.int .i64 kd, .int .i64 zm, .int .i64 zs, .string r]) (tok_val kd zm zs r) _ _ _ _ HY5.out (HE.out.below HB5.out).1 (by omega)).mono ?_
    rintro e w6 ⟨rfl, hb⟩
    have HB6 := Lib.hid ((HB5.out.trans (hb.mono HB5.out.size)).alloc (HB5.out.trans (hb.mono HB5.out.size)).size (.cells #[.int .i64 kd, .int .i64 zm, .int .i64 zs, .string r] 25))
    have HW6 := Lib.hid ((HW5.out.here hb).old (.cells #[.int .i64 kd, .int .i64 zm, .int .i64 zs, .string r] 25))
    have HV6 := Lib.hid (Whole.made w6 25 #[.int .i64 kd, .int .i64 zm, .int .i64 zs, .string r])
    have q1 := (HW5.out.here hb).reads
    have l1 := (HW5.out.here hb).lt
    clear hb
    go_wp2_with fail
    refine (awake_any _ (HE.out.below HB6.out)).mono ?_
    rintro e w7 ⟨rfl, hb⟩
    have HB7 := Lib.hid (HB6.out.trans (hb.mono HB6.out.size))
    have q2 := (HW6.out.here hb).reads
    have l2 := (HW6.out.here hb).lt
    have qv := (HV6.out.here hb).reads
    have lv := (HV6.out.here hb).lt
    clear hb q1 l1
    go_wp2_with fail
    go_ret
    exact ⟨rfl, HB7.out⟩
end Go.Proofs.YtdiaijdobglaaaaDoor
