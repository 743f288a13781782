/- InflateRest, walked. -/
import Derived.Test.YtdoliloiagfagaaDoorInfY
import Derived.Test.YtdoliloiagfagaaDoorInfR
import Derived.Laws.AppendOwnNone
namespace Go.Proofs.YtdoliloiagfagaaDoor
open Go.RowKit

theorem grown_refl (w : World) (row : Option Nat) : w.grownBy w row := ⟨rfl, rfl, rfl, Nat.le_refl _, fun _ _ _ => rfl⟩
set_option maxRecDepth 100000 in
/-- Bytes appended to a row of one's own. -/
theorem app_bytes {w : World} {ops : Array Oper} {rest : List Oper} {o : Oper} {a : Act} {Q : Exit → Act → World → Prop} (hgd : o.guard = none) (s x : Operand)
    (ho : o.op = .call { callee := .builtin .append, args := #[s, x], argTypes := #[23, 23] }) (base : Nat)
    (v : Value) (n : Nat) (xs : List Value) (hs : a.eval s = v) (hown : w.ownsRow base 5 1 v n xs) (A : Option Addr) (m c : Nat) (bs : List Nat) (hx : a.eval x = .slice A m c) (hb : Bytes w A m c bs) (hnil : A = none → c = 0)
    (h63 : n + m ≤ 1000000) (hbase : base ≤ w.heap.size)
    (h : ∀ v' w', w'.ownsRow base 5 1 v' (n + m) (xs ++ bvs bs) → w.grownBy w' v.ownBlock → wpList Tryd.prog ops Q rest (a.put o.dst v') w') : wpList Tryd.prog ops Q (o :: rest) a w := by
  obtain ⟨i0, hi, hz0, hz1, hz2⟩ := info_u8
  cases A with
  | none =>
    obtain rfl := hnil rfl
    obtain rfl : m = 0 := by have := hb.cap; omega
    obtain rfl : bs = [] := List.eq_nil_of_length_eq_zero hb.len
    refine wpList_append_own_none hgd s x 23 ho base 5 i0 1 Tryd.underlying23 hi v n xs hs hown hx (h v w ?_ (grown_refl _ _))
    simpa [bvs] using hown
  | some ad =>
    refine wpList_append_own w hgd s x 23 ho base 5 i0 (.int .u8 0) 1 1 Tryd.underlying23 hi hz0 hz1 hz2 rfl (by decide) v n xs hs hown ad m c (bvs bs) hx (by rw [bvs_length, hb.len]; omega) ?_ (bvs_one bs) (by unfold maxLen; omega) (by omega) hbase (fun v' w' h1 h2 _ => h v' w' h1 h2)
    intro j u hj
    by_cases hm : m = 0
    · have : bs = [] := List.eq_nil_of_length_eq_zero (by rw [hb.len, hm])
      rw [this] at hj
      simp [bvs] at hj
    · obtain ⟨R, o', e, hR, hc⟩ := hb.at_ (by omega)
      injection e with e
      subst e
      obtain ⟨b, hbj, rfl⟩ := bvs_at hj
      rw [gaddr_add (a := ⟨R, o', none⟩) rfl]
      exact hc j b hbj
/-- What Inflate answers, in one. -/
def InfG (bs : List Nat) (most : Int) (w : World) (e : Ending) (w' : World) : Prop :=
  ∃ (A : Option Addr) (c : Nat) (x : List Nat) (used : Nat) (E : Int), e = .returned (.tuple #[.slice A x.length c, .int .i64 (used : Int), .int .i64 E]) ∧ Bytes w' A x.length c x ∧ Below w.heap.size w w' ∧
    ((E = 0 ∧ inflP bs most = .ok (x, used) ∧ (x.length : Int) ≤ most ∧ used ≤ bs.length) ∨ (E ≠ 0 ∧ x = [] ∧ used = 0 ∧ inflP bs most = .error E))
theorem inf_gen (A : Option Addr) (n c : Nat) (bs : List Nat) (most : Int) (w : World) (h : Bytes w A n c bs) (hn : n ≤ 100000000) (hE : Env w) :
    Calls Tryd.prog 12 #[.slice A n c, .int .i64 most] w (InfG bs most w) := by
  refine (inflate_any A n c bs most w h hn hE).mono ?_
  rintro e w' (⟨x, used, A1, c1, hp, rfl, hby, hm, hu, hb⟩ | ⟨E, hp, hE, rfl, hb⟩)
  · exact ⟨A1, c1, x, used, 0, rfl, hby, hb, .inl ⟨rfl, hp, hm, hu⟩⟩
  · exact ⟨none, 0, [], 0, E, rfl, ⟨rfl, Nat.le_refl _, by omega, by simp, fun h => absurd h (by simp)⟩, hb, .inr ⟨hE, rfl, rfl, hp⟩⟩
theorem own_empty2 {w : World} {g base : Nat} {e : TypeId} {size : Nat} (h : Whole w g e #[]) (hb : base ≤ g) : w.ownsRow base e size (.slice (some ⟨g, 0, none⟩) 0 0) 0 [] :=
  ⟨by simp, .inr ⟨g, 0, #[], rfl, hb, h, Nat.le_refl _, by unfold maxLen; omega, by simp, by simp⟩⟩
theorem str_same2 (s : ByteArray) : (s.toList == s.toList) = true := by simp
theorem ne_same (s : ByteArray) : (!(s.toList == s.toList)) = false := by simp
set_option maxRecDepth 100000 in
set_option maxHeartbeats 4000000 in
theorem rest_law (A : Option Addr) (n c : Nat) (bs : List Nat) (A1 : Option Addr) (n1 c1 : Nat) (rs : List Nat) (most more : Int) (w : World) (h : Bytes w A n c bs) (hnil : A = none → c = 0) (h1 : Bytes w A1 n1 c1 rs) (hnil1 : A1 = none → c1 = 0) (hE : Env w) :
    Calls Tryd.prog 4 #[.slice A n c, .slice A1 n1 c1, .int .i64 most, .int .i64 more] w (True_ w) := by
  have hl := h.len
  have hl1 := h1.len
  have H0 := Lib.hid (And.intro h h1)
  have HN := Lib.hid (And.intro hnil hnil1)
  have HE := Lib.hid hE
  clear h h1 hnil hnil1 hE
  go_enter Tryd.func4, Tryd.ntmps4
  by_cases g0 : 2000 < n
  · have d0 : decide ((n : Int) > 2000) = true := decide_eq_true (by omega)
    go_wp2_with fail
    go_ret
    exact ⟨rfl, Below.refl _ _⟩
  have d0 : decide ((n : Int) > 2000) = false := decide_eq_false (by omega)
  by_cases g1 : 200 < n1
  · have d1 : decide ((n1 : Int) > 200) = true := decide_eq_true (by omega)
    go_wp2_with fail
    go_ret
    exact ⟨rfl, Below.refl _ _⟩
  have d1 : decide ((n1 : Int) > 200) = false := decide_eq_false (by omega)
  by_cases g2 : most < 0
  · have d2 : decide (most < 0) = true := decide_eq_true (by omega)
    go_wp2_with fail
    go_ret
    exact ⟨rfl, Below.refl _ _⟩
  have d2 : decide (most < 0) = false := decide_eq_false (by omega)
  by_cases g3 : 5000 < most
  · have d3 : decide (most > 5000) = true := decide_eq_true (by omega)
    go_wp2_with fail
    go_ret
    exact ⟨rfl, Below.refl _ _⟩
  have d3 : decide (most > 5000) = false := decide_eq_false (by omega)
  by_cases g4 : more < 0
  · have d4 : decide (more < 0) = true := decide_eq_true (by omega)
    go_wp2_with fail
    go_ret
    exact ⟨rfl, Below.refl _ _⟩
  have d4 : decide (more < 0) = false := decide_eq_false (by omega)
  by_cases g5 : 5000 < more
  · have d5 : decide (more > 5000) = true := decide_eq_true (by omega)
    go_wp2_with fail
    go_ret
    exact ⟨rfl, Below.refl _ _⟩
  have d5 : decide (more > 5000) = false := decide_eq_false (by omega)
  have ewm : IntKind.i64.wrap (most + more) = most + more := by rw [IntKind.wrap_i64]; omega
  go_wp2_with fail
  refine (inf_gen A n c bs most w H0.out.1 (by omega) HE.out).mono ?_
  rintro e w1 ⟨X1, k1, x1, u1, E1, rfl, hby1, hb, hv1⟩
  have HV1 := Lib.hid hv1
  have HX1 := Lib.hid hby1
  have HB1 := Lib.hid hb
  clear hv1 hby1
  obtain ⟨wE, hwE⟩ : ∃ wE, w1.alloc (.cells #[] 5) = wE := ⟨_, rfl⟩
  have hbE : Below w1.heap.size w1 wE := by rw [← hwE]; exact (Below.refl _ _).alloc (Nat.le_refl _) _
  have HOE := Lib.hid (own_empty2 (size := 1) (show Whole wE w1.heap.size 5 #[] by rw [← hwE]; exact Whole.made _ _ _) (Nat.le_refl w1.heap.size))
  have HBE := Lib.hid hbE
  have hszE := hbE.size
  have HYE := Lib.hid ((H0.out.1.below hb).below hbE)
  clear hb hbE
  go_wp2_with (at_builtin; refine app_bytes rfl _ _ rfl w1.heap.size _ 0 [] rfl HOE.out A n c bs rfl HYE.out HN.out.1 (by omega) hszE ?_)
  intro v2 w2 hown2 hgr2
  have hb2 : Below w1.heap.size w1 w2 := HBE.out.grown hgr2 hszE (fun j e => (own_lt HOE.out e).1)
  have HO2 := Lib.hid hown2
  have HB2 := Lib.hid hb2
  have hsz2 := hb2.size
  have HY2 := Lib.hid ((H0.out.2.below HB1.out).below hb2)
  clear hown2 hgr2 hb2
  go_wp2_with (at_builtin; refine app_bytes rfl _ _ rfl w1.heap.size v2 n (bvs bs) rfl HO2.out A1 n1 c1 rs rfl HY2.out HN.out.2 (by omega) hsz2 ?_)
  intro v3 w3 hown3 hgr3
  have hb3 : Below w1.heap.size w1 w3 := HB2.out.grown hgr3 hsz2 (fun j e => (own_lt HO2.out e).1)
  have hown4 : w3.ownsRow w1.heap.size 5 1 v3 (n + n1) (bvs (bs ++ rs)) := by
    rw [bvs_append]
    exact hown3
  obtain ⟨A3, c3, R3, rfl, -, -, h8⟩ := Row8.of_own hown4 (fun b hb => by
    rcases List.mem_append.1 hb with hb | hb
    · exact H0.out.1.byte b hb
    · exact H0.out.2.byte b hb)
  have HX3 := Lib.hid (And.intro h8.bytes (And.intro (HX1.out.below hb3) (And.intro (HB1.out.trans (hb3.mono HB1.out.size)) (H0.out.1.below (HB1.out.trans (hb3.mono HB1.out.size))))))
  clear hown3 hgr3 hb3 hown4 h8
  go_wp2_with fail
  refine (inf_gen A3 (n + n1) c3 (bs ++ rs) most w3 HX3.out.1 (by omega) (HE.out.here HX3.out.2.2.1)).mono ?_
  rintro e w4 ⟨X4, k4, x4, u4, E4, rfl, hby4, hb, hv4⟩
  have HV4 := Lib.hid hv4
  have HX4 := Lib.hid (And.intro hby4 (And.intro (HX3.out.2.1.below hb) (And.intro (HX3.out.2.2.1.trans (hb.mono HX3.out.2.2.1.size)) (HX3.out.2.2.2.below hb))))
  clear hv4 hby4 hb
  go_wp2_with fail
  refine (inf_gen A n c bs (most + more) w4 HX4.out.2.2.2 (by omega) (HE.out.here HX4.out.2.2.1)).mono ?_
  rintro e w5 ⟨X5, k5, x5, u5, E5, rfl, hby5, hb, hv5⟩
  have HV5 := Lib.hid hv5
  have HX5 := Lib.hid (And.intro hby5 (And.intro (HX4.out.1.below hb) (And.intro (HX4.out.2.1.below hb) (HX4.out.2.2.1.trans (hb.mono HX4.out.2.2.1.size)))))
  clear hv5 hby5 hb
  have HAW := Lib.hid (awake06 w5 (HE.out.here HX5.out.2.2.2))
  have hbb : ∀ b ∈ bs, b < 256 := H0.out.1.byte
  rcases HV1.out with ⟨rfl, hp1, hm1, hu1⟩ | ⟨hE1, rfl, rfl, hp1⟩
  · obtain ⟨rfl, rfl, rfl⟩ : E4 = 0 ∧ x4 = x1 ∧ u4 = u1 := by
      have hq := inflP_more rs hbb hp1
      rcases HV4.out with ⟨e1, e2, -, -⟩ | ⟨-, -, -, e2⟩
      · rw [hq] at e2
        injection e2 with e2
        injection e2 with e2 e3
        exact ⟨e1, e2.symm, e3.symm⟩
      · rw [hq] at e2; cases e2
    obtain ⟨rfl, rfl, rfl⟩ : E5 = 0 ∧ x5 = x4 ∧ u5 = u4 := by
      have hq := inflP_wide (show most ≤ most + more by omega) (by omega) hp1
      rcases HV5.out with ⟨e1, e2, -, -⟩ | ⟨-, -, -, e2⟩
      · rw [hq] at e2
        injection e2 with e2
        injection e2 with e2 e3
        exact ⟨e1, e2.symm, e3.symm⟩
      · rw [hq] at e2; cases e2
    have hs1 := HX5.out.2.2.1.str
    have hs2 := HX5.out.2.1.str
    have hs3 := HX5.out.1.str
    have e1 := ne_same (strB x5)
    have e1' := str_same2 (strB x5)
    have e2 : ((u5 : Int) != (u5 : Int)) = false := by simp
    have e3 : decide ((u5 : Int) > (n : Int)) = false := decide_eq_false (by omega)
    have e4 : decide ((x5.length : Int) > most) = false := decide_eq_false (by omega)
    clear hbb hp1
    go_wp2_with fail
    refine HAW.out.mono ?_
    rintro e w6 ⟨rfl, hb⟩
    have HB6 := Lib.hid (HX5.out.2.2.2.trans (hb.mono HX5.out.2.2.2.size))
    clear hb
    go_wp2_with fail
    go_ret
    exact ⟨rfl, HB6.out⟩
  · have f0 : (E1 == 0) = false := by simp [hE1]
    by_cases h4 : E1 = 4
    · subst h4
      obtain rfl : E4 = 4 := by
        have hq := inflP_moreE rs hbb hp1 (by decide)
        rcases HV4.out with ⟨-, e2, -, -⟩ | ⟨-, -, -, e2⟩
        · rw [hq] at e2; cases e2
        · rw [hq] at e2; injection e2 with e2; exact e2.symm
      obtain rfl : E5 = 4 := by
        have hq := inflP_wideE (show most ≤ most + more by omega) (by omega) hp1
        rcases HV5.out with ⟨-, e2, -, -⟩ | ⟨-, -, -, e2⟩
        · rw [hq] at e2; cases e2
        · rw [hq] at e2; injection e2 with e2; exact e2.symm
      clear hbb hp1
      go_wp2_with fail
      refine HAW.out.mono ?_
      rintro e w6 ⟨rfl, hb⟩
      have HB6 := Lib.hid (HX5.out.2.2.2.trans (hb.mono HX5.out.2.2.2.size))
      clear hb
      go_wp2_with fail
      go_ret
      exact ⟨rfl, HB6.out⟩
    · have f4 : (E1 == 4) = false := by simp [h4]
      by_cases h2 : E1 = 2
      · subst h2
        obtain rfl : E4 = 2 := by
          have hq := inflP_moreE rs hbb hp1 (by decide)
          rcases HV4.out with ⟨-, e2, -, -⟩ | ⟨-, -, -, e2⟩
          · rw [hq] at e2; cases e2
          · rw [hq] at e2; injection e2 with e2; exact e2.symm
        clear hbb hp1
        go_wp2_with fail
        refine HAW.out.mono ?_
        rintro e w6 ⟨rfl, hb⟩
        have HB6 := Lib.hid (HX5.out.2.2.2.trans (hb.mono HX5.out.2.2.2.size))
        clear hb
        go_wp2_with fail
        go_ret
        exact ⟨rfl, HB6.out⟩
      · have f2 : (E1 == 2) = false := by simp [h2]
        clear hbb hp1
        go_wp2_with fail
        refine HAW.out.mono ?_
        rintro e w6 ⟨rfl, hb⟩
        have HB6 := Lib.hid (HX5.out.2.2.2.trans (hb.mono HX5.out.2.2.2.size))
        clear hb
        go_wp2_with fail
        go_ret
        exact ⟨rfl, HB6.out⟩
end Go.Proofs.YtdoliloiagfagaaDoor
