/- cut: where boxes may be, a text is found in what is left: pure. -/
import Derived.Test.YtdlmhienolmncaaCutY
import Derived.Test.YtdlmhienolmncaaTree
import Derived.Test.YtdlmhienolmncaaRows
import Derived.WalkKit
import Derived.Laws.StructEq
import Derived.Deep.QuietTactic
namespace Go.Proofs.Ytdlmhienolmncaa
open Go.RowKit Dec

theorem boxGo_some (t_ : Nat) : ∀ (ps : List Pc) (b : BV), b.Ok → (∀ p ∈ ps, p.box.Ok) → ∃ r, boxGo t_ b ps = some r
  | [], b, _, _ => ⟨b, rfl⟩
  | p :: ps, b, hb, h => by
    have hp := h p (by simp)
    have hr : ∀ q ∈ ps, q.box.Ok := fun q hq => h q (by simp [hq])
    by_cases h1 : t_ ≤ p.fin - p.text.size
    · exact ⟨b, boxGo_break h1⟩
    · by_cases hz : p.text.size = 0
      · rw [boxGo_skip h1 hz]
        exact boxGo_some t_ ps b hb hr
      · rw [boxGo_join h1 hz ⟨hb, hp⟩]
        exact boxGo_some t_ ps _ (joinB_ok hb hp) hr
theorem around_some {ps : List Pc} {t_ : Nat} (hne : ps ≠ []) (h : ∀ p ∈ ps, p.box.Ok) : ∃ r, aroundP ps t_ = some r := by
  cases ps with
  | nil => exact absurd rfl hne
  | cons p ps => exact boxGo_some t_ (p :: ps) p.box (h p (by simp)) h
theorem behind_mem {ps : List Pc} {k : Nat} {p : Pc} (h : p ∈ behindP ps k) : p ∈ ps := (List.dropWhile_sublist _).subset h
theorem findP_some {fs : List Nm} {l : List Mk} {t : List UInt8} (ht : t ≠ []) (h : ∀ p ∈ pcs fs l, p.box.Ok) : ∀ (f a : Nat), ∃ r, findP (pcs fs l) t f a = some r
  | 0, a => ⟨[], rfl⟩
  | f + 1, a => by
    by_cases hi : Lib.index ((allT (pcs fs l)).drop a) t < 0
    · exact ⟨[], findP_none hi⟩
    · obtain ⟨i, hi⟩ : ∃ i : Nat, Lib.index ((allT (pcs fs l)).drop a) t = (i : Int) := ⟨(Lib.index ((allT (pcs fs l)).drop a) t).toNat, by omega⟩
      have hr := index_room ht i hi
      rw [List.length_drop] at hr
      have ht1 : 0 < t.length := by cases t with
        | nil => exact absurd rfl ht
        | cons => simp
      obtain ⟨b, hb⟩ := around_some (t_ := a + i + t.length) ((behind_has (pcs fs l) (a + i)).2 (pcs_has (by omega))) (fun p hp => h p (behind_mem hp))
      rw [findP_step hi hb]
      obtain ⟨r, hr⟩ := findP_some ht h f (a + i + t.length)
      exact ⟨b :: r, by rw [hr]; rfl⟩
theorem pcsFrom_box : ∀ (e : Nat) (L : List (ByteArray × BV)) (p : Pc), p ∈ pcsFrom e L → ∃ q ∈ L, q.2 = p.box
  | _, [], p, h => by cases h
  | e, (t, b) :: L, p, h => by
    rw [pcsFrom, List.mem_cons] at h
    rcases h with rfl | h
    · exact ⟨(t, b), by simp, rfl⟩
    · obtain ⟨q, hq, he⟩ := pcsFrom_box _ L p h
      exact ⟨q, by simp [hq], he⟩
theorem pcs_box {fs : List Nm} {l : List Mk} (h : ∀ x ∈ l, x.box.Ok) : ∀ p ∈ pcs fs l, p.box.Ok := by
  intro p hp
  obtain ⟨q, hq, he⟩ := pcsFrom_box _ _ p hp
  unfold txOf at hq
  obtain ⟨x, hx, rfl⟩ := List.mem_map.1 hq
  rw [← he]
  exact h x (List.mem_filter.1 hx).1
theorem findE_zero {fs : List Nm} {l : List Mk} {t : ByteArray} (h : findE fs l t = 0) : ¬ t.size = 0 ∧ knownB fs l = true ∧ l.all (txB fs) = true := by
  unfold findE at h
  split at h
  · cases h
  · rename_i hz
    refine ⟨hz, ?_⟩
    split at h
    · rename_i hr
      unfold readE at hr
      split at hr
      · rename_i hk
        split at hr
        · exact ⟨hk, by assumption⟩
        · cases hr
      · cases hr
    · rename_i hr
      exact absurd h hr
theorem all_sub {α : Type} {p : α → Bool} {l m : List α} (h : l.all p = true) (hs : ∀ x ∈ m, x ∈ l) : m.all p = true := by
  rw [List.all_eq_true] at h ⊢
  exact fun x hx => h x (hs x hx)
theorem find_left {fs : List Nm} {l m : List Mk} {t : ByteArray} (h : findE fs l t = 0) (hs : ∀ x ∈ m, x ∈ l) (hb : ∀ x ∈ m, x.box.Ok) : findE fs m t = 0 := by
  obtain ⟨hz, hk, hx⟩ := findE_zero h
  unfold knownB at hk
  rw [Bool.and_eq_true] at hk
  have hk2 : knownB fs m = true := by unfold knownB; rw [hk.1, all_sub hk.2 hs]; rfl
  have hx2 := all_sub hx hs
  have ht : t.data.toList ≠ [] := fun e => hz (by rw [← size_list, e]; rfl)
  obtain ⟨r, hr⟩ := findP_some (fs := fs) (l := m) ht (pcs_box hb) ((allT (pcs fs m)).length + 1) 0
  unfold findE
  rw [if_neg hz, if_pos (read_ok hk2 hx2).1]
  unfold findO
  rw [hr]
end Go.Proofs.Ytdlmhienolmncaa
/- Two boxes are compared. -/
namespace Go.Proofs.Ytdlmhienolmncaa
open Go.RowKit Dec

set_option maxRecDepth 100000 in
theorem eq_dec_is (d : Nat) (a b c e : Int) (w : World) : (Op.equalIn (d + 1 + 1) 34 (.agg #[.int .i64 a, .int .i64 b]) (.agg #[.int .i64 c, .int .i64 e])).run Try.prog w = .ok (a == c && b == e) w := by
  rw [run_equalIn_struct w (d + 1) 34 _ _ (by kernel_rfl) (by kernel_rfl)]
  cases h1 : (a == c) <;> cases h2 : (b == e) <;> go_simp
set_option maxRecDepth 100000 in
theorem eq_box_some (x y : BV) : ∃ q : Bool, ∀ w : World, (Op.equalIn 10000 39 (.agg #[.int .i64 x.x0.m, .int .i64 x.x0.s, .int .i64 x.y0.m, .int .i64 x.y0.s, .int .i64 x.x1.m, .int .i64 x.x1.s, .int .i64 x.y1.m, .int .i64 x.y1.s]) (.agg #[.int .i64 y.x0.m, .int .i64 y.x0.s, .int .i64 y.y0.m, .int .i64 y.y0.s, .int .i64 y.x1.m, .int .i64 y.x1.s, .int .i64 y.y1.m, .int .i64 y.y1.s])).run Try.prog w = .ok q w := by
  have he := fun (a b c e : Int) (w : World) => eq_dec_is 9997 a b c e w
  refine ⟨(x.x0.m == y.x0.m && x.x0.s == y.x0.s) && ((x.y0.m == y.y0.m && x.y0.s == y.y0.s) && ((x.x1.m == y.x1.m && x.x1.s == y.x1.s) && (x.y1.m == y.y1.m && x.y1.s == y.y1.s))), fun w => ?_⟩
  rw [show (10000 : Nat) = 9997 + 1 + 1 + 1 from rfl, run_equalIn_struct w (9997 + 1 + 1) 39 _ _ (by kernel_rfl) (by kernel_rfl)]
  cases h1 : (x.x0.m == y.x0.m && x.x0.s == y.x0.s) <;> cases h2 : (x.y0.m == y.y0.m && x.y0.s == y.y0.s) <;> cases h3 : (x.x1.m == y.x1.m && x.x1.s == y.x1.s) <;> cases h4 : (x.y1.m == y.y1.m && x.y1.s == y.y1.s) <;> go_simp
end Go.Proofs.Ytdlmhienolmncaa
/- cut: CutFound, walked. -/
namespace Go.Proofs.Ytdlmhienolmncaa
open Go.RowKit Dec

theorem findP_len (ps : List Pc) (t : List UInt8) : ∀ (f a : Nat) (r : List BV), findP ps t f a = some r → r.length ≤ f
  | 0, a, r, h => by
    injection h with h
    subst h
    exact Nat.le_refl _
  | f + 1, a, r, h => by
    by_cases hi : Lib.index ((allT ps).drop a) t < 0
    · rw [findP_none hi] at h
      injection h with h
      subst h
      exact Nat.zero_le _
    · obtain ⟨i, hi⟩ : ∃ i : Nat, Lib.index ((allT ps).drop a) t = (i : Int) := ⟨(Lib.index ((allT ps).drop a) t).toNat, by omega⟩
      cases hb : aroundP (behindP ps (a + i)) (a + i + t.length) with
      | none => rw [findP_bad hi hb] at h; cases h
      | some b =>
        rw [findP_step hi hb] at h
        cases hr : findP ps t f (a + i + t.length) with
        | none => rw [hr] at h; cases h
        | some r' =>
          rw [hr] at h
          injection h with h
          subst h
          have := findP_len ps t f _ r' hr
          rw [List.length_cons]
          omega
theorem findL_small (fs : List Nm) (l : List Mk) (t : ByteArray) (hl : l.length ≤ 60) : (findL fs l t).length ≤ 10000 := by
  unfold findL
  split
  · simp
  · split
    · rename_i hz hr
      have hk : knownB fs l = true := by
        unfold readE at hr
        split at hr
        · assumption
        · cases hr
      unfold knownB at hk
      rw [Bool.and_eq_true] at hk
      have h1 := allT_len (pcs fs l) (fun p hp => (pcs_small hk.1 (by omega) p hp).1)
      have h2 := pcs_len fs l
      unfold findO
      cases hf : findP (pcs fs l) t.data.toList ((allT (pcs fs l)).length + 1) 0 with
      | none => simp
      | some r =>
        have := findP_len _ _ _ _ _ hf
        show r.length ≤ _
        omega
    · simp
def zMk : Mk := ⟨0, ⟨.zero, .zero, .zero, .zero, .zero, .zero⟩, ⟨#[]⟩, 0, ⟨none, 0, 0⟩, ⟨none, 0, 0⟩, .zero⟩
theorem setRow_whole {w : World} {g : Nat} {T : TypeId} {cs : Array Value} (cs' : Array Value) (h : Whole w g T cs) : Whole (w.setRow g cs') g T cs' := setRow_heap w g cs cs' T (0, 0) h
theorem setRow_below (w : World) {g B : Nat} (cs' : Array Value) (hB : B ≤ g) : Below B w (w.setRow g cs') := by
  refine ⟨rfl, rfl, rfl, by simp, fun k hk => ?_⟩
  simp only [World.setRow, Array.getElem?_modify]
  rw [if_neg (by omega)]
section
variable {P : Program}
theorem wpList_store_row_let {ops : Array Oper} {rest : List Oper} {o : Oper} {a : Act} {w w1 : World} {Q : Exit → Act → World → Prop} (hgd : o.guard = none) (ty : TypeId) (x y : Operand) (ho : o.op = .store ty x y) (hd : o.dst = none)
    (g : Nat) (cells : Array Value) (hx : a.eval x = .pointer (some ⟨g, 0, none⟩)) (hy : a.eval y = .agg cells)
    (t : TypeId) (old : Array Value) (hg : w.heap[g]? = some (.cells old t (0, 0))) (hi : (P.info? ty).map (·.size) = some cells.size)
    (hold : old.size = cells.size) (h1 : cells.all (·.oneCell') = true) (hw : w.setRow g cells = w1)
    (h : wpList P ops Q rest a w1) : wpList P ops Q (o :: rest) a w := by
  refine wpList_store_row hgd ty x y ho g cells hx hy t old hg hi hold h1 ?_
  rw [hw, hd]
  exact h
end
theorem stays_clear {l : List Mk} {rs : List BV} {x : Mk} {b : BV} (hl : cutB l rs = true) (h : x ∈ cutL l rs) (hk : x.kind = 1) (hb : b ∈ rs) : x.box.Ok ∧ b.Ok ∧ meetB x.box b = false := by
  rw [cutL_ok hl] at h
  obtain ⟨hx, hs⟩ := List.mem_filter.1 h
  obtain ⟨h1, h2⟩ := cut_all hl
  refine ⟨h2 x hx, h1 b hb, ?_⟩
  unfold stays imgB at hs
  rw [decide_eq_false (by omega), Bool.false_and, Bool.false_or, Bool.not_eq_true', List.any_eq_false] at hs
  have := hs b hb
  rw [meetsB_ok (h2 x hx) (h1 b hb)] at this
  simpa using this
set_option maxRecDepth 100000 in
set_option maxHeartbeats 8000000 in
theorem found_law (A : Option Addr) (n c : Nat) (l : List Mk) (A1 : Option Addr) (n1 c1 : Nat) (fs : List Nm) (t : ByteArray) (w : World) (h : MarksAt w A n c l) (h1 : NmsAt w A1 n1 c1 fs) (hM : MX w) :
    Calls Try.prog 6 #[.slice A n c, .slice A1 n1 c1, .string t] w (True_ w) := by
  have H0 := Lib.hid (And.intro h h1)
  have HMX := Lib.hid hM
  have HF := Lib.hid (few23_any A n c l none 0 0 [] A1 n1 c1 fs w h (bxs_nil w) h1)
  have HL := Lib.hid h.len
  clear h h1 hM
  go_enter Try.func6, Try.ntmps6
  go_wp2_with fail
  refine HF.out.mono ?_
  rintro e w1 ⟨r, rfl, hr, hb⟩
  have HB1 := Lib.hid hb
  have HP := Lib.hid hr
  clear hb hr HF
  cases r
  · go_wp2_with fail
    go_ret
    exact ⟨rfl, HB1.out⟩
  obtain ⟨b60, -, b10, bs⟩ := HP.out rfl
  have HS60 := Lib.hid (show ∀ f ∈ fs, f.s.n ≤ 1000000 from fun f hf => Nat.le_trans (bs f hf) (by omega))
  clear bs HP
  by_cases h300 : 300 < t.size
  · have d2 : decide ((t.size : Int) > 300) = true := decide_eq_true (by omega)
    go_wp2_with fail
    go_ret
    exact ⟨rfl, HB1.out⟩
  have d2 : decide ((t.size : Int) > 300) = false := decide_eq_false (by omega)
  have H1 := Lib.hid (And.intro (H0.out.1.below HB1.out) (H0.out.2.below HB1.out))
  have HC1 := Lib.hid (findC_any A n c l A1 n1 c1 fs t w1 H1.out.1 (by omega) H1.out.2 HS60.out (by omega) (HMX.out.later HB1.out))
  have hsm := findL_small fs l t (by rw [HL.out]; exact b60)
  obtain ⟨b, hbb⟩ : ∃ b, findL fs l t = b := ⟨_, rfl⟩
  obtain ⟨e1, he1⟩ : ∃ e, findE fs l t = e := ⟨_, rfl⟩
  unfold FindSaid at HC1
  rw [hbb, he1] at HC1
  rw [hbb] at hsm
  have HE1 := Lib.hid he1
  clear hbb he1
  go_wp2_with fail
  refine HC1.out.mono ?_
  rintro e w2 ⟨Ab, cb, rfl, hxb, hb⟩
  obtain ⟨nb, hnb⟩ : ∃ nb, b.length = nb := ⟨_, rfl⟩
  rw [hnb] at hxb hsm ⊢
  have HNB := Lib.hid hnb
  have hcapB := RowAt.cap hxb
  have htopB := RowAt.top hxb
  have H2 := Lib.hid (And.intro (H1.out.1.below hb) (And.intro (H1.out.2.below hb) (And.intro hxb (HB1.out.trans (hb.mono HB1.out.size)))))
  clear hb hxb hnb H1 HB1 HC1
  have HC2 := Lib.hid (cutM_any l b A n c Ab nb cb w2 H2.out.1 (by omega) H2.out.2.2.1 (by omega))
  have hml := cutL_len l b
  rw [HL.out] at hml
  obtain ⟨m, hmm⟩ : ∃ m, cutL l b = m := ⟨_, rfl⟩
  obtain ⟨e2, he2⟩ : ∃ e, cutE l b = e := ⟨_, rfl⟩
  unfold CutSaidM at HC2
  rw [hmm, he2] at HC2
  rw [hmm] at hml
  have HE2 := Lib.hid (And.intro hmm he2)
  clear hmm he2
  go_wp2_with fail
  refine HC2.out.mono ?_
  rintro e w3 ⟨Am, cm, rfl, hxm, hb⟩
  obtain ⟨nm, hnm⟩ : ∃ nm, m.length = nm := ⟨_, rfl⟩
  rw [hnm] at hxm hml ⊢
  have HNM := Lib.hid hnm
  have hcapM := hxm.row.cap
  have htopM := hxm.row.top
  have H3 := Lib.hid (And.intro hxm (And.intro (H2.out.2.1.below hb) (And.intro (H2.out.2.2.1.below hb) (H2.out.2.2.2.trans (hb.mono H2.out.2.2.2.size)))))
  clear hb hxm hnm H2 HC2
  by_cases z1 : e1 = 0
  case neg =>
    have q1 : (e1 == 0) = false := by simp [z1]
    clear z1
    go_wp2_with fail
    refine (awake23 _ (HMX.out.later H3.out.2.2.2)).mono ?_
    rintro e w9 ⟨rfl, hb⟩
    have H9 := Lib.hid (H3.out.2.2.2.trans (hb.mono H3.out.2.2.2.size))
    clear hb H3
    go_wp2_with fail
    go_ret
    exact ⟨rfl, H9.out⟩
  subst z1
  by_cases z2 : e2 = 0
  case neg =>
    have q1 : (e2 == 0) = false := by simp [z2]
    clear z2
    go_wp2_with fail
    refine (awake23 _ (HMX.out.later H3.out.2.2.2)).mono ?_
    rintro e w9 ⟨rfl, hb⟩
    have H9 := Lib.hid (H3.out.2.2.2.trans (hb.mono H3.out.2.2.2.size))
    clear hb H3
    go_wp2_with fail
    go_ret
    exact ⟨rfl, H9.out⟩
  subst z2
  have hcb := cut_zero.1 HE2.out.2
  have HCL := Lib.hid (fun (x : Mk) (hx : x ∈ m) (y : BV) (hk : x.kind = 1) (hy : y ∈ b) => stays_clear hcb (show x ∈ cutL l b by rw [HE2.out.1]; exact hx) hk hy)
  have HG := Lib.hid (show findE fs m t = 0 from find_left HE1.out (fun x hx => cutL_mem (show x ∈ cutL l b by rw [HE2.out.1]; exact hx)) (fun x hx => (cut_all hcb).2 x (cutL_mem (show x ∈ cutL l b by rw [HE2.out.1]; exact hx))))
  clear hcb
  have hsm2 := findL_small fs m t (by rw [HNM.out]; omega)
  have HC3 := Lib.hid (findC_any Am nm cm m A1 n1 c1 fs t w3 H3.out.1 (by omega) H3.out.2.1 HS60.out (by omega) (HMX.out.later H3.out.2.2.2))
  unfold FindSaid at HC3
  rw [HG.out] at HC3
  obtain ⟨cl, hcl⟩ : ∃ b, findL fs m t = b := ⟨_, rfl⟩
  rw [hcl] at HC3 hsm2
  clear hcl
  go_wp2_with fail
  refine HC3.out.mono ?_
  rintro e w4 ⟨Ac, cc, rfl, hxc, hb⟩
  obtain ⟨nc, hnc⟩ : ∃ nm, cl.length = nm := ⟨_, rfl⟩
  rw [hnc] at hxc hsm2 ⊢
  have HNC := Lib.hid hnc
  have hcapC := RowAt.cap hxc
  have htopC := RowAt.top hxc
  have H4 := Lib.hid (And.intro (H3.out.1.below hb) (And.intro hxc (And.intro (H3.out.2.2.1.below hb) (H3.out.2.2.2.trans (hb.mono H3.out.2.2.2.size)))))
  clear hb hxc hnc H3 HC3
  go_wp2_with fail
  go_loopw [13] (fun s13 wr => ∃ (i : Nat), i ≤ nc ∧ s13 = .int .i64 (i : Int) ∧ Hid (Below w4.heap.size w4 wr)) (fun s13 _ => nc - (intOf s13).toNat)
  case atStart => exact ⟨0, by omega, rfl, Lib.hid (Below.refl _ _)⟩
  case round =>
    obtain ⟨i, hi, rfl, HB⟩ := hrel
    by_cases hlt : i < nc
    · have d3 : decide ((i : Int) < (nc : Int)) = true := decide_eq_true (by omega)
      obtain ⟨y, hy⟩ : ∃ y, cl[i]? = some y := ⟨_, List.getElem?_eq_getElem (by rw [HNC.out]; exact hlt)⟩
      rename World => wo
      obtain ⟨v1, hv1⟩ : ∃ v1, wo.alloc (.cells (mkA zMk) 41) = v1 := ⟨_, rfl⟩
      have hw1 : Whole v1 wo.heap.size 41 (mkA zMk) := by rw [← hv1]; exact Whole.made _ _ _
      have hb1 : Below wo.heap.size wo v1 := by rw [← hv1]; exact (Below.refl _ _).alloc (Nat.le_refl _) _
      have HV1 := Lib.hid hv1
      have HW1 := Lib.hid (And.intro hw1 hb1)
      clear hw1 hb1 hv1
      go_wp2_with (refine wpList_store_let rfl _ _ _ rfl rfl _ _ (mkA zMk) HV1.out rfl rfl (szMk zMk) rfl (mkA_one zMk) ?_)
      go_loopw [15] (fun s15 ws => ∃ (k : Nat) (x : Mk), k ≤ nm ∧ s15 = .int .i64 (k : Int) ∧ Hid ((x.kind = 1 → x ∈ m) ∧ Whole ws wo.heap.size 41 (mkA x) ∧ Below wo.heap.size wo ws)) (fun s15 _ => nm - (intOf s15).toNat)
      case atStart => exact ⟨0, zMk, by omega, rfl, Lib.hid ⟨fun h => absurd h (by decide), HW1.out.1, HW1.out.2⟩⟩
      case round =>
        obtain ⟨k, x, hk, rfl, HX⟩ := hrel
        have HBX := Lib.hid (HB.out.trans (HX.out.2.2.mono HB.out.size))
        by_cases hlt2 : k < nm
        · have d4 : decide ((k : Int) < (nm : Int)) = true := decide_eq_true (by omega)
          obtain ⟨z, hz⟩ : ∃ z, m[k]? = some z := ⟨_, List.getElem?_eq_getElem (by rw [HNM.out]; exact hlt2)⟩
          obtain ⟨R, o, rfl, hR, hc, -, -⟩ := (H4.out.1.below HBX.out).get hz
          have HAT := Lib.hid (show ∀ (j : Nat) (u : Value), (mkA z).toList[j]? = some u → wr.cell? ⟨R, o + k * 25 + j, none⟩ = some u from hc)
          obtain ⟨k0, -, -, -, -, -, -, -, -, -, -, -, -, -, -, -, -, x0, x1, x2, x3, x4, x5, x6, x7⟩ := hc.cells
          obtain ⟨R2, o2, rfl, hR2, y0, y1, y2, y3, y4, y5, y6, y7⟩ := (H4.out.2.1.below HBX.out).get hy
          obtain ⟨q, heb⟩ := eq_box_some z.box y
          have HZM := Lib.hid (List.mem_of_getElem? hz)
          have g1 : (0 : Int) ≤ (i : Int) := by omega
          have g2 : (i : Int) < (nc : Int) := by omega
          have g3 : (0 : Int) ≤ (k : Int) := by omega
          have g4 : (k : Int) < (nm : Int) := by omega
          clear hc hz
          by_cases hk1 : z.kind = 1
          · have d5 : (z.kind == 1) = true := by simp [hk1]
            clear hk1
            cases q
            · go_wp2_with fail
              go_quiet (fail)
              all_goals
                clear heb k0 x0 x1 x2 x3 x4 x5 x6 x7 y0 y1 y2 y3 y4 y5 y6 y7
                go_wp2_with fail
                go_roundw
                case rel => exact ⟨k + 1, x, by omega, by go_num, Lib.hid ⟨HX.out.1, (HX.out.2.1).here (below_drewN (Below.refl _ _) _), below_drewN HX.out.2.2 _⟩⟩
                case measure => simp [intOf]; omega
            · go_wp2_with fail
              go_quiet (fail)
              all_goals
                clear heb k0 x0 x1 x2 x3 x4 x5 x6 x7 y0 y1 y2 y3 y4 y5 y6 y7
                obtain ⟨wq, hwq⟩ : ∃ wq, wr.drewN nq = wq := ⟨_, rfl⟩
                have HQA := Lib.hid (show ∀ (j : Nat) (u : Value), (mkA z).toList[j]? = some u → wq.cell? ⟨R, o + k * 25 + j, none⟩ = some u by rw [← hwq]; exact HAT.out)
                have HQW := Lib.hid (show Whole wq wo.heap.size 41 (mkA x) ∧ Below wo.heap.size wo wq by rw [← hwq]; exact ⟨(HX.out.2.1).here (below_drewN (Below.refl _ _) _), below_drewN HX.out.2.2 _⟩)
                obtain ⟨v2, hv2⟩ : ∃ v2, wq.setRow wo.heap.size (mkA z) = v2 := ⟨_, rfl⟩
                have HV2 := Lib.hid hv2
                have HW2 := Lib.hid (show Whole v2 wo.heap.size 41 (mkA z) ∧ Below wo.heap.size wo v2 by rw [← hv2]; exact ⟨setRow_whole _ HQW.out.1, HQW.out.2.trans (setRow_below _ _ (Nat.le_refl _))⟩)
                rw [hwq]
                clear hwq hv2
                go_wp2_with (first
                  | (refine wpList_load_at rfl _ _ rfl R (o + k * 25) rfl (mkA z) _ HQA.out Try.underlying41 rfl (szMk z) ?_)
                  | (refine wpList_store_row_let rfl _ _ _ rfl rfl wo.heap.size (mkA z) rfl rfl 41 (mkA x) HQW.out.1 (szMk z) rfl (mkA_one z) HV2.out ?_))
                go_roundw
                case rel => exact ⟨k + 1, z, by omega, by go_num, Lib.hid ⟨fun _ => HZM.out, HW2.out.1, HW2.out.2⟩⟩
                case measure => simp [intOf]; omega
          · have d5 : (z.kind == 1) = false := by simp [hk1]
            clear hk1
            go_wp2_with fail
            go_quiet (fail)
            all_goals
              clear heb k0 x0 x1 x2 x3 x4 x5 x6 x7 y0 y1 y2 y3 y4 y5 y6 y7
              go_wp2_with fail
              go_roundw
              case rel => exact ⟨k + 1, x, by omega, by go_num, Lib.hid ⟨HX.out.1, (HX.out.2.1).here (below_drewN (Below.refl _ _) _), below_drewN HX.out.2.2 _⟩⟩
              case measure => simp [intOf]; omega
        · obtain rfl : k = nm := by omega
          have d4 : decide ((k : Int) < (k : Int)) = false := by simp
          rename World => wi
          go_wp2_with fail
          go_loopw [16] (fun s16 ws => ∃ (j : Nat), j ≤ nb ∧ s16 = .int .i64 (j : Int) ∧ Hid (Below wi.heap.size wi ws)) (fun s16 _ => nb - (intOf s16).toNat)
          case atStart => exact ⟨0, by omega, rfl, Lib.hid (Below.refl _ _)⟩
          case round =>
            obtain ⟨j, hj, rfl, HB2⟩ := hrel
            have HBZ := Lib.hid (HBX.out.trans (HB2.out.mono HBX.out.size))
            have HWX := Lib.hid (HX.out.2.1.here HB2.out)
            have k0 : wr.cell? ⟨wo.heap.size, 0, none⟩ = some (.int .i64 x.kind) := HWX.out.reads 0
            have lB := HWX.out.lt
            by_cases hlt2 : j < nb
            · have d5 : decide ((j : Int) < (nb : Int)) = true := decide_eq_true (by omega)
              by_cases hk1 : x.kind = 1
              · have d6 : (x.kind == 1) = true := by simp [hk1]
                obtain ⟨b1, hb1⟩ : ∃ y, b[j]? = some y := ⟨_, List.getElem?_eq_getElem (by rw [HNB.out]; exact hlt2)⟩
                obtain ⟨R2, o2, rfl, hR2, y0, y1, y2, y3, y4, y5, y6, y7⟩ := (H4.out.2.2.1.below HBZ.out).get hb1
                obtain ⟨p1, p2, p3⟩ := HCL.out x (HX.out.1 hk1) b1 hk1 (List.mem_of_getElem? hb1)
                have HC := Lib.hid (meets_any x.box b1 wr.drew false 0 (.inl ⟨p1, p2, p3.symm, rfl⟩))
                unfold BV.val at HC
                have x0 : wr.cell? ⟨wo.heap.size, 17, none⟩ = some (.int .i64 x.box.x0.m) := HWX.out.reads 17
                have x1 : wr.cell? ⟨wo.heap.size, 18, none⟩ = some (.int .i64 x.box.x0.s) := HWX.out.reads 18
                have x2 : wr.cell? ⟨wo.heap.size, 19, none⟩ = some (.int .i64 x.box.y0.m) := HWX.out.reads 19
                have x3 : wr.cell? ⟨wo.heap.size, 20, none⟩ = some (.int .i64 x.box.y0.s) := HWX.out.reads 20
                have x4 : wr.cell? ⟨wo.heap.size, 21, none⟩ = some (.int .i64 x.box.x1.m) := HWX.out.reads 21
                have x5 : wr.cell? ⟨wo.heap.size, 22, none⟩ = some (.int .i64 x.box.x1.s) := HWX.out.reads 22
                have x6 : wr.cell? ⟨wo.heap.size, 23, none⟩ = some (.int .i64 x.box.y1.m) := HWX.out.reads 23
                have x7 : wr.cell? ⟨wo.heap.size, 24, none⟩ = some (.int .i64 x.box.y1.s) := HWX.out.reads 24
                have g3 : (0 : Int) ≤ (j : Int) := by omega
                have g4 : (j : Int) < (nb : Int) := by omega
                clear hk1 hb1 p1 p2 p3
                go_upto_region 20 with fail
                have HCC : Hid (∀ v, Below wr.heap.size wr v → (fun v => (v.cell? ⟨wo.heap.size, 17, none⟩ = some (.int .i64 x.box.x0.m) ∧ v.cell? ⟨wo.heap.size, 18, none⟩ = some (.int .i64 x.box.x0.s) ∧ v.cell? ⟨wo.heap.size, 19, none⟩ = some (.int .i64 x.box.y0.m) ∧ v.cell? ⟨wo.heap.size, 20, none⟩ = some (.int .i64 x.box.y0.s) ∧ v.cell? ⟨wo.heap.size, 21, none⟩ = some (.int .i64 x.box.x1.m) ∧ v.cell? ⟨wo.heap.size, 22, none⟩ = some (.int .i64 x.box.x1.s) ∧ v.cell? ⟨wo.heap.size, 23, none⟩ = some (.int .i64 x.box.y1.m) ∧ v.cell? ⟨wo.heap.size, 24, none⟩ = some (.int .i64 x.box.y1.s)) ∧ (v.cell? ⟨R2, o2 + j * 8, none⟩ = some (.int .i64 b1.x0.m) ∧ v.cell? ⟨R2, o2 + j * 8 + 1, none⟩ = some (.int .i64 b1.x0.s) ∧ v.cell? ⟨R2, o2 + j * 8 + 2, none⟩ = some (.int .i64 b1.y0.m) ∧ v.cell? ⟨R2, o2 + j * 8 + 3, none⟩ = some (.int .i64 b1.y0.s) ∧ v.cell? ⟨R2, o2 + j * 8 + 4, none⟩ = some (.int .i64 b1.x1.m) ∧ v.cell? ⟨R2, o2 + j * 8 + 5, none⟩ = some (.int .i64 b1.x1.s) ∧ v.cell? ⟨R2, o2 + j * 8 + 6, none⟩ = some (.int .i64 b1.y1.m) ∧ v.cell? ⟨R2, o2 + j * 8 + 7, none⟩ = some (.int .i64 b1.y1.s)) ∧ Below wr.heap.size wr v) v) := Lib.hid (fun v hb => ⟨⟨(hb.cell lB).trans x0, (hb.cell lB).trans x1, (hb.cell lB).trans x2, (hb.cell lB).trans x3, (hb.cell lB).trans x4, (hb.cell lB).trans x5, (hb.cell lB).trans x6, (hb.cell lB).trans x7⟩, ⟨(hb.cell hR2).trans y0, (hb.cell hR2).trans y1, (hb.cell hR2).trans y2, (hb.cell hR2).trans y3, (hb.cell hR2).trans y4, (hb.cell hR2).trans y5, (hb.cell hR2).trans y6, (hb.cell hR2).trans y7⟩, hb⟩)
                have hS := HCC.out wr.drew ((Below.refl wr.heap.size wr).drew)
                refine wp_region_C (fun v => (v.cell? ⟨wo.heap.size, 17, none⟩ = some (.int .i64 x.box.x0.m) ∧ v.cell? ⟨wo.heap.size, 18, none⟩ = some (.int .i64 x.box.x0.s) ∧ v.cell? ⟨wo.heap.size, 19, none⟩ = some (.int .i64 x.box.y0.m) ∧ v.cell? ⟨wo.heap.size, 20, none⟩ = some (.int .i64 x.box.y0.s) ∧ v.cell? ⟨wo.heap.size, 21, none⟩ = some (.int .i64 x.box.x1.m) ∧ v.cell? ⟨wo.heap.size, 22, none⟩ = some (.int .i64 x.box.x1.s) ∧ v.cell? ⟨wo.heap.size, 23, none⟩ = some (.int .i64 x.box.y1.m) ∧ v.cell? ⟨wo.heap.size, 24, none⟩ = some (.int .i64 x.box.y1.s)) ∧ (v.cell? ⟨R2, o2 + j * 8, none⟩ = some (.int .i64 b1.x0.m) ∧ v.cell? ⟨R2, o2 + j * 8 + 1, none⟩ = some (.int .i64 b1.x0.s) ∧ v.cell? ⟨R2, o2 + j * 8 + 2, none⟩ = some (.int .i64 b1.y0.m) ∧ v.cell? ⟨R2, o2 + j * 8 + 3, none⟩ = some (.int .i64 b1.y0.s) ∧ v.cell? ⟨R2, o2 + j * 8 + 4, none⟩ = some (.int .i64 b1.x1.m) ∧ v.cell? ⟨R2, o2 + j * 8 + 5, none⟩ = some (.int .i64 b1.x1.s) ∧ v.cell? ⟨R2, o2 + j * 8 + 6, none⟩ = some (.int .i64 b1.y1.m) ∧ v.cell? ⟨R2, o2 + j * 8 + 7, none⟩ = some (.int .i64 b1.y1.s)) ∧ Below wr.heap.size wr v) (by kernel_rfl) ?_
                refine wpAnyC_take (i := 0) (v := .pointer (some ⟨wo.heap.size, 17, none⟩)) rfl (by kernel_rfl) (fun _ _ _ h => h) (Or.inl ⟨by rfl, ?y1⟩) hS ?r1
                case y1 => intro wq _; go_simp; all_goals (first | with_reducible rfl | go_num | (simp; done) | (simp; omega) | skip)
                try simp only [Act.put, List.setIfInBounds_toArray, List.set_cons_zero, List.set_cons_succ]
                refine wpAnyC_take (i := 1) (v := .agg #[.int .i64 x.box.x0.m, .int .i64 x.box.x0.s, .int .i64 x.box.y0.m, .int .i64 x.box.y0.s, .int .i64 x.box.x1.m, .int .i64 x.box.x1.s, .int .i64 x.box.y1.m, .int .i64 x.box.y1.s]) rfl (by kernel_rfl) (fun _ _ _ h => h) (Or.inl ⟨by rfl, ?y2⟩) hS ?r2
                case y2 => rintro wq ⟨⟨c0, c1, c2, c3, c4, c5, c6, c7⟩, -, -⟩; go_simp; try with_reducible rfl
                try simp only [Act.put, List.setIfInBounds_toArray, List.set_cons_zero, List.set_cons_succ]
                refine wpAnyC_take (i := 2) (v := ?v3) rfl (by kernel_rfl) (fun _ _ _ h => h) (Or.inl ⟨by rfl, ?y3⟩) hS ?r3
                case y3 => intro wq _; go_simp; all_goals (first | with_reducible rfl | go_num | (simp; done) | (simp; omega) | skip)
                try simp only [Act.put, List.setIfInBounds_toArray, List.set_cons_zero, List.set_cons_succ]
                refine wpAnyC_take (i := 3) (v := ?v4) rfl (by kernel_rfl) (fun _ _ _ h => h) (Or.inl ⟨by rfl, ?y4⟩) hS ?r4
                case y4 => intro wq _; go_simp; all_goals (first | with_reducible rfl | go_num | (simp; done) | (simp; omega) | skip)
                try simp only [Act.put, List.setIfInBounds_toArray, List.set_cons_zero, List.set_cons_succ]
                refine wpAnyC_take (i := 4) (v := .pointer (some ⟨R2, o2 + j * 8, none⟩)) rfl (by kernel_rfl) (fun _ _ _ h => h) (Or.inl ⟨by rfl, ?y5⟩) hS ?r5
                case y5 => intro wq _; go_simp; all_goals (first | with_reducible rfl | go_num | (simp; done) | (simp; omega) | skip)
                try simp only [Act.put, List.setIfInBounds_toArray, List.set_cons_zero, List.set_cons_succ]
                refine wpAnyC_take (i := 5) (v := .agg #[.int .i64 b1.x0.m, .int .i64 b1.x0.s, .int .i64 b1.y0.m, .int .i64 b1.y0.s, .int .i64 b1.x1.m, .int .i64 b1.x1.s, .int .i64 b1.y1.m, .int .i64 b1.y1.s]) rfl (by kernel_rfl) (fun _ _ _ h => h) (Or.inl ⟨by rfl, ?y6⟩) hS ?r6
                case y6 => rintro wq ⟨-, ⟨c0, c1, c2, c3, c4, c5, c6, c7⟩, -⟩; go_simp; try with_reducible rfl
                try simp only [Act.put, List.setIfInBounds_toArray, List.set_cons_zero, List.set_cons_succ]
                refine wpAnyC_one (j := 6) (by kernel_rfl) rfl (fun K hK => ?_)
                go_simp
                go_at_call 11
                refine HC.out.mono ?_
                rintro e v2 ⟨rfl, kk⟩
                have hb2 : Below wr.heap.size wr v2 := ((Below.refl wr.heap.size wr).drew).trans (kk.mono ((Below.refl wr.heap.size wr).drew).size)
                clear kk
                have hS := HCC.out v2 hb2
                go_wp2_with fail
                refine hK.out _ _ ⟨hS, ?_⟩
                clear hK K
                try simp only [Act.put, List.setIfInBounds_toArray, List.set_cons_zero, List.set_cons_succ]
                refine wpAnyC_take (i := 7) (v := ?v7) rfl (by kernel_rfl) (fun _ _ _ h => h) (Or.inl ⟨by rfl, ?y7⟩) hS ?r7
                case y7 => intro wq _; go_simp; all_goals (first | with_reducible rfl | go_num | (simp; done) | (simp; omega) | skip)
                try simp only [Act.put, List.setIfInBounds_toArray, List.set_cons_zero, List.set_cons_succ]
                refine wpAnyC_take (i := 8) (v := ?v8) rfl (by kernel_rfl) (fun _ _ _ h => h) (Or.inl ⟨by rfl, ?y8⟩) hS ?r8
                case y8 => intro wq _; go_simp; all_goals (first | with_reducible rfl | go_num | (simp; done) | (simp; omega) | skip)
                try simp only [Act.put, List.setIfInBounds_toArray, List.set_cons_zero, List.set_cons_succ]
                refine wpAnyC_take (i := 9) (v := ?v9) rfl (by kernel_rfl) (fun _ _ _ h => h) (Or.inl ⟨by rfl, ?y9⟩) hS ?r9
                case y9 => intro wq _; go_simp; all_goals (first | with_reducible rfl | go_num | (simp; done) | (simp; omega) | skip)
                try simp only [Act.put, List.setIfInBounds_toArray, List.set_cons_zero, List.set_cons_succ]
                refine wpAnyC_take (i := 10) (v := ?v10) rfl (by kernel_rfl) (fun _ _ _ h => h) (Or.inl ⟨by rfl, ?y10⟩) hS ?r10
                case y10 => intro wq _; go_simp; all_goals (first | with_reducible rfl | go_num | (simp; done) | (simp; omega) | skip)
                try simp only [Act.put, List.setIfInBounds_toArray, List.set_cons_zero, List.set_cons_succ]
                refine wpAnyC_take (i := 11) (v := ?v11) rfl (by kernel_rfl) (fun _ _ _ h => h) (Or.inl ⟨by rfl, ?y11⟩) hS ?r11
                case y11 => intro wq _; go_simp; all_goals (first | with_reducible rfl | go_num | (simp; done) | (simp; omega) | skip)
                try simp only [Act.put, List.setIfInBounds_toArray, List.set_cons_zero, List.set_cons_succ]
                refine wpAnyC_done (by kernel_rfl) ?_ _
                clear hS HCC
                have HB3 := Lib.hid (HB2.out.trans (hb2.mono HB2.out.size))
                clear hb2 x0 x1 x2 x3 x4 x5 x6 x7 y0 y1 y2 y3 y4 y5 y6 y7 k0
                go_wp2_with fail
                go_roundw
                case rel => exact ⟨j + 1, by omega, by go_num, HB3⟩
                case measure => simp [intOf]; omega
              · have d6 : (x.kind == 1) = false := by simp [hk1]
                clear hk1
                go_wp2_with fail
                go_roundw
                case rel => exact ⟨i + 1, by omega, by go_num, HBZ⟩
                case measure => simp [intOf]; omega
            · obtain rfl : j = nb := by omega
              have d5 : decide ((j : Int) < (j : Int)) = false := by simp
              go_wp2_with fail
              go_roundw
              case rel => exact ⟨i + 1, by omega, by go_num, HBZ⟩
              case measure => simp [intOf]; omega
    · obtain rfl : i = nc := by omega
      have d3 : decide ((i : Int) < (i : Int)) = false := by simp
      have HBX := Lib.hid (H4.out.2.2.2.trans (HB.out.mono H4.out.2.2.2.size))
      go_wp2_with fail
      refine (awake23 _ (HMX.out.later HBX.out)).mono ?_
      rintro e w9 ⟨rfl, hb⟩
      have H9 := Lib.hid (HBX.out.trans (hb.mono HBX.out.size))
      clear hb
      go_wp2_with fail
      go_ret
      exact ⟨rfl, H9.out⟩
end Go.Proofs.Ytdlmhienolmncaa
