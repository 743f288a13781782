/- What append answers lies in the old block or in a new one. -/
import Derived.Test.YtdlmhienolmncaaGreatRowA
import Derived.Laws.AppendOwn
import Derived.Test.YtdlmhienolmncaaGreatCutRe
import Derived.Test.YtdlmhienolmncaaGreatCutRc
import Derived.Test.YtdlmhienolmncaaGreatFontCf
namespace Go.Proofs.YtdlmhienolmncaaGreat
open Go.RowKit
section
variable {P : Program}

theorem append_place (w : World) (base : Nat) (t ty e : TypeId) (i : TypeInfo) (z : Value) (ht : P.underlying t = some (.slice e)) (hi : P.info? e = some i) (hz : i.zero = some z)
    (v : Value) (n : Nat) (xs : List Value) (hown : w.ownsRow base e i.size v n xs) (ad : Addr) (m c : Nat) (news : List Value) (hl : news.length = m * i.size)
    (hnews : ∀ j u, news[j]? = some u → w.cell? (ad.add j) = some u) (h1 : ∀ u ∈ news, u.oneCell' = true) (hm : 0 < m) (h63 : n + m ≤ maxLen) (hbytes : (n + m) * i.bytes ≤ 140737488355328)
    (v' : Value) (w' : World) (hr : (Builtin.append_ #[t, t] ty #[v, .slice (some ad) m c]).run P w = .ok v' w') : v'.ownBlock = v.ownBlock ∨ v'.ownBlock = some w.heap.size := by
  have hml : maxLen ≤ 9223372036854775807 := by unfold maxLen; omega
  rcases hown.2 with ⟨rfl, rfl⟩ | ⟨g, cap, cur, rfl, hbg, hg, hnc, hcm, hcs, htake⟩
  · rw [run_append_nil (P := P) w t ty e i z ht hi hz ad m c news hl hnews hm (by omega) (by simp only [Nat.zero_add] at hbytes; omega)] at hr
    injection hr with h2 h3
    subst h2
    exact .inr rfl
  · by_cases hroom : n + m ≤ cap
    · have hfit : n * i.size + news.length ≤ cur.size := by rw [hl, hcs, ← Nat.add_mul]; exact Nat.mul_le_mul_right _ hroom
      rw [run_append_room (P := P) w t ty e i ht hi g n cap cur hg ad m c news hl hnews h1 hroom hfit] at hr
      injection hr with h2 h3
      subst h2
      exact .inl rfl
    · have holds : ∀ j u, xs[j]? = some u → w.cell? ((⟨g, 0, none⟩ : Addr).add j) = some u := hown.cells (g := g) rfl
      rw [run_append_grow (P := P) w t ty e i z ht hi hz ⟨g, 0, none⟩ n cap xs hown.1 holds ad m c news hl hnews (by omega) (by omega) (growslice_fits (by omega) hbytes)] at hr
      injection hr with h2 h3
      subst h2
      exact .inr rfl
theorem wpList_append_own_f {ops : Array Oper} {rest : List Oper} {o : Oper} {a : Act} {w : World} {Q : Exit → Act → World → Prop} (hgd : o.guard = none) (s x : Operand) (t : TypeId)
    (ho : o.op = .call { callee := .builtin .append, args := #[s, x], argTypes := #[t, t] })
    (base : Nat) (e : TypeId) (i : TypeInfo) (z : Value) (size bytes : Nat) (ht : P.underlying t = some (.slice e)) (hi : P.info? e = some i) (hz : i.zero = some z)
    (hsize : i.size = size) (hby : i.bytes = bytes) (hzs : z.cells.size = size) (hsz : 0 < size)
    (v : Value) (n : Nat) (xs : List Value) (hs : a.eval s = v) (hown : w.ownsRow base e size v n xs)
    (ad : Addr) (m c : Nat) (news : List Value) (hx : a.eval x = .slice (some ad) m c) (hl : news.length = m * size) (hnews : ∀ j u, news[j]? = some u → w.cell? (ad.add j) = some u) (h1 : ∀ u ∈ news, u.oneCell' = true)
    (hm : 0 < m) (h63 : n + m ≤ maxLen) (hbytes : (n + m) * bytes ≤ 140737488355328) (hbase : base ≤ w.heap.size)
    (h : ∀ v' w', w'.ownsRow base e size v' (n + m) (xs ++ news) → w.grownBy w' v.ownBlock → (v'.ownBlock = v.ownBlock ∨ v'.ownBlock = some w.heap.size) → wpList P ops Q rest (a.put o.dst v') w') : wpList P ops Q (o :: rest) a w := by
  obtain ⟨v', w', hr, h2, h3, -⟩ := run_append_own (P := P) w base t o.type e i z size bytes ht hi hz hsize hby hzs hsz v n xs hown ad m c news hl hnews h1 h63 hbytes hbase
  subst hsize hby
  have hp := append_place (P := P) w base t o.type e i z ht hi hz v n xs hown ad m c news hl hnews h1 hm h63 hbytes v' w' hr
  refine wpList_plain hgd fun _ hK => ?_
  unfold Oper.wp execOp
  simp only [ho, resolve, invoke, builtin, Sem.run_bind, Sem.run_pure, Result.andThen_ok, List.map_toArray, List.map_cons, List.map_nil, hs, hx, hr]
  exact hK _ _ (h v' w' h2 h3 hp)
theorem wp_append_own_f {o : Oper} {a : Act} {w : World} {K : Act → World → Prop} {Q : Exit → Act → World → Prop} (s x : Operand) (t : TypeId)
    (ho : o.op = .call { callee := .builtin .append, args := #[s, x], argTypes := #[t, t] })
    (base : Nat) (e : TypeId) (i : TypeInfo) (z : Value) (size bytes : Nat) (ht : P.underlying t = some (.slice e)) (hi : P.info? e = some i) (hz : i.zero = some z)
    (hsize : i.size = size) (hby : i.bytes = bytes) (hzs : z.cells.size = size) (hsz : 0 < size)
    (v : Value) (n : Nat) (xs : List Value) (hs : a.eval s = v) (hown : w.ownsRow base e size v n xs)
    (ad : Addr) (m c : Nat) (news : List Value) (hx : a.eval x = .slice (some ad) m c) (hl : news.length = m * size) (hnews : ∀ j u, news[j]? = some u → w.cell? (ad.add j) = some u) (h1 : ∀ u ∈ news, u.oneCell' = true)
    (hm : 0 < m) (h63 : n + m ≤ maxLen) (hbytes : (n + m) * bytes ≤ 140737488355328) (hbase : base ≤ w.heap.size)
    (h : ∀ v' w', w'.ownsRow base e size v' (n + m) (xs ++ news) → w.grownBy w' v.ownBlock → (v'.ownBlock = v.ownBlock ∨ v'.ownBlock = some w.heap.size) → K (a.put o.dst v') w') : o.wp P a w K Q := by
  obtain ⟨v', w', hr, h2, h3, -⟩ := run_append_own (P := P) w base t o.type e i z size bytes ht hi hz hsize hby hzs hsz v n xs hown ad m c news hl hnews h1 h63 hbytes hbase
  subst hsize hby
  have hp := append_place (P := P) w base t o.type e i z ht hi hz v n xs hown ad m c news hl hnews h1 hm h63 hbytes v' w' hr
  unfold Oper.wp execOp
  simp only [ho, resolve, invoke, builtin, Sem.run_bind, Sem.run_pure, Result.andThen_ok, List.map_toArray, List.map_cons, List.map_nil, hs, hx, hr]
  exact h v' w' h2 h3 hp
theorem wp_build_one {o : Oper} {a : Act} {w w1 : World} {K : Act → World → Prop} {Q : Exit → Act → World → Prop} (t e : TypeId) (x : Operand) (ho : o.op = .buildSlice t 1 #[(0, x)])
    (cells : Array Value) (ie : TypeInfo) (z : Value) (n : Nat) (hx : a.eval x = .agg cells) (hn : cells.size = n) (hw : w.alloc (.cells cells e) = w1)
    (hu : P.underlying t = some (.slice e)) (hie : P.info? e = some ie) (hz : ie.zero = some z) (hs : ie.size = n) (hpos : 0 < n) (hsmall : n ≤ 1000)
    (h : K (a.put o.dst (.slice (some ⟨w.heap.size, 0, none⟩) 1 1)) w1) : o.wp P a w K Q := by
  refine wp_buildSlice t e 1 _ ho cells ie z hu hie hz (by rw [hs]; omega) (by rw [hs]; omega) ?_ (by rw [hw]; exact h)
  have e1 : ((#[(0, x)] : Array (Nat × Operand)).map fun (i, x) => (i, a.eval x)).toList = [(0, .agg cells)] := by simp [hx]
  rw [e1, hs]
  exact fill_one n _ _ hn (by simp)
end
end Go.Proofs.YtdlmhienolmncaaGreat
/- the reference: the fonts that are used, cut. -/
namespace Go.Proofs.YtdlmhienolmncaaGreat
open Go.RowKit Dec

theorem own_typed {w : World} {base : Nat} {e : TypeId} {size : Nat} {v : Value} {n : Nat} {xs : List Value} (h : w.ownsRow base e size v n xs) {g : Nat} (hg : v.ownBlock = some g) : ∃ cur, w.heap[g]? = some (.cells cur e (0, 0)) := by
  rcases h.2 with ⟨rfl, -⟩ | ⟨g', cap, cur, rfl, -, h2, -⟩
  · cases hg
  · injection hg with hg
    subst hg
    exact ⟨cur, h2⟩
theorem glyphs_moved2 {w w' : World} {A : Option Addr} {n c : Nat} {gs : List Gl} (h : Glyphs w A n c gs) (hs : w.heap.size ≤ w'.heap.size) (hc : 0 < n → ∀ R o, A = some ⟨R, o, none⟩ → w'.heap[R]? = w.heap[R]?) : Glyphs w' A n c gs := by
  refine ⟨h.len, h.cap, h.top, h.text, fun hn => ?_⟩
  obtain ⟨R, o, e, hR, hk⟩ := h.at_ hn
  have hq : ∀ off, w'.cell? ⟨R, off, none⟩ = w.cell? ⟨R, off, none⟩ := fun off => by simp only [World.cell?, hc hn R o e]
  exact ⟨R, o, e, Nat.lt_of_lt_of_le hR hs, fun i g hg => by rw [hq, hq, hq]; exact hk i g hg⟩
theorem rowNm_snoc1 (l : List Nm) (x : Nm) : rowNm l ++ nmV x = rowNm (l ++ [x]) := rowNm_snoc l x
set_option maxRecDepth 100000 in
set_option maxHeartbeats 16000000 in
theorem rfonts23_any (A : Option Addr) (n c : Nat) (fs : List Nm) (A2 : Option Addr) (n2 c2 : Nat) (l : List Mk) (w : World) (h : NmsAt w A n c fs) (hn : n ≤ 1000000) (h60 : ∀ f ∈ fs, f.s.n ≤ 1000000) (h2 : MarksAt w A2 n2 c2 l) (hn2 : n2 ≤ 1000000) :
    Calls Tryz.prog 9 #[.slice A n c, .slice A2 n2 c2] w (FontsSaid fs l w) := by
  have hcap := h.row.cap
  have htop := h.row.top
  have HK := Lib.hid (rknown_any A n c fs A2 n2 c2 l w h h60 h2)
  have H0 := Lib.hid (And.intro h h2)
  have H60 := Lib.hid h60
  have HL := Lib.hid (And.intro h.len h2.len)
  clear h h2 h60
  go_enter Tryz.func9, Tryz.ntmps9
  go_wp2_with fail
  refine HK.out.mono ?_
  rintro e w1 ⟨rfl, hb⟩
  have HB1 := Lib.hid hb
  clear hb HK
  cases hk : knownB fs l
  · have hke : knownE fs l = 1 := by unfold knownE; rw [hk]; rfl
    go_wp2_with fail
    go_ret2
    refine ⟨none, 0, 0, [], by rw [hke]; rfl, ⟨RowAt.none _ _, fun x hx => by simp at hx⟩, fun f hf => by simp at hf, HB1.out, ?_⟩
    rw [hk]
    rfl
  have hke : knownE fs l = 0 := by unfold knownE; rw [hk]; rfl
  have HKB := Lib.hid (And.intro hk hke)
  have HCK := Lib.hid (show ∀ f ∈ fs, chkB f.wd f.ot f.gs = true from fun f hf => nms_mem (by unfold knownB at hk; rw [Bool.and_eq_true] at hk; exact hk.1) hf)
  clear hk hke
  go_wp2_with fail
  go_loopw [6, 7] (fun v s7 wr => ∃ (i : Nat) (d : List Nm), i ≤ n ∧ s7 = .int .i64 (i : Int) ∧ Hid (d.length ≤ i ∧ d.map keyN = ((fs.take i).filter (useB l)).map (keyCut l) ∧ (∀ y ∈ d, NmOk wr y ∧ y.s.n ≤ 1000000 ∧ (0 < y.s.n → ∀ R o, y.s.A = some ⟨R, o, none⟩ → v.ownBlock ≠ some R ∧ R < wr.heap.size)) ∧ wr.ownsRow w1.heap.size 66 4 v d.length (rowNm d) ∧ Below w1.heap.size w1 wr)) (fun _ s7 _ => n - (intOf s7).toNat)
  case atStart => exact ⟨0, [], by omega, rfl, Lib.hid ⟨Nat.le_refl _, by simp, fun y hy => by simp at hy, World.ownsRow_nil _ _ _ _, Below.refl _ _⟩⟩
  case round =>
    obtain ⟨i, d, hi, rfl, HR⟩ := hrel
    obtain ⟨a0, cc, rfl⟩ := own_slM HR.out.2.2.2.1
    by_cases hlt : i < n
    · have d1 : decide ((i : Int) < (n : Int)) = true := decide_eq_true (by omega)
      obtain ⟨x, hx⟩ : ∃ x, fs[i]? = some x := ⟨_, List.getElem?_eq_getElem (by rw [HL.out.1]; exact hlt)⟩
      rename World => wo
      have hbw : Below w.heap.size w wo := HB1.out.trans (HR.out.2.2.2.2.mono HB1.out.size)
      have hN1 := H0.out.1.below HB1.out
      obtain ⟨R, o, rfl, hR1, ⟨q0, q1, q2, q3⟩, -, -⟩ := hN1.get hx
      have HQ := Lib.hid (show ∀ v, Below w1.heap.size w1 v → v.cell? ⟨R, o + i * 4, none⟩ = some (.string x.name) ∧ v.cell? ⟨R, o + i * 4 + 1, none⟩ = some (.bool x.wd) ∧ v.cell? ⟨R, o + i * 4 + 2, none⟩ = some (.slice x.s.A x.s.n x.s.c) ∧ v.cell? ⟨R, o + i * 4 + 3, none⟩ = some (.int .i64 x.ot) ∧ R < v.heap.size from fun v hb => ⟨(hb.cell hR1).trans q0, (hb.cell hR1).trans q1, (hb.cell hR1).trans q2, (hb.cell hR1).trans q3, Nat.lt_of_lt_of_le hR1 hb.size⟩)
      have hxf : x ∈ fs := List.mem_of_getElem? hx
      have HX := Lib.hid (And.intro hx hxf)
      have HBW := Lib.hid hbw
      have HU := Lib.hid (rused_any A2 n2 c2 l x.name wo (H0.out.2.below hbw) hn2)
      have HUP := Lib.hid (use_pos l x)
      have HFS := Lib.hid (filt_step (useB l) hx)
      have husm : (usedS l x.name).length ≤ 1000000 := Nat.le_trans (sdl_len _) (Nat.le_trans (usedL_len _ _) (by rw [HL.out.2]; exact hn2))
      clear hN1 q0 q1 q2 q3 hbw hx hxf
      obtain ⟨z0, z1, z2, z3, hR⟩ := HQ.out wo HR.out.2.2.2.2
      go_wp2_with fail
      refine HU.out.mono ?_
      rintro e w2 ⟨A4, c4, rfl, hI, hb⟩
      have HB2 := Lib.hid (And.intro hb (HR.out.2.2.2.2.trans (hb.mono HR.out.2.2.2.2.size)))
      have HI := Lib.hid hI
      have HO2 := Lib.hid (own_below3 HR.out.2.2.2.1 hb)
      clear hb hI HU z0 z1 z2 z3 hR
      obtain ⟨N4, hN4⟩ : ∃ N4, (usedS l x.name).length = N4 := ⟨_, rfl⟩
      rw [hN4] at HI HUP husm ⊢
      have HN4 := Lib.hid hN4
      clear hN4
      by_cases hz : 0 < N4
      · have d2 : decide (0 < N4) = true := decide_eq_true hz
        have d2' : decide ((N4 : Int) > 0) = true := decide_eq_true (by omega)
        have HT := Lib.hid (show useB l x = true by rw [HUP.out, d2])
        have HOK := Lib.hid (show NmOk w2 x from ((H0.out.1.ok x HX.out.2).later (HBW.out.trans (HB2.out.1.mono HBW.out.size))))
        have HCT := Lib.hid (rcut_okF x.wd x.s.A x.s.n x.s.c x.ot x.gs A4 N4 c4 (usedS l x.name) w2 HOK.out.2 (HCK.out x HX.out.2) HI.out (H60.out x HX.out.2) husm)
        obtain ⟨z0, z1, z2, z3, hR⟩ := HQ.out w2 HB2.out.2
        go_wp2_with fail
        refine HCT.out.mono ?_
        rintro e w3 ⟨A5, n5, c5, rfl, hgl, hb, hfr⟩
        have hn5 : n5 ≤ 1000000 := by
          have e1 := hgl.len
          have h3 := cut_len (wd := x.wd) (ot := x.ot) (gs := x.gs) (keep := usedS l x.name)
          have h4 := HN4.out
          omega
        rw [cutF_is] at hgl
        have HB3 := Lib.hid (And.intro hb (HB2.out.2.trans (hb.mono HB2.out.2.size)))
        have HG3 := Lib.hid (And.intro hgl hfr)
        have HO3 := Lib.hid (own_below3 HO2.out hb)
        clear hb hgl hfr z0 z1 z2 z3 hR HCT
        obtain ⟨w4, hw4⟩ : ∃ w4, w3.alloc (.cells #[.bool x.wd, .slice A5 n5 c5, .int .i64 0] 64) = w4 := ⟨_, rfl⟩
        have hb4 : Below w3.heap.size w3 w4 := by rw [← hw4]; exact (Below.refl _ _).alloc (Nat.le_refl _) _
        have HW4 := Lib.hid (show Whole w4 w3.heap.size 64 #[.bool x.wd, .slice A5 n5 c5, .int .i64 0] by rw [← hw4]; exact Whole.made _ _ _)
        have HB4 := Lib.hid (And.intro hb4 (HB3.out.2.trans (hb4.mono HB3.out.2.size)))
        have HO4 := Lib.hid (own_below3 HO3.out hb4)
        clear hb4
        have HE4 := Lib.hid hw4
        clear hw4
        go_upto_region 10 with (refine wpList_store_let rfl _ _ _ rfl rfl _ _ #[.bool x.wd, .slice A5 n5 c5, .int .i64 0] HE4.out rfl rfl (szFont _ _ _) rfl (fontAll _ _ _ _ _) ?_)
        obtain ⟨i0, hi0, hz0, hz1, hz2⟩ := info_nm
        have hdl : d.length ≤ 1000000 := by have := HR.out.1; omega
        obtain ⟨y, hy⟩ : ∃ y : Nm, (⟨x.name, x.wd, ⟨A5, n5, c5⟩, 0, cutF l x⟩ : Nm) = y := ⟨_, rfl⟩
        obtain ⟨w5, hw5⟩ : ∃ w5, w4.drew.alloc (.cells (nmA y) 66) = w5 := ⟨_, rfl⟩
        have hb5 : Below w4.heap.size w4 w5 := by rw [← hw5]; exact ((Below.refl w4.heap.size w4).drew).alloc (Nat.le_refl _) _
        have HN5 := Lib.hid (show Whole w5 w4.heap.size 66 (nmA y) by rw [← hw5]; exact Whole.made w4.drew _ _)
        have HO5 := Lib.hid (own_below3 HO4.out hb5)
        have HB5 := Lib.hid (And.intro hb5 (HB4.out.2.trans (hb5.mono HB4.out.2.size)))
        have HW5 := Lib.hid (HW4.out.here hb5)
        have hs5 := hb5.size
        have hsw5 := HB5.out.2.size
        clear hb5
        obtain ⟨z0, z1, z2, z3, hR⟩ := HQ.out w4 HB4.out.2
        have hS : (fun v => v.cell? ⟨R, o + i * 4, none⟩ = some (.string x.name) ∧ v.cell? ⟨w3.heap.size, 0, none⟩ = some (.bool x.wd) ∧ v.cell? ⟨w3.heap.size, 1, none⟩ = some (.slice A5 n5 c5) ∧ v.cell? ⟨w3.heap.size, 2, none⟩ = some (.int .i64 0)) w4.drew := ⟨z0, HW4.out.reads 0, HW4.out.reads 1, HW4.out.reads 2⟩
        clear z0 z1 z2 z3
        have g1 : (0 : Int) ≤ (i : Int) := by omega
        have g2 : (i : Int) < (n : Int) := by omega
        refine wp_region_C (fun v => v.cell? ⟨R, o + i * 4, none⟩ = some (.string x.name) ∧ v.cell? ⟨w3.heap.size, 0, none⟩ = some (.bool x.wd) ∧ v.cell? ⟨w3.heap.size, 1, none⟩ = some (.slice A5 n5 c5) ∧ v.cell? ⟨w3.heap.size, 2, none⟩ = some (.int .i64 0)) (by kernel_rfl) ?_
        refine wpAnyC_take (i := 0) (v := ?v1) rfl (by kernel_rfl) (fun _ _ _ h => h) (Or.inl ⟨by rfl, ?y1⟩) hS ?r1
        case y1 => intro wq _; go_simp; all_goals (first | with_reducible rfl | go_num | (simp; done) | (simp; omega) | skip)
        try simp only [Act.put, List.setIfInBounds_toArray, List.set_cons_zero, List.set_cons_succ]
        refine wpAnyC_take (i := 1) (v := ?v2) rfl (by kernel_rfl) (fun _ _ _ h => h) (Or.inl ⟨by rfl, ?y2⟩) hS ?r2
        case y2 => intro wq _; go_simp; all_goals (first | with_reducible rfl | go_num | (simp; done) | (simp; omega) | skip)
        try simp only [Act.put, List.setIfInBounds_toArray, List.set_cons_zero, List.set_cons_succ]
        refine wpAnyC_take (i := 2) (v := ?v3) rfl (by kernel_rfl) (fun _ _ _ h => h) (Or.inl ⟨by rfl, ?y3⟩) hS ?r3
        case y3 => intro wq _; go_simp; all_goals (first | with_reducible rfl | go_num | (simp; done) | (simp; omega) | skip)
        try simp only [Act.put, List.setIfInBounds_toArray, List.set_cons_zero, List.set_cons_succ]
        refine wpAnyC_take (i := 3) (v := .pointer (some ⟨R, o + i * 4, none⟩)) rfl (by kernel_rfl) (fun _ _ _ h => h) (Or.inl ⟨by rfl, ?y4⟩) hS ?r4
        case y4 => intro wq _; go_simp; all_goals (first | with_reducible rfl | go_num | (simp; done) | (simp; omega) | skip)
        try simp only [Act.put, List.setIfInBounds_toArray, List.set_cons_zero, List.set_cons_succ]
        refine wpAnyC_take (i := 4) (v := .pointer (some ⟨R, o + i * 4, none⟩)) rfl (by kernel_rfl) (fun _ _ _ h => h) (Or.inl ⟨by rfl, ?y5⟩) hS ?r5
        case y5 => intro wq _; go_simp; all_goals (first | with_reducible rfl | go_num | (simp; done) | (simp; omega) | skip)
        try simp only [Act.put, List.setIfInBounds_toArray, List.set_cons_zero, List.set_cons_succ]
        refine wpAnyC_take (i := 5) (v := .string x.name) rfl (by kernel_rfl) (fun _ _ _ h => h) (Or.inl ⟨by rfl, ?y6⟩) hS ?r6
        case y6 => rintro wq ⟨c0, -⟩; go_simp; try with_reducible rfl
        try simp only [Act.put, List.setIfInBounds_toArray, List.set_cons_zero, List.set_cons_succ]
        refine wpAnyC_take (i := 6) (v := .agg #[.bool x.wd, .slice A5 n5 c5, .int .i64 0]) rfl (by kernel_rfl) (fun _ _ _ h => h) (Or.inl ⟨by rfl, ?y7⟩) hS ?r7
        case y7 => rintro wq ⟨-, c0, c1, c2⟩; go_simp; try with_reducible rfl
        try simp only [Act.put, List.setIfInBounds_toArray, List.set_cons_zero, List.set_cons_succ]
        refine wpAnyC_take (i := 7) (v := .agg #[.string x.name, .bool x.wd, .slice A5 n5 c5, .int .i64 0]) rfl (by kernel_rfl) (fun _ _ _ h => h) (Or.inl ⟨by rfl, ?y8⟩) hS ?r8
        case y8 => intro wq _; go_simp; all_goals (first | with_reducible rfl | go_num | (simp; done) | (simp; omega) | skip)
        try simp only [Act.put, List.setIfInBounds_toArray, List.set_cons_zero, List.set_cons_succ]
        refine wpAnyC_one (j := 8) (by kernel_rfl) rfl (fun K hK => ?_)
        rw [if_pos (by rfl)]
        refine wp_build_one 24 66 _ rfl (nmA y) i0 _ 4 (by rw [← hy]; rfl) rfl hw5 Tryz.underlying24 hi0 hz0 hz1 (by decide) (by decide) ?_
        have hS : (fun v => v.cell? ⟨R, o + i * 4, none⟩ = some (.string x.name) ∧ v.cell? ⟨w3.heap.size, 0, none⟩ = some (.bool x.wd) ∧ v.cell? ⟨w3.heap.size, 1, none⟩ = some (.slice A5 n5 c5) ∧ v.cell? ⟨w3.heap.size, 2, none⟩ = some (.int .i64 0)) w5 := ⟨(HQ.out _ (HB5.out.2)).1, (HW5.out).reads 0, (HW5.out).reads 1, (HW5.out).reads 2⟩
        refine hK.out _ _ ⟨hS, ?_⟩
        clear hK K
        try simp only [Act.put, List.setIfInBounds_toArray, List.set_cons_zero, List.set_cons_succ]
        refine wpAnyC_one (j := 9) (by kernel_rfl) rfl (fun K hK => ?_)
        rw [if_pos (by rfl)]
        refine wp_append_own_f _ _ 24 rfl w1.heap.size 66 i0 (.agg #[.string ⟨#[]⟩, .bool false, .slice none 0 0, .int .i64 0]) 4 56 Tryz.underlying24 hi0 hz0 hz1 hz2 rfl (by decide) (.slice a0 d.length cc) d.length (rowNm d) rfl HO5.out ⟨w4.heap.size, 0, none⟩ 1 1 (nmV y) rfl rfl (World.news_of_block (cs := nmA y) HN5.out) ?p1 (by decide) ?p2 ?p3 ?p4 ?_
        case p1 => exact fun u hu => Array.all_eq_true_iff_forall_mem.1 (nmA_one y) u (Array.mem_toList_iff.1 hu)
        case p2 => unfold maxLen; omega
        case p3 => omega
        case p4 => exact hsw5
        intro v' w6 hown' hgrow hpl
        have hb6 : Below w1.heap.size w1 w6 := HB5.out.2.grown hgrow hsw5 (fun j e => (own_lt HO5.out e).1)
        have hoe : (Value.slice a0 d.length cc).ownBlock ≠ some w3.heap.size := by
          intro e
          obtain ⟨cur, hcur⟩ := own_typed HO5.out e
          have hw := HW5.out
          unfold Whole at hw
          rw [hcur] at hw
          injection hw with hw
          injection hw with _ hw _
          exact absurd hw (by decide)
        have hW6 := HW5.out.kept hgrow (fun e => hoe e.symm)
        have hS : (fun v => v.cell? ⟨R, o + i * 4, none⟩ = some (.string x.name) ∧ v.cell? ⟨w3.heap.size, 0, none⟩ = some (.bool x.wd) ∧ v.cell? ⟨w3.heap.size, 1, none⟩ = some (.slice A5 n5 c5) ∧ v.cell? ⟨w3.heap.size, 2, none⟩ = some (.int .i64 0)) w6 := ⟨(HQ.out _ (hb6)).1, (hW6).reads 0, (hW6).reads 1, (hW6).reads 2⟩
        have hown2 : w6.ownsRow w1.heap.size 66 4 v' (d ++ [y]).length (rowNm (d ++ [y])) := by rw [← rowNm_snoc1, List.length_append]; exact hown'
        have hs6 : w5.heap.size ≤ w6.heap.size := hgrow.size
        have hos2 := HB2.out.1.size
        have hos3 := HB3.out.1.size
        have hos4 := HB4.out.1.size
        have hmem : ∀ z ∈ d ++ [y], NmOk w6 z ∧ z.s.n ≤ 1000000 ∧ (0 < z.s.n → ∀ R o, z.s.A = some ⟨R, o, none⟩ → v'.ownBlock ≠ some R ∧ R < w6.heap.size) := by
          intro z hz
          have hkey : ∀ (Rz : Nat), Rz < w5.heap.size → (Value.slice a0 d.length cc).ownBlock ≠ some Rz → v'.ownBlock ≠ some Rz ∧ w6.heap[Rz]? = w5.heap[Rz]? := fun Rz h1 h2 => by
            refine ⟨?_, hgrow.block Rz h1 (fun e => h2 e.symm)⟩
            rcases hpl with e | e
            · rw [e]; exact h2
            · rw [e]; intro e2; injection e2 with e2; omega
          rcases List.mem_append.1 hz with hz | hz
          · obtain ⟨h1, h2, h3⟩ := HR.out.2.2.1 z hz
            have hg5 := (((h1.2.below HB2.out.1).below HB3.out.1).below HB4.out.1).below HB5.out.1
            refine ⟨⟨h1.1, glyphs_moved2 hg5 hs6 (fun h0 Rz oz e => (hkey Rz (by have := (h3 h0 Rz oz e).2; omega) (h3 h0 Rz oz e).1).2)⟩, h2, fun h0 Rz oz e => ⟨(hkey Rz (by have := (h3 h0 Rz oz e).2; omega) (h3 h0 Rz oz e).1).1, by have := (h3 h0 Rz oz e).2; omega⟩⟩
          · rw [List.mem_singleton] at hz
            subst hz
            rw [← hy]
            have hg5 := (HG3.out.1.below HB4.out.1).below HB5.out.1
            have hlow : ∀ Rz oz, A5 = some ⟨Rz, oz, none⟩ → (Value.slice a0 d.length cc).ownBlock ≠ some Rz := fun Rz oz e e2 => by
              have h1 := HG3.out.2 Rz oz e
              have h2 := (own_lt HR.out.2.2.2.1 e2).2
              omega
            have hup : 0 < n5 → ∀ Rz oz, A5 = some ⟨Rz, oz, none⟩ → Rz < w5.heap.size := fun h0 Rz oz e => by
              obtain ⟨R', o', e', hR', -⟩ := hg5.at_ h0
              rw [e] at e'
              injection e' with e'
              injection e' with e'
              omega
            exact ⟨⟨HOK.out.1, glyphs_moved2 hg5 hs6 (fun h0 Rz oz e => (hkey Rz (hup h0 Rz oz e) (hlow Rz oz e)).2)⟩, hn5, fun h0 Rz oz e => ⟨(hkey Rz (hup h0 Rz oz e) (hlow Rz oz e)).1, by have := hup h0 Rz oz e; omega⟩⟩
        have HZ := Lib.hid (And.intro hown2 (And.intro hmem hb6))
        rw [← hy] at HZ
        clear hown2 hmem hown' hgrow hpl hb6 hW6 hoe
        refine hK.out _ _ ⟨hS, ?_⟩
        clear hK K
        try simp only [Act.put, List.setIfInBounds_toArray, List.set_cons_zero, List.set_cons_succ]
        refine wpAnyC_take (i := 10) (v := ?v9) rfl (by kernel_rfl) (fun _ _ _ h => h) (Or.inl ⟨by rfl, ?y9⟩) hS ?r9
        case y9 => intro wq _; go_simp; all_goals (first | with_reducible rfl | go_num | (simp; done) | (simp; omega) | skip)
        try simp only [Act.put, List.setIfInBounds_toArray, List.set_cons_zero, List.set_cons_succ]
        refine wpAnyC_done (by kernel_rfl) ?_ _
        clear hS
        have hs3 := HB3.out.1.size
        have hs2 := HB2.out.1.size
        have hs4 := HB4.out.1.size
        go_wp2_with fail
        go_roundw
        case rel =>
          refine ⟨i + 1, d ++ [⟨x.name, x.wd, ⟨A5, n5, c5⟩, 0, cutF l x⟩], by omega, by go_num, Lib.hid ⟨?_, ?_, ?_, ?_, ?_⟩⟩
          · rw [List.length_append]
            have := HR.out.1
            simp
            omega
          · rw [HFS.out, HT.out, if_pos rfl, List.map_append, List.map_append, HR.out.2.1]
            rfl
          · exact HZ.out.2.1
          · exact HZ.out.1
          · exact HZ.out.2.2
        case measure => simp [intOf]; omega
      · have d2 : decide (0 < N4) = false := decide_eq_false hz
        have d2' : decide ((N4 : Int) > 0) = false := decide_eq_false (by omega)
        have HT := Lib.hid (show useB l x = false by rw [HUP.out, d2])
        go_wp2_with fail
        go_roundw
        case rel =>
          refine ⟨i + 1, d, by omega, by go_num, Lib.hid ⟨by have := HR.out.1; omega, ?_, ?_, HO2.out, HB2.out.2⟩⟩
          · rw [HFS.out, HT.out, if_neg (by decide)]
            exact HR.out.2.1
          · intro y hy
            obtain ⟨h1, h2, h3⟩ := HR.out.2.2.1 y hy
            exact ⟨h1.later HB2.out.1, h2, fun h0 R o e => ⟨(h3 h0 R o e).1, Nat.lt_of_lt_of_le (h3 h0 R o e).2 HB2.out.1.size⟩⟩
        case measure => simp [intOf]; omega
    · obtain rfl : i = n := by omega
      have d1 : decide ((i : Int) < (i : Int)) = false := by simp
      have htl : fs.take i = fs := List.take_of_length_le (by rw [HL.out.1]; exact Nat.le_refl _)
      have hR := HR.out
      rw [htl] at hR
      obtain ⟨hdlen, hkey, hok, hown, hbb⟩ := hR
      obtain ⟨A3, c3, e3, h3, -⟩ := RowAt.of_own (nmV_all d) (by decide) (show wr.ownsRow w1.heap.size 66 4 (.slice a0 d.length cc) d.length (d.map nmV).flatten from hown)
      injection e3 with e3 e4 e5
      subst e3 e5
      have HZ := Lib.hid (And.intro (show NmsAt wr a0 d.length cc d from ⟨h3, fun x hx => (hok x hx).1⟩) (And.intro (fun f hf => (hok f hf).2.1) (And.intro (HB1.out.trans (hbb.mono HB1.out.size)) (show CutIs l fs d from hkey))))
      clear h3 htl hdlen hkey hok hown hbb
      go_wp2_with fail
      go_ret2
      refine ⟨a0, d.length, cc, d, by rw [HKB.out.2]; rfl, HZ.out.1, HZ.out.2.1, HZ.out.2.2.1, ?_⟩
      rw [if_pos HKB.out.1]
      exact HZ.out.2.2.2
end Go.Proofs.YtdlmhienolmncaaGreat
