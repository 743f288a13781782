/- Slices of points; Of and the reference's Of at any points; the reference's Map of a box at any arguments. -/
import Derived.Test.YtpdjooeogpidhaaRefBoxP
import Derived.Test.YtpdjooeogpidhaaLaidPts2
import Derived.Laws.AppendOwn
import Derived.Test.YtpdjooeogpidhaaBoxAwake
import Derived.Laws.AppendOwnNone
namespace Go.Proofs.Ytpdjooeogpidhaa
open Go.RowKit Dec

def PtsAt (w : World) (A : Option Addr) (n : Nat) (F : Nat → PV) : Prop := n = 0 ∨ ∃ R o, A = some ⟨R, o, none⟩ ∧ ∀ i < n, PAt w R (o + i * 4) (F i)
theorem PtsAt.later {w w' : World} {A : Option Addr} {n : Nat} {F : Nat → PV} (h : PtsAt w A n F) (hb : Below w.heap.size w w') : PtsAt w' A n F := by
  rcases h with h | ⟨R, o, e, h⟩
  · exact .inl h
  · exact .inr ⟨R, o, e, fun i hi => (h i hi).later hb⟩
/-- The j-th cell of a row of points. -/
def cellP (F : Nat → PV) (j : Nat) : Value := if j % 4 = 0 then .int .i64 (F (j / 4)).x.m else if j % 4 = 1 then .int .i64 (F (j / 4)).x.s else if j % 4 = 2 then .int .i64 (F (j / 4)).y.m else .int .i64 (F (j / 4)).y.s
def rowP (F : Nat → PV) (n : Nat) : List Value := (List.range (n * 4)).map (cellP F)
theorem rowP_len (F : Nat → PV) (n : Nat) : (rowP F n).length = n * 4 := by simp [rowP]
theorem rowP_at {F : Nat → PV} {n j : Nat} (h : j < n * 4) : (rowP F n)[j]? = some (cellP F j) := by simp [rowP, h]
theorem rowP_one (F : Nat → PV) (n : Nat) : ∀ u ∈ rowP F n, u.oneCell' = true := by
  intro u hu
  obtain ⟨j, _, rfl⟩ := List.mem_map.1 hu
  unfold cellP
  split
  · rfl
  · split
    · rfl
    · split <;> rfl
theorem cellP_at (F : Nat → PV) (i : Nat) : cellP F (i * 4) = .int .i64 (F i).x.m ∧ cellP F (i * 4 + 1) = .int .i64 (F i).x.s ∧ cellP F (i * 4 + 2) = .int .i64 (F i).y.m ∧ cellP F (i * 4 + 3) = .int .i64 (F i).y.s := by
  unfold cellP
  refine ⟨?_, ?_, ?_, ?_⟩
  · rw [if_pos (by omega), show i * 4 / 4 = i by omega]
  · rw [if_neg (by omega), if_pos (by omega), show (i * 4 + 1) / 4 = i by omega]
  · rw [if_neg (by omega), if_neg (by omega), if_pos (by omega), show (i * 4 + 2) / 4 = i by omega]
  · rw [if_neg (by omega), if_neg (by omega), if_neg (by omega), show (i * 4 + 3) / 4 = i by omega]
theorem pts_news {w : World} {R o n : Nat} {F : Nat → PV} (h : ∀ i < n, PAt w R (o + i * 4) (F i)) (j : Nat) (u : Value) (hu : (rowP F n)[j]? = some u) : w.cell? ((⟨R, o, none⟩ : Addr).add j) = some u := by
  have hj : j < n * 4 := by have := (List.getElem?_eq_some_iff.1 hu).1; rwa [rowP_len] at this
  rw [rowP_at hj] at hu
  injection hu with hu
  subst hu
  rw [add_none2 rfl]
  obtain ⟨i, hi⟩ : ∃ i, j / 4 = i := ⟨_, rfl⟩
  have hc := cellP_at F i
  obtain ⟨a0, a1, a2, a3⟩ := h i (by omega)
  rcases (by omega : j = i * 4 ∨ j = i * 4 + 1 ∨ j = i * 4 + 2 ∨ j = i * 4 + 3) with rfl | rfl | rfl | rfl
  · rw [hc.1]; exact a0
  · rw [hc.2.1]; exact a1
  · rw [hc.2.2.1]; exact a2
  · rw [hc.2.2.2]; exact a3
theorem own_pts {W : World} {base n : Nat} {v : Value} {F : Nat → PV} (h : W.ownsRow base 27 4 v n (rowP F n)) : ∃ A c, v = .slice A n c ∧ PtsAt W A n F := by
  obtain ⟨_, h⟩ := h
  rcases h with ⟨rfl, rfl⟩ | ⟨g, cap, cur, rfl, hg, hw, hnc, hc, hs, ht⟩
  · exact ⟨none, 0, rfl, .inl rfl⟩
  · have hw' : Whole W g 27 cur := hw
    have key : ∀ j, j < n * 4 → W.cell? ⟨g, 0 + j, none⟩ = some (cellP F j) := fun j hj => by
      have e1 := rowP_at (F := F) hj
      rw [← ht, List.getElem?_take, if_pos hj] at e1
      rw [hw'.reads, Nat.zero_add, ← e1, Array.getElem?_toList]
    refine ⟨_, cap, rfl, .inr ⟨g, 0, rfl, fun i hi => ?_⟩⟩
    have hc := cellP_at F i
    refine ⟨?_, ?_, ?_, ?_⟩
    · rw [key _ (by omega), hc.1]
    · rw [show 0 + i * 4 + 1 = 0 + (i * 4 + 1) by omega, key _ (by omega), hc.2.1]
    · rw [show 0 + i * 4 + 2 = 0 + (i * 4 + 2) by omega, key _ (by omega), hc.2.2.1]
    · rw [show 0 + i * 4 + 3 = 0 + (i * 4 + 3) by omega, key _ (by omega), hc.2.2.2]
theorem ofall_any (A : Option Addr) (n c : Nat) (F : Nat → PV) (w : World) (b : BV) (E : Int) (hn : n ≤ 100) (hA : PtsAt w A n F) (h : OfIs F n b E) :
    Calls Try.prog 16 #[.slice A n c] w (IsB b E w) := by
  rcases Nat.eq_zero_or_pos n with rfl | hp
  · obtain ⟨rfl, rfl⟩ : b = .zero ∧ E = 8 := by
      rcases h with ⟨-, h1, h2⟩ | ⟨h, -⟩ | ⟨h, -⟩
      · exact ⟨h1, h2⟩
      · omega
      · omega
    exact of_none A c w
  · rcases hA with h0 | ⟨R, o, rfl, hF⟩
    · omega
    · exact of_any F n c R o w b E hp (by omega) hF h
theorem refofall_any (A : Option Addr) (n c : Nat) (F : Nat → PV) (w : World) (b : BV) (E : Int) (hn : n ≤ 100) (hA : PtsAt w A n F) (h : OfIs F n b E) :
    Calls Try.prog 17 #[.slice A n c] w (IsB b E w) := by
  rcases Nat.eq_zero_or_pos n with rfl | hp
  · obtain ⟨rfl, rfl⟩ : b = .zero ∧ E = 8 := by
      rcases h with ⟨-, h1, h2⟩ | ⟨h, -⟩ | ⟨h, -⟩
      · exact ⟨h1, h2⟩
      · omega
      · omega
    exact refof_none A c w
  · rcases hA with h0 | ⟨R, o, rfl, hF⟩
    · omega
    · exact refof_any F n c R o w b E hp (by omega) hF h
set_option maxRecDepth 100000 in
set_option maxHeartbeats 8000000 in
theorem refbmap_bad (m : MV) (b : BV) (w : World) (h : ¬ (m.Ok ∧ b.Ok)) :
    Calls Try.prog 23 #[m.val, b.val] w (IsB .zero 1 w) := by
  have hB0 := (BIn.made (w.alloc (.cells #[.int .i64 m.a.m, .int .i64 m.a.s, .int .i64 m.b.m, .int .i64 m.b.s, .int .i64 m.c.m, .int .i64 m.c.s, .int .i64 m.d.m, .int .i64 m.d.s, .int .i64 m.e.m, .int .i64 m.e.s, .int .i64 m.f.m, .int .i64 m.f.s] 25)) 40 b).old (.cells #[.int .i64 0, .int .i64 0, .int .i64 0, .int .i64 0, .int .i64 0, .int .i64 0, .int .i64 0, .int .i64 0] 40)
  have hR0 := Whole.made ((w.alloc (.cells #[.int .i64 m.a.m, .int .i64 m.a.s, .int .i64 m.b.m, .int .i64 m.b.s, .int .i64 m.c.m, .int .i64 m.c.s, .int .i64 m.d.m, .int .i64 m.d.s, .int .i64 m.e.m, .int .i64 m.e.s, .int .i64 m.f.m, .int .i64 m.f.s] 25)).alloc (.cells #[.int .i64 b.x0.m, .int .i64 b.x0.s, .int .i64 b.y0.m, .int .i64 b.y0.s, .int .i64 b.x1.m, .int .i64 b.x1.s, .int .i64 b.y1.m, .int .i64 b.y1.s] 40)) 40 #[.int .i64 0, .int .i64 0, .int .i64 0, .int .i64 0, .int .i64 0, .int .i64 0, .int .i64 0, .int .i64 0]
  simp only [World.size_alloc] at hB0 hR0
  have hb0 : Below w.heap.size w (((w.alloc (.cells #[.int .i64 m.a.m, .int .i64 m.a.s, .int .i64 m.b.m, .int .i64 m.b.s, .int .i64 m.c.m, .int .i64 m.c.s, .int .i64 m.d.m, .int .i64 m.d.s, .int .i64 m.e.m, .int .i64 m.e.s, .int .i64 m.f.m, .int .i64 m.f.s] 25)).alloc (.cells #[.int .i64 b.x0.m, .int .i64 b.x0.s, .int .i64 b.y0.m, .int .i64 b.y0.s, .int .i64 b.x1.m, .int .i64 b.x1.s, .int .i64 b.y1.m, .int .i64 b.y1.s] 40)).alloc (.cells #[.int .i64 0, .int .i64 0, .int .i64 0, .int .i64 0, .int .i64 0, .int .i64 0, .int .i64 0, .int .i64 0] 40)) := by (repeat (first | with_reducible exact Below.refl _ _ | with_reducible refine Below.drew ?_ | with_reducible refine bdrewN ?_ _ | (with_reducible refine Below.setCell ?_ ?_ _; rotate_left; focus (first | exact Nat.le_refl _ | omega | (simp; omega) | (simp; done))) | (with_reducible refine Below.alloc ?_ ?_ _; rotate_left; focus (first | exact Nat.le_refl _ | omega | (simp; omega) | (simp; done))) | (with_reducible refine Below.trans ?_ (Below.mono (by assumption) ?_); rotate_left; focus (first | exact Nat.le_refl _ | omega | (simp; omega) | (simp; done)))))
  have H0 := Lib.hid (And.intro hB0 (And.intro hR0 hb0))
  clear hB0 hR0 hb0
  by_cases hm : m.Ok
  · have HA := Lib.hid (And.intro hm (show ¬ b.Ok from fun k => h ⟨hm, k⟩))
    clear h hm
    go_enter Try.func23, Try.ntmps23
    go_wp2_with fail
    refine (mright_any m _ true (decide_eq_true HA.out.1)).mono ?_
    rintro e w1 ⟨rfl, kk⟩
    have H1 := Lib.hid (And.intro (H0.out.1.later kk) (And.intro (H0.out.2.1.here kk) (H0.out.2.2.trans (kk.mono H0.out.2.2.size))))
    clear kk
    obtain ⟨q0, q1, q2, q3, q4, q5, q6, q7⟩ := id H1.out.1
    have lt := H1.out.1.lt
    go_wp2_with fail
    refine (bright_any b _ false (decide_eq_false HA.out.2)).mono ?_
    rintro e w2 ⟨rfl, kk⟩
    have hR := H1.out.2.1.here kk
    have hb := H1.out.2.2.trans (kk.mono H1.out.2.2.size)
    clear kk q0 q1 q2 q3 q4 q5 q6 q7 lt
    have rd := hR.reads
    have ft := hR.thawed
    have lR := hR.lt
    go_wp2_with fail
    refine bodyPost_ret (v := .tuple #[BV.zero.val, .int .i64 1]) (by simp [results, Try.results23, go_sem, rd, BV.zero, DV.zero]) rfl ⟨rfl, ?_⟩
    (repeat (first | with_reducible refine Below.drew ?_ | with_reducible refine bdrewN ?_ _ | (with_reducible refine Below.setCell ?_ ?_ _; rotate_left; focus (first | exact Nat.le_refl _ | omega | (simp; omega) | (simp; done))) | (with_reducible refine Below.alloc ?_ ?_ _; rotate_left; focus (first | exact Nat.le_refl _ | omega | (simp; omega) | (simp; done))))); with_reducible exact hb
  · have HA := Lib.hid hm
    clear h hm
    go_enter Try.func23, Try.ntmps23
    go_wp2_with fail
    refine (mright_any m _ false (decide_eq_false HA.out)).mono ?_
    rintro e w1 ⟨rfl, kk⟩
    have hR := H0.out.2.1.here kk
    have hb := H0.out.2.2.trans (kk.mono H0.out.2.2.size)
    clear kk
    have rd := hR.reads
    have ft := hR.thawed
    have lR := hR.lt
    go_wp2_with fail
    refine bodyPost_ret (v := .tuple #[BV.zero.val, .int .i64 1]) (by simp [results, Try.results23, go_sem, rd, BV.zero, DV.zero]) rfl ⟨rfl, ?_⟩
    (repeat (first | with_reducible refine Below.drew ?_ | with_reducible refine bdrewN ?_ _ | (with_reducible refine Below.setCell ?_ ?_ _; rotate_left; focus (first | exact Nat.le_refl _ | omega | (simp; omega) | (simp; done))) | (with_reducible refine Below.alloc ?_ ?_ _; rotate_left; focus (first | exact Nat.le_refl _ | omega | (simp; omega) | (simp; done))))); with_reducible exact hb
theorem refbmapx (m : MV) (b r : BV) (E : Int) (w : World) (h : BMapIs m b r E) :
    Calls Try.prog 23 #[m.val, b.val] w (IsB r E w) := by
  rcases h with ⟨hm, rfl, rfl⟩ | ⟨hm, hb, rfl, rfl⟩ | ⟨hm, hb, q, n, hn, hq, hx, hE, rfl⟩ | ⟨hm, hb, q, hq, rfl, rfl⟩
  · exact refbmap_bad m b w (fun k => hm k.1)
  · exact refbmap_bad m b w (fun k => hb k.2)
  · exact refbmap_any m b _ q n E w hm hb (by omega) hq (.inr ⟨hn, hx, hE, rfl⟩)
  · exact refbmap_any m b _ q 4 0 w hm hb (by omega) hq (.inl ⟨rfl, rfl, rfl⟩)
end Go.Proofs.Ytpdjooeogpidhaa
/- BoxDoes: the append of points to an empty row. -/
namespace Go.Proofs.Ytpdjooeogpidhaa
open Go.RowKit Dec

theorem infoPt : (Try.prog.info? 27).map (fun i => (i.zero, i.size, i.bytes)) = some (some (.agg #[.int .i64 0, .int .i64 0, .int .i64 0, .int .i64 0]), 4, 32) := by kernel_rfl
theorem info_pt : ∃ i, Try.prog.info? 27 = some i ∧ i.zero = some (.agg #[.int .i64 0, .int .i64 0, .int .i64 0, .int .i64 0]) ∧ i.size = 4 ∧ i.bytes = 32 := by
  have h := infoPt
  cases hi : Try.prog.info? 27 with
  | none => rw [hi] at h; cases h
  | some i =>
    rw [hi] at h
    injection h with h
    injection h with h1 h2
    injection h2 with h2 h3
    exact ⟨i, rfl, h1, h2, h3⟩
theorem wpList_app_pts {ops : Array Oper} {rest : List Oper} {o : Oper} {a : Act} {Q : Exit → Act → World → Prop} {W : World} (hgd : o.guard = none) (s x : Operand)
    (ho : o.op = .call { callee := .builtin .append, args := #[s, x], argTypes := #[41, 41] })
    (g n c : Nat) (A : Option Addr) (F : Nat → PV) (hs : a.eval s = .slice (some ⟨g, 0, none⟩) 0 0) (hg : Whole W g 27 #[]) (hx : a.eval x = .slice A n c) (hA : PtsAt W A n F) (hz : A = none → n = 0 ∧ c = 0) (hn : n ≤ 100)
    (h : ∀ A' c' w', PtsAt w' A' n F → Below g W w' → wpList Try.prog ops Q rest (a.put o.dst (.slice A' n c')) w') : wpList Try.prog ops Q (o :: rest) a W := by
  obtain ⟨i0, hi, hz0, hz1, hz2⟩ := info_pt
  have hown : W.ownsRow g 27 4 (.slice (some ⟨g, 0, none⟩) 0 0) 0 [] := ⟨rfl, .inr ⟨g, 0, #[], rfl, Nat.le_refl _, hg, Nat.le_refl _, by unfold maxLen; omega, rfl, rfl⟩⟩
  have lg := hg.lt
  have key : ∀ ad : Addr, A = some ad → (∀ j u, (rowP F n)[j]? = some u → W.cell? (ad.add j) = some u) → wpList Try.prog ops Q (o :: rest) a W := fun ad e hnews => by
    subst e
    refine wpList_append_own _ hgd s x _ ho g 27 i0 (.agg #[.int .i64 0, .int .i64 0, .int .i64 0, .int .i64 0]) 4 32 Try.underlying41 hi hz0 hz1 hz2 rfl (by decide) _ _ _ hs hown ad n c (rowP F n) hx (rowP_len F n) hnews (rowP_one F n) (by unfold maxLen; omega) (by omega) (by omega) ?_
    intro v' w' hown' hgrow _
    rw [Nat.zero_add, List.nil_append] at hown'
    obtain ⟨A', c', rfl, hp⟩ := own_pts hown'
    exact h A' c' w' hp ((Below.refl g W).grown hgrow (by omega) (fun k e => by
      have e : some g = some k := e
      injection e with e
      omega))
  cases A with
  | none =>
    obtain ⟨rfl, rfl⟩ := hz rfl
    exact wpList_append_own_none hgd s x _ ho g 27 i0 4 Try.underlying41 hi _ _ _ hs hown hx (h _ _ W (.inl rfl) (Below.refl _ _))
  | some ad =>
    refine key ad rfl ?_
    rcases hA with rfl | ⟨R, q, e, hF⟩
    · intro j u hu
      simp [rowP] at hu
    · injection e with e
      subst e
      exact pts_news hF
theorem bcheck_said (b : BV) (w : World) : Calls Try.prog 25 #[b.val] w fun e w' => ∃ E : Int, (E == 0) = decide b.Ok ∧ e = .returned (.int .i64 E) ∧ Below w.heap.size w w' := by
  by_cases hv : b.Ok
  · exact (bcheck_any b w 0 (.inl ⟨hv, rfl⟩)).mono fun e w' ⟨he, hb⟩ => ⟨0, by rw [decide_eq_true hv]; rfl, he, hb⟩
  · exact (bcheck_any b w 1 (.inr ⟨hv, rfl⟩)).mono fun e w' ⟨he, hb⟩ => ⟨1, by rw [decide_eq_false hv]; rfl, he, hb⟩
end Go.Proofs.Ytpdjooeogpidhaa
