/- cut: keep, of marks. -/
import Derived.Test.YtdlmhienolmncaaGreatCutB
import Derived.Test.YtdlmhienolmncaaGreatRowW
namespace Go.Proofs.YtdlmhienolmncaaGreat
open Go.RowKit Dec

theorem infoMk : (Tryz.prog.info? 55).map (fun i => (i.zero, i.size, i.bytes)) = some (some (.agg #[.int .i64 0, .int .i64 0, .int .i64 0, .int .i64 0, .int .i64 0, .int .i64 0, .int .i64 0, .int .i64 0, .int .i64 0, .int .i64 0, .int .i64 0, .int .i64 0, .int .i64 0, .string ⟨#[]⟩, .int .i64 0, .slice none 0 0, .slice none 0 0, .int .i64 0, .int .i64 0, .int .i64 0, .int .i64 0, .int .i64 0, .int .i64 0, .int .i64 0, .int .i64 0]), 25, 240) := by kernel_rfl
theorem info_mk : ∃ i, Tryz.prog.info? 55 = some i ∧ i.zero = some (.agg #[.int .i64 0, .int .i64 0, .int .i64 0, .int .i64 0, .int .i64 0, .int .i64 0, .int .i64 0, .int .i64 0, .int .i64 0, .int .i64 0, .int .i64 0, .int .i64 0, .int .i64 0, .string ⟨#[]⟩, .int .i64 0, .slice none 0 0, .slice none 0 0, .int .i64 0, .int .i64 0, .int .i64 0, .int .i64 0, .int .i64 0, .int .i64 0, .int .i64 0, .int .i64 0]) ∧ i.size = 25 ∧ i.bytes = 240 := by
  have h := infoMk
  cases hi : Tryz.prog.info? 55 with
  | none => rw [hi] at h; cases h
  | some i =>
    rw [hi] at h
    injection h with h
    injection h with h1 h2
    injection h2 with h2 h3
    exact ⟨i, rfl, h1, h2, h3⟩
/-- The cells of marks, one behind the other. -/
def rowMk (l : List Mk) : List Value := (l.map mkV).flatten
theorem rowMk_snoc (l : List Mk) (x : Mk) : rowMk l ++ [.int .i64 x.kind, .int .i64 x.m.a.m, .int .i64 x.m.a.s, .int .i64 x.m.b.m, .int .i64 x.m.b.s, .int .i64 x.m.c.m, .int .i64 x.m.c.s, .int .i64 x.m.d.m, .int .i64 x.m.d.s, .int .i64 x.m.e.m, .int .i64 x.m.e.s, .int .i64 x.m.f.m, .int .i64 x.m.f.s, .string x.name, .int .i64 x.code, .slice x.ops.A x.ops.n x.ops.c, .slice x.st.A x.st.n x.st.c, .int .i64 x.box.x0.m, .int .i64 x.box.x0.s, .int .i64 x.box.y0.m, .int .i64 x.box.y0.s, .int .i64 x.box.x1.m, .int .i64 x.box.x1.s, .int .i64 x.box.y1.m, .int .i64 x.box.y1.s] = rowMk (l ++ [x]) := by unfold rowMk; rw [List.map_append]; exact flat_snoc _ _
theorem mkV_all (l : List Mk) : ∀ cs ∈ l.map mkV, cs.length = 25 := fun cs h => by
  obtain ⟨x, -, rfl⟩ := List.mem_map.1 h
  rfl
theorem MarksAt.of_own {w : World} {base : Nat} {v : Value} {n : Nat} {l : List Mk} (h : w.ownsRow base 55 25 v n (rowMk l)) (hk : ∀ x ∈ l, MkOk w x) : ∃ A c, v = .slice A n c ∧ MarksAt w A n c l ∧ ∀ R o, A = some ⟨R, o, none⟩ → base ≤ R := by
  obtain ⟨A, c, e, hr, hb⟩ := RowAt.of_own (mkV_all l) (by decide) h
  exact ⟨A, c, e, ⟨hr, hk⟩, hb⟩
theorem filt_step {α : Type} (p : α → Bool) {l : List α} {k : Nat} {x : α} (h : l[k]? = some x) : (l.take (k + 1)).filter p = if p x = true then (l.take k).filter p ++ [x] else (l.take k).filter p := by
  rw [List.take_add_one, h, List.filter_append]
  show _ ++ List.filter _ [x] = _
  by_cases hm : p x = true
  · rw [if_pos hm, List.filter_cons_of_pos hm, List.filter_nil]
  · rw [if_neg hm, List.filter_cons_of_neg hm, List.filter_nil, List.append_nil]
theorem own_slM {w : World} {base : Nat} {e : TypeId} {size : Nat} {v : Value} {n : Nat} {xs : List Value} (h : w.ownsRow base e size v n xs) : ∃ a c, v = .slice a n c := by
  obtain ⟨-, h⟩ := h
  rcases h with ⟨rfl, rfl⟩ | ⟨g, cap, cur, rfl, -⟩
  · exact ⟨none, 0, rfl⟩
  · exact ⟨_, _, rfl⟩
/-- A mark's cells as an array. -/
def mkA (x : Mk) : Array Value := (mkV x).toArray
theorem mkA_list (x : Mk) : (mkA x).toList = mkV x := rfl
theorem mkA_size (x : Mk) : (mkA x).size = 25 := rfl
theorem mkA_one (x : Mk) : (mkA x).all (·.oneCell') = true := by
  rw [Array.all_eq_true_iff_forall_mem]
  intro u hu
  have : u ∈ mkV x := by rw [← mkA_list]; exact Array.mem_toList_iff.2 hu
  unfold mkV at this
  simp only [List.mem_cons, List.not_mem_nil, or_false] at this
  rcases this with rfl | rfl | rfl | rfl | rfl | rfl | rfl | rfl | rfl | rfl | rfl | rfl | rfl | rfl | rfl | rfl | rfl | rfl | rfl | rfl | rfl | rfl | rfl | rfl | rfl <;> rfl
theorem szMk (x : Mk) : (Tryz.prog.info? 55).map (·.size) = some (mkA x).size := by
  obtain ⟨i, h, -, h2, -⟩ := info_mk
  rw [h, mkA_size]
  exact congrArg some h2
set_option maxRecDepth 100000 in
set_option maxHeartbeats 8000000 in
theorem keepM_any (l : List Mk) (B : Nat) (A : Option Addr) (n c : Nat) (A2 : Option Addr) (n2 c2 : Nat) (rs : List BV) (w : World) (hl : MarksAt w A n c l) (hn : n ≤ 1000000) (h : BxsAt w A2 n2 c2 rs) (hB : Whole w B 23 #[.slice A2 n2 c2]) (hn2 : n2 ≤ 1000000) :
    Calls Tryz.prog 24 #[.slice A n c, .func (.func 25) #[] #[.pointer (some ⟨B, 0, none⟩)]] w fun e w' => ∃ A' c', e = .returned (.slice A' (l.filter (stays rs)).length c') ∧ MarksAt w' A' (l.filter (stays rs)).length c' (l.filter (stays rs)) ∧ Below w.heap.size w w' := by
  have hcap := hl.row.cap
  have htop := hl.row.top
  have HL := Lib.hid hl.len
  have H1 := Lib.hid hl
  have HC := Lib.hid (fun x w' (hb : Below w.heap.size w w') => show Calls Tryz.prog 25 #[.agg (mkA x), .pointer (some ⟨B, 0, none⟩)] w' fun e w'' => e = .returned (.bool (stays rs x)) ∧ Below w'.heap.size w' w'' from cut1_any x B A2 n2 c2 rs w' (h.below hb) (hB.here hb) hn2)
  clear hl h hB
  go_enter Tryz.func24, Tryz.ntmps24
  go_wp2_with fail
  go_loopw [5, 10] (fun v i wr => ∃ k : Nat, i = .int .i64 (k : Int) ∧ k ≤ n ∧ Hid (wr.ownsRow w.heap.size 55 25 v ((l.take k).filter (stays rs)).length (rowMk ((l.take k).filter (stays rs)))) ∧ Hid (Below w.heap.size w wr)) (fun _ i _ => n - (intOf i).toNat)
  case atStart => exact ⟨0, rfl, by omega, Lib.hid (World.ownsRow_nil _ _ _ _), Lib.hid (Below.refl _ _)⟩
  case round =>
    obtain ⟨k, rfl, hk, HR, HB⟩ := hrel
    obtain ⟨a0, cc, rfl⟩ := own_slM HR.out
    by_cases hlt : k < n
    · have d1 : decide ((k : Int) < (n : Int)) = true := decide_eq_true (by omega)
      obtain ⟨x, hx⟩ : ∃ x, l[k]? = some x := ⟨_, List.getElem?_eq_getElem (by rw [HL.out]; exact hlt)⟩
      obtain ⟨R, o, rfl, hR, hc, -⟩ := (H1.out.below HB.out).get hx
      have HA := Lib.hid (show ∀ (j : Nat) (u : Value), (mkA x).toList[j]? = some u → wr.cell? ⟨R, o + k * 25 + j, none⟩ = some u from hc)
      have HS := Lib.hid (filt_step (stays rs) hx)
      obtain ⟨w1, hw1⟩ : ∃ w1, wr.alloc (.cells (mkA x) 55) = w1 := ⟨_, rfl⟩
      have hbm : Below w.heap.size w w1 := by rw [← hw1]; exact HB.out.alloc HB.out.size _
      have hW1 : Whole w1 wr.heap.size 55 (mkA x) := by rw [← hw1]; exact Whole.made _ _ _
      have HBR := Lib.hid (show Below wr.heap.size wr w1 by rw [← hw1]; exact (Below.refl _ _).alloc (Nat.le_refl _) _)
      have hs1 : w1.heap.size = wr.heap.size + 1 := by rw [← hw1]; exact World.size_alloc _ _
      have HW1 := Lib.hid hw1
      have HWW := Lib.hid hW1
      have HM := Lib.hid (HC.out x w1 hbm)
      have HBM := Lib.hid hbm
      obtain ⟨r, hr⟩ : ∃ r, stays rs x = r := ⟨_, rfl⟩
      rw [hr] at HM HS
      have hkl : ((l.take k).filter (stays rs)).length ≤ 1000000 := Nat.le_trans (List.length_filter_le _ _) (by rw [List.length_take]; omega)
      clear hc hx hr hbm hw1 hW1
      go_wp2_with (first
        | (refine wpList_load_at rfl _ _ rfl R (o + k * 25) rfl (mkA x) _ HA.out Tryz.underlying55 rfl (szMk x) ?_)
        | (refine wpList_store_let rfl _ _ _ rfl rfl _ _ (mkA x) HW1.out rfl rfl (szMk x) rfl (mkA_one x) ?_)
        | (refine wpList_load_row rfl _ _ rfl wr.heap.size rfl 55 (mkA x) (0, 0) _ HWW.out Tryz.underlying55 rfl (szMk x) ?_))
      refine HM.out.mono ?_
      rintro e w2 ⟨rfl, hb⟩
      have hW2 := HWW.out.here hb
      have hbr := HBR.out.trans (hb.mono (by omega))
      have hown2 := own_below3 HR.out hbr
      have hb2 := HBM.out.trans (hb.mono HBM.out.size)
      have hs2 := hb2.size
      have HO2 := Lib.hid (And.intro hown2 hb2)
      have HW2 := Lib.hid hW2
      clear hb hbr hown2 hb2 hW2
      cases r
      · go_wp2_with fail
        go_roundw
        case rel => exact ⟨k + 1, by go_num, by omega, Lib.hid (by rw [HS.out]; exact HO2.out.1), Lib.hid HO2.out.2⟩
        case measure => simp [intOf]; omega
      · obtain ⟨i0, hi, hz0, hz1, hz2⟩ := info_mk
        obtain ⟨w3, hw3⟩ : ∃ w3, w2.alloc (.cells (mkA x) 55) = w3 := ⟨_, rfl⟩
        have hb3 : Below w2.heap.size w2 w3 := by rw [← hw3]; exact (Below.refl _ _).alloc (Nat.le_refl _) _
        have HN3 := Lib.hid (show Whole w3 w2.heap.size 55 (mkA x) by rw [← hw3]; exact Whole.made _ _ _)
        have HO3 := Lib.hid (own_below3 HO2.out.1 hb3)
        have HB3 := Lib.hid (HO2.out.2.trans (hb3.mono HO2.out.2.size))
        have hs3 := hb3.size
        have HW3 := Lib.hid hw3
        clear hw3 hb3
        go_wp2_with (first
          | (refine wpList_load_row rfl _ _ rfl wr.heap.size rfl 55 (mkA x) (0, 0) _ HW2.out Tryz.underlying55 rfl (szMk x) ?_)
          | (refine wpList_build_one rfl 22 55 _ rfl (mkA x) i0 _ 25 rfl (mkA_size x) HW3.out Tryz.underlying22 hi hz0 hz1 (by decide) (by decide) ?_)
          | (at_builtin; refine wpList_append_own _ rfl _ _ 22 rfl w.heap.size 55 i0 (.agg #[.int .i64 0, .int .i64 0, .int .i64 0, .int .i64 0, .int .i64 0, .int .i64 0, .int .i64 0, .int .i64 0, .int .i64 0, .int .i64 0, .int .i64 0, .int .i64 0, .int .i64 0, .string ⟨#[]⟩, .int .i64 0, .slice none 0 0, .slice none 0 0, .int .i64 0, .int .i64 0, .int .i64 0, .int .i64 0, .int .i64 0, .int .i64 0, .int .i64 0, .int .i64 0]) 25 240 Tryz.underlying22 hi hz0 hz1 hz2 rfl (by decide) _ _ _ rfl HO3.out ⟨w2.heap.size, 0, none⟩ 1 1 (mkV x) rfl rfl (World.news_of_block (cs := mkA x) HN3.out) ?p1 ?p2 ?p3 ?p4 ?_))
        case p1 => exact fun u hu => Array.all_eq_true_iff_forall_mem.1 (mkA_one x) u (Array.mem_toList_iff.1 hu)
        case p2 => unfold maxLen; omega
        case p3 => omega
        case p4 => omega
        intro v' w5 hown' hgrow _
        have hb5 := HB3.out.grown hgrow (by omega) (fun j e => (own_lt HO3.out e).1)
        have hown2 : w5.ownsRow w.heap.size 55 25 v' ((l.take k).filter (stays rs) ++ [x]).length (rowMk ((l.take k).filter (stays rs) ++ [x])) := by rw [← rowMk_snoc, List.length_append]; exact hown'
        have HOB5 := Lib.hid (And.intro hown2 hb5)
        clear hown' hgrow hown2 hb5
        go_wp2_with fail
        go_roundw
        case rel => exact ⟨k + 1, by go_num, by omega, Lib.hid (by rw [HS.out]; exact HOB5.out.1), Lib.hid HOB5.out.2⟩
        case measure => simp [intOf]; omega
    · obtain rfl : k = n := by omega
      have d1 : decide ((k : Int) < (k : Int)) = false := by simp
      have HF := Lib.hid HB.out
      have hlk : l.take k = l := List.take_of_length_le (by rw [HL.out]; exact Nat.le_refl _)
      rw [hlk] at HR
      obtain ⟨A3, c3, e3, h3, -⟩ := MarksAt.of_own HR.out (fun x hx => (H1.out.ok x (List.mem_filter.1 hx).1).later HF.out)
      have HZ := Lib.hid (And.intro e3 h3)
      clear hlk e3 h3
      rw [List.take_of_length_le (by rw [HL.out]; exact Nat.le_refl _)]
      go_wp2_with fail
      go_ret
      exact ⟨A3, c3, by rw [← HZ.out.1]; rfl, HZ.out.2, HF.out⟩
end Go.Proofs.YtdlmhienolmncaaGreat
/- cut: Cut, of any marks and regions. -/
namespace Go.Proofs.YtdlmhienolmncaaGreat
open Go.RowKit Dec

theorem okB_chk (b : BV) : ChkIs b (if okB b then 0 else 1) := by
  unfold okB
  by_cases h : b.Ok
  · rw [decide_eq_true h]; exact .inl ⟨h, rfl⟩
  · rw [decide_eq_false h]; exact .inr ⟨h, rfl⟩
theorem all_step {α : Type} (p : α → Bool) {l : List α} {k : Nat} {x : α} (h : l[k]? = some x) (ha : (l.take k).all p = true) : (l.take (k + 1)).all p = p x := by
  rw [List.take_add_one, h, List.all_append, ha, Bool.true_and]
  show List.all [x] p = _
  simp
theorem all_no {α : Type} (p : α → Bool) {l : List α} {k : Nat} {x : α} (h : l[k]? = some x) (hx : p x = false) : l.all p = false := by
  rw [List.all_eq_false]
  exact ⟨x, List.mem_of_getElem? h, by rw [hx]; decide⟩
def CutSaidM (l : List Mk) (rs : List BV) (w : World) (e : Ending) (w' : World) : Prop :=
  ∃ A' c', e = .returned (.tuple #[.slice A' (cutL l rs).length c', .int .i64 (cutE l rs)]) ∧ MarksAt w' A' (cutL l rs).length c' (cutL l rs) ∧ Below w.heap.size w w'
theorem marks_nil (w : World) : MarksAt w none 0 0 [] := ⟨RowAt.none _ _, fun x hx => by simp at hx⟩
theorem cut_said_bad {l : List Mk} {rs : List BV} {w w' : World} (h : cutB l rs = false) (hb : Below w.heap.size w w') : CutSaidM l rs w (.returned (.tuple #[.slice none 0 0, .int .i64 1])) w' := by
  obtain ⟨h1, h2⟩ := cutE_bad h
  refine ⟨none, 0, ?_, ?_, hb⟩
  · rw [h1, h2]; rfl
  · rw [h2]; exact marks_nil _
set_option maxRecDepth 100000 in
set_option maxHeartbeats 8000000 in
theorem cutM_any (l : List Mk) (rs : List BV) (A : Option Addr) (n c : Nat) (A2 : Option Addr) (n2 c2 : Nat) (w : World) (hl : MarksAt w A n c l) (hn : n ≤ 1000000) (h : BxsAt w A2 n2 c2 rs) (hn2 : n2 ≤ 1000000) :
    Calls Tryz.prog 6 #[.slice A n c, .slice A2 n2 c2] w (CutSaidM l rs w) := by
  have hcap := hl.row.cap
  have htop := hl.row.top
  have hcap2 := RowAt.cap h
  have htop2 := RowAt.top h
  have HL := Lib.hid hl.len
  have HL2 := Lib.hid h.len
  have HW0 := Lib.hid (Whole.made w 23 #[.slice A2 n2 c2])
  have hb0 : Below w.heap.size w (w.alloc (.cells #[.slice A2 n2 c2] 23)) := (Below.refl _ _).alloc (Nat.le_refl _) _
  have HB0 := Lib.hid hb0
  have HM := Lib.hid hl
  have HR := Lib.hid h
  clear hl h hb0
  go_enter Tryz.func6, Tryz.ntmps6
  go_wp2_with fail
  go_loopw [14] (fun i wr => ∃ k : Nat, i = .int .i64 (k : Int) ∧ k ≤ n2 ∧ Hid ((rs.take k).all okB = true) ∧ Hid (Below (w.heap.size + 1) (w.alloc (.cells #[.slice A2 n2 c2] 23)) wr)) (fun i _ => n2 - (intOf i).toNat)
  case atStart => exact ⟨0, rfl, by omega, Lib.hid (by simp), Lib.hid (Below.refl _ _)⟩
  case round =>
    obtain ⟨k, rfl, hk, HA, HB⟩ := hrel
    have hsz := HB.out.size
    simp only [World.size_alloc] at hsz
    have HBW := Lib.hid (HB0.out.trans (HB.out.mono (by omega)))
    by_cases hlt : k < n2
    · have d1 : decide ((k : Int) < (n2 : Int)) = true := decide_eq_true (by omega)
      obtain ⟨b, hb⟩ : ∃ b, rs[k]? = some b := ⟨_, List.getElem?_eq_getElem (by rw [HL2.out]; exact hlt)⟩
      obtain ⟨R2, o2, rfl, hR2, c0, c1, c3, c4, c5, c6, c7, c8⟩ := (HR.out.below HBW.out).get hb
      have HS := Lib.hid (all_step okB hb HA.out)
      have HN := Lib.hid (fun h => all_no okB hb h)
      obtain ⟨r, hr⟩ : ∃ r, okB b = r := ⟨_, rfl⟩
      have HC := Lib.hid (fun w => bcheck_any b w _ (okB_chk b))
      rw [hr] at HC HS HN
      unfold BV.val at HC
      clear hb hr
      cases r
      · go_wp2_with fail
        refine (HC.out _).mono ?_
        rintro e w2 ⟨rfl, hb⟩
        have hx : Below wr.heap.size wr w2 := ((Below.refl wr.heap.size wr).alloc (Nat.le_refl _) _).trans (hb.mono (by simp))
        have HB2 := Lib.hid (HBW.out.trans (hx.mono (by omega)))
        clear hx
        clear hb c0 c1 c3 c4 c5 c6 c7 c8
        simp only [Bool.false_eq_true, if_false]
        go_wp2_with fail
        go_ret2
        refine cut_said_bad ?_ HB2.out
        unfold cutB
        rw [HN.out (by first | trivial | rfl), Bool.false_and]
      · go_wp2_with fail
        refine (HC.out _).mono ?_
        rintro e w2 ⟨rfl, hb⟩
        have hx : Below wr.heap.size wr w2 := ((Below.refl wr.heap.size wr).alloc (Nat.le_refl _) _).trans (hb.mono (by simp))
        have HB2 := Lib.hid (HB.out.trans (hx.mono hsz))
        clear hx
        clear hb c0 c1 c3 c4 c5 c6 c7 c8
        simp only [if_true]
        go_wp2_with fail
        go_roundw
        case rel => exact ⟨k + 1, by go_num, by omega, HS, HB2⟩
        case measure => simp [intOf]; omega
    · obtain rfl : k = n2 := by omega
      have d1 : decide ((k : Int) < (k : Int)) = false := by simp
      have hall : rs.all okB = true := by
        have := HA.out
        rwa [List.take_of_length_le (by rw [HL2.out]; exact Nat.le_refl _)] at this
      have HALL := Lib.hid hall
      clear hall HA hlt hk
      have HQ := Lib.hid (HW0.out.later HB.out (by omega))
      obtain ⟨wa, hwa⟩ : ∃ wa, wa = wr := ⟨_, rfl⟩
      rw [← hwa] at HQ HBW ⊢
      have hsa : w.heap.size + 1 ≤ wa.heap.size := by rw [hwa]; exact hsz
      clear hwa hsz HB
      have q0 := HQ.out.reads 0
      have q1 := HQ.out.lt
      go_wp2_with fail
      go_loopw [26] (fun i wr => ∃ k : Nat, i = .int .i64 (k : Int) ∧ k ≤ n ∧ Hid ((l.take k).all mkB = true) ∧ Hid (Below wa.heap.size wa wr)) (fun i _ => n - (intOf i).toNat)
      case atStart => exact ⟨0, rfl, by omega, Lib.hid (by simp), Lib.hid (Below.refl _ _)⟩
      case round =>
        obtain ⟨j, rfl, hj, HA, HB⟩ := hrel
        have HBX := Lib.hid (HBW.out.trans (HB.out.mono (by omega)))
        by_cases hlt : j < n
        · have d1 : decide ((j : Int) < (n : Int)) = true := decide_eq_true (by omega)
          obtain ⟨x, hx⟩ : ∃ x, l[j]? = some x := ⟨_, List.getElem?_eq_getElem (by rw [HL.out]; exact hlt)⟩
          obtain ⟨R, o, rfl, hR, hc, -⟩ := (HM.out.below HBX.out).get hx
          have HAT := Lib.hid (show ∀ (i : Nat) (u : Value), (mkA x).toList[i]? = some u → wr.cell? ⟨R, o + j * 25 + i, none⟩ = some u from hc)
          have HS := Lib.hid (all_step mkB hx HA.out)
          have HN := Lib.hid (fun h => all_no mkB hx h)
          obtain ⟨w1, hw1⟩ : ∃ w1, wr.alloc (.cells (mkA x) 55) = w1 := ⟨_, rfl⟩
          have hW1 : Whole w1 wr.heap.size 55 (mkA x) := by rw [← hw1]; exact Whole.made _ _ _
          have HB1 := Lib.hid (show Below wa.heap.size wa w1 by rw [← hw1]; exact HB.out.alloc HB.out.size _)
          have HW1 := Lib.hid hw1
          have k0 : w1.cell? ⟨wr.heap.size, 0, none⟩ = some (.int .i64 x.kind) := hW1.reads 0
          have m0 : w1.cell? ⟨wr.heap.size, 17, none⟩ = some (.int .i64 x.box.x0.m) := hW1.reads 17
          have m1 : w1.cell? ⟨wr.heap.size, 18, none⟩ = some (.int .i64 x.box.x0.s) := hW1.reads 18
          have m2 : w1.cell? ⟨wr.heap.size, 19, none⟩ = some (.int .i64 x.box.y0.m) := hW1.reads 19
          have m3 : w1.cell? ⟨wr.heap.size, 20, none⟩ = some (.int .i64 x.box.y0.s) := hW1.reads 20
          have m4 : w1.cell? ⟨wr.heap.size, 21, none⟩ = some (.int .i64 x.box.x1.m) := hW1.reads 21
          have m5 : w1.cell? ⟨wr.heap.size, 22, none⟩ = some (.int .i64 x.box.x1.s) := hW1.reads 22
          have m6 : w1.cell? ⟨wr.heap.size, 23, none⟩ = some (.int .i64 x.box.y1.m) := hW1.reads 23
          have m7 : w1.cell? ⟨wr.heap.size, 24, none⟩ = some (.int .i64 x.box.y1.s) := hW1.reads 24
          have l1 := hW1.lt
          have HWW := Lib.hid hW1
          have HMK := Lib.hid (show mkB x = (okB x.box && decide (1 ≤ x.kind ∧ x.kind ≤ 3)) from rfl)
          obtain ⟨r, hr⟩ : ∃ r, okB x.box = r := ⟨_, rfl⟩
          have HC := Lib.hid (fun w => bcheck_any x.box w _ (okB_chk x.box))
          rw [hr] at HC HMK
          unfold BV.val at HC
          obtain ⟨kd, hkd⟩ : ∃ kd, x.kind = kd := ⟨_, rfl⟩
          rw [hkd] at k0 HMK
          have HKD := Lib.hid hkd
          clear hx hr hkd hc hw1 hW1 q0 q1
          cases r
          · go_wp2_with (first
              | (refine wpList_load_at rfl _ _ rfl R (o + j * 25) rfl (mkA x) _ HAT.out Tryz.underlying55 rfl (szMk x) ?_)
              | (refine wpList_store_let rfl _ _ _ rfl rfl _ _ (mkA x) HW1.out rfl rfl (szMk x) rfl (mkA_one x) ?_))
            refine (HC.out _).mono ?_
            rintro e w2 ⟨rfl, hb⟩
            have HB2 := Lib.hid (HBW.out.trans ((HB1.out.trans (hb.mono HB1.out.size)).mono (by omega)))
            clear hb k0 m0 m1 m2 m3 m4 m5 m6 m7
            simp only [Bool.false_eq_true, if_false]
            go_wp2_with fail
            go_ret2
            refine cut_said_bad ?_ HB2.out
            unfold cutB
            rw [HN.out (by rw [HMK.out]; rfl), Bool.and_false]
          · go_wp2_with (first
              | (refine wpList_load_at rfl _ _ rfl R (o + j * 25) rfl (mkA x) _ HAT.out Tryz.underlying55 rfl (szMk x) ?_)
              | (refine wpList_store_let rfl _ _ _ rfl rfl _ _ (mkA x) HW1.out rfl rfl (szMk x) rfl (mkA_one x) ?_))
            refine (HC.out _).mono ?_
            rintro e w2 ⟨rfl, hb⟩
            have HB2 := Lib.hid (HB1.out.trans (hb.mono HB1.out.size))
            have HBY := Lib.hid (HBW.out.trans (HB2.out.mono (by omega)))
            have hW2 := HWW.out.here hb
            have k2 := hW2.reads 0
            rw [show (mkA x)[0]? = some (.int .i64 x.kind) from rfl, HKD.out] at k2
            have l2 := hW2.lt
            clear hb k0 m0 m1 m2 m3 m4 m5 m6 m7 hW2
            simp only [if_true]
            by_cases q1 : kd < 1
            · have HF := Lib.hid (HN.out (by rw [HMK.out, decide_eq_false (by omega)]; rfl))
              go_wp2_with fail
              go_ret2
              refine cut_said_bad ?_ HBY.out
              unfold cutB
              rw [HF.out, Bool.and_false]
            by_cases q2 : 3 < kd
            · have HF := Lib.hid (HN.out (by rw [HMK.out, decide_eq_false (by omega)]; rfl))
              go_wp2_with fail
              go_ret2
              refine cut_said_bad ?_ HBY.out
              unfold cutB
              rw [HF.out, Bool.and_false]
            have HT := Lib.hid (show (l.take (j + 1)).all mkB = true by rw [HS.out, HMK.out, decide_eq_true (by omega)]; rfl)
            go_wp2_with fail
            go_roundw
            case rel => exact ⟨j + 1, by go_num, by omega, HT, HB2⟩
            case measure => simp [intOf]; omega
        · obtain rfl : j = n := by omega
          have d1 : decide ((j : Int) < (j : Int)) = false := by simp
          have hall : cutB l rs = true := by
            have := HA.out
            rw [List.take_of_length_le (by rw [HL.out]; exact Nat.le_refl _)] at this
            unfold cutB
            rw [HALL.out, this]
            rfl
          have HOK := Lib.hid (And.intro (cutE_ok hall) (cutL_ok hall))
          clear hall HA q0 q1
          have HQ2 := Lib.hid (HQ.out.here HB.out)
          go_wp2_with fail
          refine (keepM_any l w.heap.size A j c A2 _ c2 rs wr (HM.out.below HBX.out) hn (HR.out.below HBX.out) HQ2.out hn2).mono ?_
          rintro e w2 ⟨A', c', rfl, hm, hb⟩
          have HZ := Lib.hid (And.intro hm (HBX.out.trans (hb.mono HBX.out.size)))
          clear hm hb
          go_wp2_with fail
          go_ret2
          refine ⟨A', c', ?_, ?_, HZ.out.2⟩
          · rw [HOK.out.1, HOK.out.2]; rfl
          · rw [HOK.out.2]; exact HZ.out.1
end Go.Proofs.YtdlmhienolmncaaGreat
