/- the reference's Used: a code is put in its place: pure. -/
import Derived.Test.YtdlmhienolmncaaGreatFontU
import Derived.Test.YtdlmhienolmncaaGreatCutU
import Derived.Deep.QuietTactic
namespace Go.Proofs.YtdlmhienolmncaaGreat
open Go.RowKit

/-- What is copied of a row behind some of it, and whether the code stands in it already. -/
def insM (x : Int) (L : List Int) : List Int := L.filter (fun y => decide (y < x)) ++ (if L.any (fun y => decide (x ≤ y)) = true then [x] else []) ++ L.filter (fun y => decide (x < y))
def insD (x : Int) (L : List Int) : Bool := L.any fun y => decide (x ≤ y)
def insU (x : Int) (L : List Int) : List Int := L.filter (fun y => decide (y < x)) ++ [x] ++ L.filter (fun y => decide (x < y))
theorem ins_low {x : Int} {L : List Int} (h : insD x L = false) : L.filter (fun y => decide (x < y)) = [] ∧ insM x L = L.filter (fun y => decide (y < x)) := by
  have h0 : L.filter (fun y => decide (x < y)) = [] := by
    rw [List.filter_eq_nil_iff]
    intro y hy
    unfold insD at h
    rw [List.any_eq_false] at h
    have := h y hy
    simp only [decide_eq_true_eq] at this ⊢
    omega
  refine ⟨h0, ?_⟩
  unfold insM
  unfold insD at h
  rw [h, h0]
  simp
theorem ins_high {x : Int} {L : List Int} (h : insD x L = true) : insM x L = insU x L := by
  unfold insM insU
  unfold insD at h
  rw [h, if_pos rfl]
theorem ins_end (x : Int) (L : List Int) : (if insD x L = true then insM x L else insM x L ++ [x]) = insU x L := by
  cases h : insD x L with
  | true => rw [if_pos rfl]; exact ins_high h
  | false =>
    rw [if_neg (by decide), (ins_low h).2]
    unfold insU
    rw [(ins_low h).1, List.append_nil]
theorem insD_snoc (x : Int) (L : List Int) (y : Int) : insD x (L ++ [y]) = (insD x L || decide (x ≤ y)) := by unfold insD; simp [List.any_append]
theorem ins_less {x : Int} {L : List Int} {y : Int} (hy : y < x) (hl : ∀ z ∈ L, z < y) : insD x L = false ∧ insD x (L ++ [y]) = false ∧ insM x (L ++ [y]) = insM x L ++ [y] := by
  have h1 : insD x L = false := by
    unfold insD
    rw [List.any_eq_false]
    intro z hz
    have := hl z hz
    simp only [decide_eq_true_eq]
    omega
  have h2 : insD x (L ++ [y]) = false := by rw [insD_snoc, h1, decide_eq_false (by omega)]; rfl
  refine ⟨h1, h2, ?_⟩
  rw [(ins_low h1).2, (ins_low h2).2, List.filter_append]
  simp [hy]
theorem ins_same {x : Int} {L : List Int} (hl : ∀ z ∈ L, z < x) : insD x L = false ∧ insD x (L ++ [x]) = true ∧ insM x (L ++ [x]) = insM x L ++ [x] := by
  have h1 : insD x L = false := by
    unfold insD
    rw [List.any_eq_false]
    intro z hz
    have := hl z hz
    simp only [decide_eq_true_eq]
    omega
  have h2 : insD x (L ++ [x]) = true := by rw [insD_snoc, h1, decide_eq_true (by omega)]; rfl
  refine ⟨h1, h2, ?_⟩
  rw [ins_high h2, (ins_low h1).2]
  unfold insU
  rw [List.filter_append, List.filter_append, (ins_low h1).1]
  simp
theorem ins_more {x : Int} {L : List Int} {y : Int} (hy : x < y) : insD x (L ++ [y]) = true ∧ insM x (L ++ [y]) = (if insD x L = true then insM x L else insM x L ++ [x]) ++ [y] := by
  have h2 : insD x (L ++ [y]) = true := by rw [insD_snoc, decide_eq_true (by omega), Bool.or_true]
  refine ⟨h2, ?_⟩
  rw [ins_high h2, ins_end]
  unfold insU
  rw [List.filter_append, List.filter_append]
  simp [hy, show ¬ y < x by omega]
theorem insU_sdl (x : Int) (K : List Int) : insU x (sdl K) = sdl (K ++ [x]) := by
  have hp := sdl_rise K
  refine rise_eq _ _ ?_ (sdl_rise (K ++ [x])) fun z => ?_
  · unfold insU
    rw [List.pairwise_append, List.pairwise_append]
    refine ⟨⟨hp.filter _, List.pairwise_singleton _ _, fun a ha b hb => ?_⟩, hp.filter _, fun a ha b hb => ?_⟩
    · rw [List.mem_singleton] at hb
      subst hb
      simpa using (List.mem_filter.1 ha).2
    · have h1 : x < b := by simpa using (List.mem_filter.1 hb).2
      rcases List.mem_append.1 ha with ha | ha
      · have : a < x := by simpa using (List.mem_filter.1 ha).2
        omega
      · rw [List.mem_singleton] at ha
        omega
  · rw [sdl_mem]
    unfold insU
    simp only [List.mem_append, List.mem_filter, List.mem_singleton, decide_eq_true_eq, sdl_mem]
    by_cases e : z = x
    · subst e; simp
    · by_cases hz : z ∈ K
      · simp only [hz, true_and, e, or_false, iff_true]
        omega
      · simp [hz, e]
theorem insM_len (x : Int) (L : List Int) : (insM x L).length ≤ 2 * L.length + 1 := by
  unfold insM
  have h1 := List.length_filter_le (fun y => decide (y < x)) L
  have h2 := List.length_filter_le (fun y => decide (x < y)) L
  rw [List.length_append, List.length_append]
  split <;> simp <;> omega
end Go.Proofs.YtdlmhienolmncaaGreat
/- the reference's Used, of any marks and name. -/
namespace Go.Proofs.YtdlmhienolmncaaGreat
open Go.RowKit Dec

theorem ivs_get {K : List Int} {j : Nat} {y : Int} (h : K[j]? = some y) : (ivs K)[j]? = some (.int .i64 y) := by unfold ivs; rw [List.getElem?_map, h]; rfl
theorem rise_take {K : List Int} (h : K.Pairwise (· < ·)) {j : Nat} {y : Int} (hy : K[j]? = some y) : ∀ z ∈ K.take j, z < y := by
  intro z hz
  obtain ⟨i, hi, rfl⟩ := List.mem_iff_getElem.1 hz
  rw [List.length_take] at hi
  obtain ⟨hj, rfl⟩ := List.getElem?_eq_some_iff.1 hy
  rw [List.getElem_take]
  exact List.pairwise_iff_getElem.1 h i j (by omega) hj (by omega)
theorem own_ptr2 {w : World} {base : Nat} {e : TypeId} {size : Nat} {a : Option Addr} {c n : Nat} {xs : List Value} (h : w.ownsRow base e size (.slice a n c) n xs) (hn : 0 < n) : ∃ g, a = some ⟨g, 0, none⟩ ∧ base ≤ g ∧ g < w.heap.size ∧ n ≤ c ∧ c ≤ maxLen := by
  rcases h.2 with ⟨h', h0⟩ | ⟨g, cap, cur, h', hb, hg, hnc, hcm, -⟩
  · omega
  · injection h' with h1 h2 h3
    exact ⟨g, h1, hb, (Array.getElem?_eq_some_iff.1 hg).1, by omega, by omega⟩
theorem own_baseU {w : World} {b b' : Nat} {e : TypeId} {size : Nat} {v : Value} {n : Nat} {xs : List Value} (h : w.ownsRow b e size v n xs) (hb : b' ≤ b) : w.ownsRow b' e size v n xs := by
  obtain ⟨h1, h2⟩ := h
  refine ⟨h1, ?_⟩
  rcases h2 with h2 | ⟨g, cap, cur, e1, e2, r⟩
  · exact .inl h2
  · exact .inr ⟨g, cap, cur, e1, Nat.le_trans hb e2, r⟩
theorem own_cap {w : World} {base : Nat} {e : TypeId} {size : Nat} {a : Option Addr} {c n : Nat} {xs : List Value} (h : w.ownsRow base e size (.slice a n c) n xs) : n ≤ c ∧ c ≤ maxLen := by
  rcases h.2 with ⟨h', h0⟩ | ⟨g, cap, cur, h', hb, hg, hnc, hcm, -⟩
  · injection h' with h1 h2 h3
    subst h0 h3
    exact ⟨Nat.le_refl _, Nat.zero_le _⟩
  · injection h' with h1 h2 h3
    omega
set_option maxRecDepth 100000 in
set_option maxHeartbeats 16000000 in
theorem rused_any (A : Option Addr) (n c : Nat) (l : List Mk) (name : ByteArray) (w : World) (h : MarksAt w A n c l) (hn : n ≤ 1000000) :
    Calls Tryz.prog 14 #[.slice A n c, .string name] w fun e w' => ∃ A' c', e = .returned (.slice A' (usedS l name).length c') ∧ IntsAt w' A' (usedS l name).length c' (usedS l name) ∧ Below w.heap.size w w' := by
  have hcap := h.row.cap
  have htop := h.row.top
  have HL := Lib.hid h.len
  have H1 := Lib.hid h
  clear h
  obtain ⟨i0, hi0, hz0, hz1, hz2⟩ := info_int
  have HI0 := Lib.hid (And.intro hi0 (And.intro hz0 (And.intro hz1 hz2)))
  clear hi0 hz0 hz1 hz2
  go_enter Tryz.func14, Tryz.ntmps14
  go_wp2_with fail
  go_loopw [5, 6] (fun v i wr => ∃ k : Nat, i = .int .i64 (k : Int) ∧ k ≤ n ∧ Hid (wr.ownsRow w.heap.size 3 1 v (sdl (usedL (l.take k) name)).length (ivs (sdl (usedL (l.take k) name)))) ∧ Hid (Below w.heap.size w wr)) (fun _ i _ => n - (intOf i).toNat)
  case atStart => exact ⟨0, rfl, by omega, Lib.hid (by rw [show sdl (usedL (l.take 0) name) = [] from sdl_self (by simp [usedL])]; exact World.ownsRow_nil _ _ _ _), Lib.hid (Below.refl _ _)⟩
  case round =>
    obtain ⟨k, rfl, hk, HR, HB⟩ := hrel
    obtain ⟨a0, cc, rfl⟩ := own_slM HR.out
    by_cases hlt : k < n
    · have d1 : decide ((k : Int) < (n : Int)) = true := decide_eq_true (by omega)
      obtain ⟨x, hx⟩ : ∃ x, l[k]? = some x := ⟨_, List.getElem?_eq_getElem (by rw [HL.out]; exact hlt)⟩
      rename World => wo
      obtain ⟨R, o, rfl, hR, hc, -⟩ := (H1.out.below HB.out).get hx
      obtain ⟨k0, -, -, -, -, -, -, -, -, -, -, -, -, s13, s14, -, -, -, -, -, -, -, -, -, -⟩ := hc.cells
      have HS := Lib.hid (usedL_step (name := name) hx)
      have HU := Lib.hid (show usedB name x = (decide (x.kind = 1) && decide (x.name = name)) from rfl)
      have hKl : (sdl (usedL (l.take k) name)).length ≤ 1000000 := Nat.le_trans (sdl_len _) (Nat.le_trans (usedL_len _ _) (by rw [List.length_take]; omega))
      have HRI := Lib.hid (sdl_rise (usedL (l.take k) name))
      have HIN := Lib.hid (insU_sdl x.code (usedL (l.take k) name))
      have HMA := Lib.hid (And.intro hR s14)
      clear hc hx
      obtain ⟨K, hK⟩ : ∃ K, sdl (usedL (l.take k) name) = K := ⟨_, rfl⟩
      have HKE := Lib.hid hK
      rw [hK] at HR hKl HRI HIN ⊢
      clear hK
      obtain ⟨kd, hkd⟩ : ∃ kd, x.kind = kd := ⟨_, rfl⟩
      rw [hkd] at k0 HU
      clear hkd
      by_cases hg : kd = 1
      · have d3 : (kd == 1) = true := by simp [hg]
        by_cases he : x.name = name
        · have d2 := str_eq he
          have d2n : (!(x.name.toList == name.toList)) = false := by rw [d2]; rfl
          have HT := Lib.hid (show usedB name x = true by rw [HU.out, decide_eq_true hg, decide_eq_true he]; rfl)
          clear he
          subst hg
          obtain ⟨xc, hxc⟩ : ∃ xc, x.code = xc := ⟨_, rfl⟩
          have HXC := Lib.hid hxc
          rw [hxc] at s14 HIN HMA
          clear hxc
          have hcK := own_cap HR.out
          go_wp2_with fail
          go_loopw [7, 8, 9] (fun s7 s8 s9 wr => ∃ j : Nat, s9 = .int .i64 (j : Int) ∧ j ≤ K.length ∧ s8 = .bool (insD xc (K.take j)) ∧ Hid (wr.ownsRow wo.heap.size 3 1 s7 (insM xc (K.take j)).length (ivs (insM xc (K.take j)))) ∧ Hid (Below wo.heap.size wo wr)) (fun _ _ s9 _ => K.length - (intOf s9).toNat)
          case atStart => exact ⟨0, rfl, by omega, rfl, Lib.hid (World.ownsRow_nil _ _ _ _), Lib.hid (Below.refl _ _)⟩
          case round =>
            obtain ⟨j, rfl, hj, rfl, HM, HB2⟩ := hrel
            obtain ⟨am, cm, rfl⟩ := own_slM HM.out
            have HRW := Lib.hid (own_below3 HR.out HB2.out)
            have s14r := (HB2.out.cell (p := ⟨R, o + k * 25 + 14, none⟩) HMA.out.1).trans HMA.out.2
            have hRr : R < wr.heap.size := Nat.lt_of_lt_of_le HMA.out.1 HB2.out.size
            by_cases hlt2 : j < K.length
            · have d4 : decide (j < K.length) = true := decide_eq_true hlt2
              have d4' : decide ((j : Int) < (K.length : Int)) = true := decide_eq_true (by omega)
              obtain ⟨y, hy⟩ : ∃ y, K[j]? = some y := ⟨_, List.getElem?_eq_getElem hlt2⟩
              obtain ⟨g, rfl, hg1, hg2, -, -⟩ := own_ptr2 HRW.out (by omega)
              have hgo : g < wo.heap.size := by
                obtain ⟨g', e', -, h2, -⟩ := own_ptr2 HR.out (by omega)
                injection e' with e'
                injection e' with e'
                omega
              have cyo : wo.cell? ⟨g, j, none⟩ = some (.int .i64 y) := by rw [HR.out.cellAt j (by omega)]; exact ivs_get hy
              have cy : wr.cell? ⟨g, j, none⟩ = some (.int .i64 y) := by rw [HRW.out.cellAt j (by omega)]; exact ivs_get hy
              have HTK := Lib.hid (show K.take (j + 1) = K.take j ++ [y] by rw [List.take_add_one, hy]; rfl)
              have HLO := Lib.hid (rise_take HRI.out hy)
              have g1 : (0 : Int) ≤ (j : Int) := by omega
              have g2 : (j : Int) < (K.length : Int) := by omega
              have g3 : (0 : Int) ≤ (k : Int) := by omega
              have g4 : (k : Int) < (n : Int) := by omega
              have hml : (insM xc (K.take j)).length ≤ 3000000 := Nat.le_trans (insM_len _ _) (by rw [List.length_take]; omega)
              clear hy
              obtain ⟨L, hLL⟩ : ∃ L, K.take j = L := ⟨_, rfl⟩
              rw [hLL] at HM HTK HLO hml ⊢
              clear hLL
              have FA := Lib.hid (fun v (hb : Below wo.heap.size wo v) => show v.cell? ⟨g, j, none⟩ = some (.int .i64 y) ∧ v.cell? ⟨R, o + k * 25 + 14, none⟩ = some (.int .i64 xc) ∧ g < v.heap.size ∧ R < v.heap.size from ⟨(hb.cell (p := ⟨g, j, none⟩) hgo).trans cyo, (hb.cell (p := ⟨R, o + k * 25 + 14, none⟩) HMA.out.1).trans HMA.out.2, Nat.lt_of_lt_of_le hgo hb.size, Nat.lt_of_lt_of_le HMA.out.1 hb.size⟩)
              clear cy cyo s14r
              rcases Int.lt_trichotomy y xc with hlt3 | hee | hgt
              · obtain ⟨i1, i2, i3⟩ := ins_less hlt3 HLO.out
                have d5 : decide (y ≥ xc) = false := decide_eq_false (by omega)
                have d6 : (y == xc) = false := by simp; omega
                rw [i1]
                clear hlt3
                obtain ⟨f1, f2, f3, f4⟩ := FA.out wr (HB2.out)
                go_wp2_with fail
                go_quiet (fail)
                all_goals
                  obtain ⟨wq1, hwq⟩ : ∃ wq, (wr).drewN nq = wq := ⟨_, rfl⟩
                  have HMq1 := Lib.hid (show wq1.ownsRow wo.heap.size 3 1 _ _ _ by rw [← hwq]; exact HM.out)
                  have HBq1 := Lib.hid (show Below wo.heap.size wo wq1 by rw [← hwq]; exact below_drewN (HB2.out) _)
                  rw [hwq]
                  clear hwq f1 f2 f3 f4
                  obtain ⟨f1, f2, f3, f4⟩ := FA.out wq1 (HBq1.out)
                  go_wp2_with fail
                  go_quiet (fail)
                  all_goals
                    obtain ⟨wq2, hwq⟩ : ∃ wq, (wq1).drewN nq = wq := ⟨_, rfl⟩
                    have HMq2 := Lib.hid (show wq2.ownsRow wo.heap.size 3 1 _ _ _ by rw [← hwq]; exact HMq1.out)
                    have HBq2 := Lib.hid (show Below wo.heap.size wo wq2 by rw [← hwq]; exact below_drewN (HBq1.out) _)
                    rw [hwq]
                    clear hwq f1 f2 f3 f4
                    obtain ⟨f1, f2, f3, f4⟩ := FA.out wq2 (HBq2.out)
                    go_wp2_with (at_builtin; refine wpList_append_own _ rfl _ _ 34 rfl wo.heap.size 3 i0 (.int .i64 0) 1 8 Tryz.underlying34 HI0.out.1 HI0.out.2.1 HI0.out.2.2.1 HI0.out.2.2.2 rfl (by decide) _ _ _ rfl ((HMq2.out).alloc _) ⟨wq2.heap.size, 0, none⟩ 1 1 [.int .i64 y] rfl rfl (World.news_of_block (cs := #[.int .i64 y]) (t := 3) (fr := (0, 0)) (heap_alloc_new _ _)) ?p1 ?p2 ?p3 ?p4 ?_)
                    case p1 => simp [Value.oneCell']
                    case p2 => unfold maxLen; omega
                    case p3 => omega
                    case p4 => have := (HBq2.out).size; first | omega | (simp; omega)
                    intro v' w5 hown' hgrow _
                    have hb5 := ((HBq2.out).alloc (HBq2.out).size (.cells #[.int .i64 y] 3)).grown hgrow (by have := (HBq2.out).size; simp; omega) (fun j e => (own_lt (HMq2.out) e).1)
                    have hown2 : w5.ownsRow wo.heap.size 3 1 v' (insM xc L ++ [y]).length (ivs (insM xc L ++ [y])) := by rw [ivs_append, List.length_append]; exact hown'
                    have HO := Lib.hid (And.intro hown2 hb5)
                    clear hown' hgrow hown2 hb5
                    clear f1 f2 f3 f4
                    go_wp2_with fail
                    go_roundw
                    case rel => exact ⟨j + 1, by go_num, by omega, by rw [HTK.out, i2], Lib.hid (by rw [HTK.out, i3]; exact HO.out.1), Lib.hid (HO.out.2)⟩
                    case measure => simp [intOf]; omega
              · subst hee
                obtain ⟨i1, i2, i3⟩ := ins_same HLO.out
                have d5 : decide (y ≥ y) = true := decide_eq_true (by omega)
                have d6 : (y == y) = true := by simp
                rw [i1]
                obtain ⟨f1, f2, f3, f4⟩ := FA.out wr (HB2.out)
                go_wp2_with fail
                go_quiet (fail)
                all_goals
                  obtain ⟨wq3, hwq⟩ : ∃ wq, (wr).drewN nq = wq := ⟨_, rfl⟩
                  have HMq3 := Lib.hid (show wq3.ownsRow wo.heap.size 3 1 _ _ _ by rw [← hwq]; exact HM.out)
                  have HBq3 := Lib.hid (show Below wo.heap.size wo wq3 by rw [← hwq]; exact below_drewN (HB2.out) _)
                  rw [hwq]
                  clear hwq f1 f2 f3 f4
                  obtain ⟨f1, f2, f3, f4⟩ := FA.out wq3 (HBq3.out)
                  go_wp2_with (at_builtin; refine wpList_append_own _ rfl _ _ 34 rfl wo.heap.size 3 i0 (.int .i64 0) 1 8 Tryz.underlying34 HI0.out.1 HI0.out.2.1 HI0.out.2.2.1 HI0.out.2.2.2 rfl (by decide) _ _ _ rfl ((HMq3.out).alloc _) ⟨wq3.heap.size, 0, none⟩ 1 1 [.int .i64 y] rfl rfl (World.news_of_block (cs := #[.int .i64 y]) (t := 3) (fr := (0, 0)) (heap_alloc_new _ _)) ?p1 ?p2 ?p3 ?p4 ?_)
                  case p1 => simp [Value.oneCell']
                  case p2 => unfold maxLen; omega
                  case p3 => omega
                  case p4 => have := (HBq3.out).size; first | omega | (simp; omega)
                  intro v' w5 hown' hgrow _
                  have hb5 := ((HBq3.out).alloc (HBq3.out).size (.cells #[.int .i64 y] 3)).grown hgrow (by have := (HBq3.out).size; simp; omega) (fun j e => (own_lt (HMq3.out) e).1)
                  have hown2 : w5.ownsRow wo.heap.size 3 1 v' (insM y L ++ [y]).length (ivs (insM y L ++ [y])) := by rw [ivs_append, List.length_append]; exact hown'
                  have HO := Lib.hid (And.intro hown2 hb5)
                  clear hown' hgrow hown2 hb5
                  clear f1 f2 f3 f4
                  obtain ⟨a5, c5, rfl⟩ := own_slM HO.out.1
                  obtain ⟨f1, f2, f3, f4⟩ := FA.out w5 (HO.out.2)
                  go_wp2_with fail
                  go_quiet (fail)
                  all_goals
                    obtain ⟨wq4, hwq⟩ : ∃ wq, (w5).drewN nq = wq := ⟨_, rfl⟩
                    have HMq4 := Lib.hid (show wq4.ownsRow wo.heap.size 3 1 _ _ _ by rw [← hwq]; exact HO.out.1)
                    have HBq4 := Lib.hid (show Below wo.heap.size wo wq4 by rw [← hwq]; exact below_drewN (HO.out.2) _)
                    rw [hwq]
                    clear hwq f1 f2 f3 f4
                    go_wp2_with fail
                    go_roundw
                    case rel => exact ⟨j + 1, by go_num, by omega, by rw [HTK.out, i2], Lib.hid (by rw [HTK.out, i3]; exact HMq4.out), Lib.hid (HBq4.out)⟩
                    case measure => simp [intOf]; omega
              · obtain ⟨i2, i3⟩ := ins_more (L := L) hgt
                have d5 : decide (y ≥ xc) = true := decide_eq_true (by omega)
                have d6 : (y == xc) = false := by simp; omega
                clear hgt
                cases hd : insD xc L
                · rw [hd, if_neg (by decide)] at i3
                  obtain ⟨f1, f2, f3, f4⟩ := FA.out wr (HB2.out)
                  go_wp2_with fail
                  go_quiet (fail)
                  all_goals
                    obtain ⟨wq5, hwq⟩ : ∃ wq, (wr).drewN nq = wq := ⟨_, rfl⟩
                    have HMq5 := Lib.hid (show wq5.ownsRow wo.heap.size 3 1 _ _ _ by rw [← hwq]; exact HM.out)
                    have HBq5 := Lib.hid (show Below wo.heap.size wo wq5 by rw [← hwq]; exact below_drewN (HB2.out) _)
                    rw [hwq]
                    clear hwq f1 f2 f3 f4
                    obtain ⟨f1, f2, f3, f4⟩ := FA.out wq5 (HBq5.out)
                    go_wp2_with (at_builtin; refine wpList_append_own _ rfl _ _ 34 rfl wo.heap.size 3 i0 (.int .i64 0) 1 8 Tryz.underlying34 HI0.out.1 HI0.out.2.1 HI0.out.2.2.1 HI0.out.2.2.2 rfl (by decide) _ _ _ rfl ((HMq5.out).alloc _) ⟨wq5.heap.size, 0, none⟩ 1 1 [.int .i64 xc] rfl rfl (World.news_of_block (cs := #[.int .i64 xc]) (t := 3) (fr := (0, 0)) (heap_alloc_new _ _)) ?p1 ?p2 ?p3 ?p4 ?_)
                    case p1 => simp [Value.oneCell']
                    case p2 => unfold maxLen; omega
                    case p3 => omega
                    case p4 => have := (HBq5.out).size; first | omega | (simp; omega)
                    intro v' w5 hown' hgrow _
                    have hb5 := ((HBq5.out).alloc (HBq5.out).size (.cells #[.int .i64 xc] 3)).grown hgrow (by have := (HBq5.out).size; simp; omega) (fun j e => (own_lt (HMq5.out) e).1)
                    have hown2 : w5.ownsRow wo.heap.size 3 1 v' (insM xc L ++ [xc]).length (ivs (insM xc L ++ [xc])) := by rw [ivs_append, List.length_append]; exact hown'
                    have HO := Lib.hid (And.intro hown2 hb5)
                    clear hown' hgrow hown2 hb5
                    clear f1 f2 f3 f4
                    obtain ⟨a5, c5, rfl⟩ := own_slM HO.out.1
                    have hml2 : (insM xc L ++ [xc]).length ≤ 3000001 := by rw [List.length_append]; simp; omega
                    obtain ⟨L2, hL2⟩ : ∃ L2, insM xc L ++ [xc] = L2 := ⟨_, rfl⟩
                    rw [hL2] at HO hml2 i3 ⊢
                    clear hL2
                    obtain ⟨f1, f2, f3, f4⟩ := FA.out w5 (HO.out.2)
                    go_wp2_with fail
                    go_quiet (fail)
                    all_goals
                      obtain ⟨wq6, hwq⟩ : ∃ wq, (w5).drewN nq = wq := ⟨_, rfl⟩
                      have HMq6 := Lib.hid (show wq6.ownsRow wo.heap.size 3 1 _ _ _ by rw [← hwq]; exact HO.out.1)
                      have HBq6 := Lib.hid (show Below wo.heap.size wo wq6 by rw [← hwq]; exact below_drewN (HO.out.2) _)
                      rw [hwq]
                      clear hwq f1 f2 f3 f4
                      obtain ⟨f1, f2, f3, f4⟩ := FA.out wq6 (HBq6.out)
                      go_wp2_with (at_builtin; refine wpList_append_own _ rfl _ _ 34 rfl wo.heap.size 3 i0 (.int .i64 0) 1 8 Tryz.underlying34 HI0.out.1 HI0.out.2.1 HI0.out.2.2.1 HI0.out.2.2.2 rfl (by decide) _ _ _ rfl ((HMq6.out).alloc _) ⟨wq6.heap.size, 0, none⟩ 1 1 [.int .i64 y] rfl rfl (World.news_of_block (cs := #[.int .i64 y]) (t := 3) (fr := (0, 0)) (heap_alloc_new _ _)) ?p1 ?p2 ?p3 ?p4 ?_)
                      case p1 => simp [Value.oneCell']
                      case p2 => unfold maxLen; omega
                      case p3 => omega
                      case p4 => have := (HBq6.out).size; first | omega | (simp; omega)
                      intro v' w6 hown' hgrow _
                      have hb5 := ((HBq6.out).alloc (HBq6.out).size (.cells #[.int .i64 y] 3)).grown hgrow (by have := (HBq6.out).size; simp; omega) (fun j e => (own_lt (HMq6.out) e).1)
                      have hown2 : w6.ownsRow wo.heap.size 3 1 v' (L2 ++ [y]).length (ivs (L2 ++ [y])) := by rw [ivs_append, List.length_append]; exact hown'
                      have HP := Lib.hid (And.intro hown2 hb5)
                      clear hown' hgrow hown2 hb5
                      clear f1 f2 f3 f4
                      go_wp2_with fail
                      go_roundw
                      case rel => exact ⟨j + 1, by go_num, by omega, by rw [HTK.out, i2], Lib.hid (by rw [HTK.out, i3]; exact HP.out.1), Lib.hid (HP.out.2)⟩
                      case measure => simp [intOf]; omega
                · rw [hd, if_pos rfl] at i3
                  obtain ⟨f1, f2, f3, f4⟩ := FA.out wr (HB2.out)
                  go_wp2_with fail
                  go_quiet (fail)
                  all_goals
                    obtain ⟨wq7, hwq⟩ : ∃ wq, (wr).drewN nq = wq := ⟨_, rfl⟩
                    have HMq7 := Lib.hid (show wq7.ownsRow wo.heap.size 3 1 _ _ _ by rw [← hwq]; exact HM.out)
                    have HBq7 := Lib.hid (show Below wo.heap.size wo wq7 by rw [← hwq]; exact below_drewN (HB2.out) _)
                    rw [hwq]
                    clear hwq f1 f2 f3 f4
                    obtain ⟨f1, f2, f3, f4⟩ := FA.out wq7 (HBq7.out)
                    go_wp2_with fail
                    go_quiet (fail)
                    all_goals
                      obtain ⟨wq8, hwq⟩ : ∃ wq, (wq7).drewN nq = wq := ⟨_, rfl⟩
                      have HMq8 := Lib.hid (show wq8.ownsRow wo.heap.size 3 1 _ _ _ by rw [← hwq]; exact HMq7.out)
                      have HBq8 := Lib.hid (show Below wo.heap.size wo wq8 by rw [← hwq]; exact below_drewN (HBq7.out) _)
                      rw [hwq]
                      clear hwq f1 f2 f3 f4
                      obtain ⟨f1, f2, f3, f4⟩ := FA.out wq8 (HBq8.out)
                      go_wp2_with (at_builtin; refine wpList_append_own _ rfl _ _ 34 rfl wo.heap.size 3 i0 (.int .i64 0) 1 8 Tryz.underlying34 HI0.out.1 HI0.out.2.1 HI0.out.2.2.1 HI0.out.2.2.2 rfl (by decide) _ _ _ rfl ((HMq8.out).alloc _) ⟨wq8.heap.size, 0, none⟩ 1 1 [.int .i64 y] rfl rfl (World.news_of_block (cs := #[.int .i64 y]) (t := 3) (fr := (0, 0)) (heap_alloc_new _ _)) ?p1 ?p2 ?p3 ?p4 ?_)
                      case p1 => simp [Value.oneCell']
                      case p2 => unfold maxLen; omega
                      case p3 => omega
                      case p4 => have := (HBq8.out).size; first | omega | (simp; omega)
                      intro v' w5 hown' hgrow _
                      have hb5 := ((HBq8.out).alloc (HBq8.out).size (.cells #[.int .i64 y] 3)).grown hgrow (by have := (HBq8.out).size; simp; omega) (fun j e => (own_lt (HMq8.out) e).1)
                      have hown2 : w5.ownsRow wo.heap.size 3 1 v' (insM xc L ++ [y]).length (ivs (insM xc L ++ [y])) := by rw [ivs_append, List.length_append]; exact hown'
                      have HO := Lib.hid (And.intro hown2 hb5)
                      clear hown' hgrow hown2 hb5
                      clear f1 f2 f3 f4
                      go_wp2_with fail
                      go_roundw
                      case rel => exact ⟨j + 1, by go_num, by omega, by rw [HTK.out, i2], Lib.hid (by rw [HTK.out, i3]; exact HO.out.1), Lib.hid (HO.out.2)⟩
                      case measure => simp [intOf]; omega
            · obtain rfl : j = K.length := by omega
              have d4 : decide (K.length < K.length) = false := by simp
              have d4' : decide ((K.length : Int) < (K.length : Int)) = false := by simp
              have hend := ins_end xc K
              rw [List.take_length] at HM ⊢
              have hml : (insM xc K).length ≤ 3000000 := Nat.le_trans (insM_len _ _) (by omega)
              have HNX := Lib.hid (show sdl (usedL (l.take (k + 1)) name) = insU xc K by rw [HS.out, HT.out, if_pos rfl, HXC.out, HIN.out])
              have HBX := Lib.hid (HB.out.trans (HB2.out.mono HB.out.size))
              cases hd : insD xc K
              · rw [hd, if_neg (by decide)] at hend
                go_wp2_with (at_builtin; refine wpList_append_own _ rfl _ _ 34 rfl wo.heap.size 3 i0 (.int .i64 0) 1 8 Tryz.underlying34 HI0.out.1 HI0.out.2.1 HI0.out.2.2.1 HI0.out.2.2.2 rfl (by decide) _ _ _ rfl ((HM.out).alloc _) ⟨wr.heap.size, 0, none⟩ 1 1 [.int .i64 xc] rfl rfl (World.news_of_block (cs := #[.int .i64 xc]) (t := 3) (fr := (0, 0)) (heap_alloc_new _ _)) ?p1 ?p2 ?p3 ?p4 ?_)
                case p1 => simp [Value.oneCell']
                case p2 => unfold maxLen; omega
                case p3 => omega
                case p4 => have := (HB2.out).size; first | omega | (simp; omega)
                intro v' w5 hown' hgrow _
                have hb5 := ((HB2.out).alloc (HB2.out).size (.cells #[.int .i64 xc] 3)).grown hgrow (by have := (HB2.out).size; simp; omega) (fun j e => (own_lt (HM.out) e).1)
                have hown2 : w5.ownsRow wo.heap.size 3 1 v' (insM xc K ++ [xc]).length (ivs (insM xc K ++ [xc])) := by rw [ivs_append, List.length_append]; exact hown'
                have HO := Lib.hid (And.intro hown2 hb5)
                clear hown' hgrow hown2 hb5
                go_wp2_with fail
                go_roundw
                case rel => exact ⟨k + 1, by go_num, by omega, Lib.hid (by rw [HNX.out, ← hend]; exact own_baseU HO.out.1 HB.out.size), Lib.hid (HB.out.trans (HO.out.2.mono HB.out.size))⟩
                case measure => simp [intOf]; omega
              · rw [hd, if_pos rfl] at hend
                go_wp2_with fail
                go_roundw
                case rel => exact ⟨k + 1, by go_num, by omega, Lib.hid (by rw [HNX.out, ← hend]; exact own_baseU HM.out HB.out.size), HBX⟩
                case measure => simp [intOf]; omega
        · have d2 := str_ne he
          have d2n : (!(x.name.toList == name.toList)) = true := by rw [d2]; rfl
          have HT := Lib.hid (show usedB name x = false by rw [HU.out, decide_eq_false he, Bool.and_false])
          clear he
          subst hg
          go_wp2_with fail
          go_roundw
          case rel => exact ⟨k + 1, by go_num, by omega, Lib.hid (by rw [HS.out, HT.out, if_neg (by decide), HKE.out]; exact HR.out), HB⟩
          case measure => simp [intOf]; omega
      · have d3 : (kd == 1) = false := by simp [hg]
        have HT := Lib.hid (show usedB name x = false by rw [HU.out, decide_eq_false hg, Bool.false_and])
        go_wp2_with fail
        go_roundw
        case rel => exact ⟨k + 1, by go_num, by omega, Lib.hid (by rw [HS.out, HT.out, if_neg (by decide), HKE.out]; exact HR.out), HB⟩
        case measure => simp [intOf]; omega
    · obtain rfl : k = n := by omega
      have d1 : decide ((k : Int) < (k : Int)) = false := by simp
      rw [List.take_of_length_le (by rw [HL.out]; exact Nat.le_refl _)] at HR ⊢
      obtain ⟨A3, c3, e3, hI⟩ := IntsAt.of_own HR.out
      injection e3 with e3 e4 e5
      subst e3 e5
      have HZ := Lib.hid hI
      clear hI e4
      go_wp2_with fail
      go_ret
      exact ⟨a0, cc, rfl, HZ.out, HB.out⟩
end Go.Proofs.YtdlmhienolmncaaGreat
