/- The reference's Parse: the walk. -/
import Derived.Test.YtdiaijdobglaaaaGreatDoorRefMake
import Derived.Test.YtdiaijdobglaaaaGreatDoorRefTexts
import Derived.Test.YtdiaijdobglaaaaGreatDoorMem
import Derived.Deep.CutRange
import Derived.Deep.RegionWith
namespace Go.Proofs.YtdiaijdobglaaaaGreatDoor
open Go.RowKit Dec

theorem scan_pt (r : List UInt8) : scanL false (46 :: r) = scanL true r := by rw [scanL, if_pos ⟨rfl, rfl⟩]
theorem scan_no {p : Bool} {c : UInt8} {r : List UInt8} (h : (c.toNat : Int) < 48 ∨ 57 < (c.toNat : Int)) (hp : ¬ (c = 46 ∧ p = false)) : scanL p (c :: r) = none := by rw [scanL, if_neg hp, if_pos h]
theorem scan_dig {p : Bool} {c : UInt8} {r : List UInt8} (h1 : 48 ≤ (c.toNat : Int)) (h2 : (c.toNat : Int) ≤ 57) : scanL p (c :: r) = (scanL p r).map fun x => (((c.toNat : Int) - 48) :: x.1, x.2 + if p then 1 else 0) := by
  rw [scanL, if_neg (fun e => by have := e.1; subst this; exact absurd h1 (by decide)), if_neg (by omega)]

/-- What the reference's Parse answers. -/
def ParseAns (R : Option (List Int × Nat)) (neg : Bool) (n : Nat) (w : World) (e : Ending) (w' : World) : Prop :=
  ((R = none ∨ (∃ b, R = some ([], b)) ∨ 40 < n) → IsDec 0 0 4 w e w') ∧ (∀ ds b, R = some (ds, b) → ds ≠ [] → ¬ 40 < n → IsTold (if neg = true then -(num ds.reverse : Int) else (num ds.reverse : Int)) b w e w')
theorem ans_bad {R : Option (List Int × Nat)} {neg : Bool} {n : Nat} {w w' : World} (h : R = none ∨ (∃ b, R = some ([], b)) ∨ 40 < n) (hb : Below w.heap.size w w') :
    ParseAns R neg n w (.returned (.tuple #[.agg #[.int .i64 0, .int .i64 0], .int .i64 4])) w' := by
  refine ⟨fun _ => ⟨rfl, hb⟩, fun ds b h1 h2 h3 => ?_⟩
  rcases h with h | ⟨b', h⟩ | h
  · rw [h] at h1; cases h1
  · rw [h] at h1; cases h1; exact absurd rfl h2
  · exact absurd h h3

theorem own_slice' {w : World} {base : Nat} {e : TypeId} {size : Nat} {v : Value} {n : Nat} {xs : List Value} (h : w.ownsRow base e size v n xs) : ∃ a c, v = .slice a n c := by
  obtain ⟨_, h⟩ := h
  rcases h with ⟨rfl, rfl⟩ | ⟨g, cap, cur, rfl, _⟩
  · exact ⟨none, 0, rfl⟩
  · exact ⟨_, cap, rfl⟩
theorem Fr.cell' {w w' : World} {X : Nat} (h : Fr (fun k => k = X) w w') {p : Addr} (hp : p.block ≠ X) (hl : p.block < w.heap.size) : w'.cell? p = w.cell? p := by
  have := h.block p.block hl hp
  unfold World.cell?
  rw [this]
theorem own_at {w : World} {base n : Nat} {A : Option Addr} {c : Nat} {ds : List Int} (h : w.ownsRow base 3 1 (.slice A n c) n (ds.map (Value.int .i64))) {j : Nat} {d : Int} (hd : ds[j]? = some d) :
    ∃ g, A = some ⟨g, 0, none⟩ ∧ base ≤ g ∧ g < w.heap.size ∧ w.cell? ⟨g, j, none⟩ = some (.int .i64 d) := by
  obtain ⟨hl, h⟩ := h
  have hl : ds.length = n := by simpa using hl
  have hj := (List.getElem?_eq_some_iff.1 hd).1
  rcases h with ⟨e1, e2⟩ | ⟨g, cap, cur, e1, hg, hw, hnc, hc, hs, ht⟩
  · omega
  · injection e1 with e1 _ _
    have hw' : Whole w g 3 cur := hw
    refine ⟨g, e1, hg, hw'.lt, ?_⟩
    have e2 : (ds.map (Value.int .i64))[j]? = some (.int .i64 d) := by simp [hd]
    rw [← ht, List.getElem?_take, if_pos (by omega)] at e2
    rw [hw'.reads, ← e2, Array.getElem?_toList]
theorem rp_step {W3 w w1 : World} {X g cap m n : Nat} {av : Option Addr} {cv : Nat} {neg : Bool} {bh : Int} {xs : List Value} {d : Int} {t : TypeId} {u : Value} {ds : List Int}
    (hown : w.ownsRow W3.heap.size 3 1 (.slice av n cv) n xs) (hw : Whole w X 64 #[.bool neg, .slice av n cv, .int .i64 bh]) (hf : Fr (fun k => k = X) W3 w) (hX : X < W3.heap.size) (hr : (ds.drop m).reverse = (ds.drop (m + 1)).reverse ++ [d]) (hn : n + 1 = ds.length - m)
    (hgrow : ((w.alloc (.cells #[u] t)).drew).grownBy w1 (Value.slice av n cv).ownBlock) (hown1 : w1.ownsRow W3.heap.size 3 1 (.slice (some ⟨g, 0, none⟩) (n + 1) cap) (n + 1) ((ds.drop (m + 1)).reverse.map (Value.int .i64) ++ [.int .i64 d])) :
    Whole w1 X 64 #[.bool neg, .slice av n cv, .int .i64 bh] ∧
    ((w1.setCell ⟨X, 1, none⟩ (.slice (some ⟨g, 0, none⟩) (n + 1) cap)).ownsRow W3.heap.size 3 1 (.slice (some ⟨g, 0, none⟩) (n + 1) cap) (ds.length - m) ((ds.drop m).reverse.map (Value.int .i64)) ∧
      Whole (w1.setCell ⟨X, 1, none⟩ (.slice (some ⟨g, 0, none⟩) (n + 1) cap)) X 64 #[.bool neg, .slice (some ⟨g, 0, none⟩) (n + 1) cap, .int .i64 bh] ∧ Fr (fun k => k = X) W3 (w1.setCell ⟨X, 1, none⟩ (.slice (some ⟨g, 0, none⟩) (n + 1) cap))) := by
  have hb : ∀ j, (Value.slice av n cv).ownBlock = some j → W3.heap.size ≤ j := fun j e => (own_lt hown e).1
  have hk : Whole w1 X 64 #[.bool neg, .slice av n cv, .int .i64 bh] := ((hw.old _).drawn1).kept hgrow (fun e => by have := hb _ e.symm; omega)
  have hf1 : Fr (fun k => k = X) W3 w1 := ((hf.alloc _).drew).grown hgrow (fun j e hj => by have := hb _ e; omega)
  have hgX : g ≠ X := by
    have := (own_lt hown1 (g := g) rfl).1
    omega
  refine ⟨hk, ?_, ?_, hf1.setB 1 _⟩
  · rw [← hn, hr, List.map_append]
    exact own_frame hown1 ((Fr.refl (fun k => k = X) w1).setB 1 _) (fun k e => by
      have e1 : some g = some k := e
      injection e1 with e1
      omega)
  · have := hk.set 1 (.slice (some ⟨g, 0, none⟩) (n + 1) cap)
    simpa using this
/-- Is a numeral below 0, and where do its digits begin? -/
def headOf (t : ByteArray) : Bool × Nat := if h : 0 < t.size then (if t[0] = 45 then (true, 1) else if t[0] = 43 then (false, 1) else (false, 0)) else (false, 0)
theorem headOf_sign (t : ByteArray) : signOf t.data.toList = (if (headOf t).1 = true then -1 else 1, t.data.toList.drop (headOf t).2) := by
  unfold headOf signOf Lib.trimPrefix
  by_cases h : 0 < t.size
  · rw [dif_pos h]
    have hl : t.data.toList = t[0] :: t.data.toList.drop 1 := by simpa using drop_cons t 0 h
    by_cases h1 : t[0] = 45
    · rw [if_pos h1]
      have : Lib.hasPrefix t.data.toList [45] = true := by rw [hl, h1]; simp [Lib.hasPrefix]
      rw [if_pos this]
      rfl
    · rw [if_neg h1]
      have : ¬ Lib.hasPrefix t.data.toList [45] = true := by rw [hl]; simp [Lib.hasPrefix]; exact fun e => h1 e.symm
      rw [if_neg this]
      by_cases h2 : t[0] = 43
      · rw [if_pos h2]
        have : Lib.hasPrefix t.data.toList [43] = true := by rw [hl, h2]; simp [Lib.hasPrefix]
        rw [if_pos this]
        rfl
      · rw [if_neg h2]
        have : ¬ Lib.hasPrefix t.data.toList [43] = true := by rw [hl]; simp [Lib.hasPrefix]; exact fun e => h2 e.symm
        rw [if_neg this]
        rfl
  · rw [dif_neg h]
    have hz : t.data.toList = [] := by
      apply List.eq_nil_of_length_eq_zero
      have : t.data.toList.length = t.size := by rw [Array.length_toList]; rfl
      omega
    rw [hz]
    rfl
theorem headOf_le (t : ByteArray) : (headOf t).2 ≤ t.size := by
  unfold headOf
  by_cases h : 0 < t.size
  · rw [dif_pos h]
    split
    · exact h
    · split
      · exact h
      · exact Nat.zero_le _
  · rw [dif_neg h]
    exact Nat.zero_le _
set_option maxRecDepth 100000 in
set_option maxHeartbeats 4000000 in
theorem refparse_any (t : ByteArray) (w : World) (ht : t.size ≤ 600) (R : Option (List Int × Nat)) (hR : R = scanL false (t.data.toList.drop (headOf t).2)) :
    Calls Tryz.prog 19 #[.string t] w (ParseAns R (headOf t).1 t.size w) := by
  obtain ⟨i0, hi, hz0, hz1, hz2⟩ := info_parts info3
  have HR := Lib.hid hR
  have hle := headOf_le t
  clear hR
  go_enter Tryz.func19, Tryz.ntmps19
  have hw0 := (Whole.made w 25 #[.int .i64 0, .int .i64 0]).old (.cells #[.bool false, .slice none 0 0, .int .i64 0] 64)
  have hw1 := Whole.made (w.alloc (.cells #[.int .i64 0, .int .i64 0] 25)) 64 #[.bool false, .slice none 0 0, .int .i64 0]
  simp only [World.size_alloc] at hw1
  have hb := ((Below.refl w.heap.size w).alloc (Nat.le_refl _) (.cells #[.int .i64 0, .int .i64 0] 25)).alloc (by simp) (.cells #[.bool false, .slice none 0 0, .int .i64 0] 64)
  have HW := Lib.hid (And.intro hw0 (And.intro hw1 hb))
  clear hw0 hw1 hb
  go_upto_region 3 with fail
  generalize hW2 : (w.alloc (.cells #[.int .i64 0, .int .i64 0] 25)).alloc (.cells #[.bool false, .slice none 0 0, .int .i64 0] 64) = W2 at *
  clear hW2
  have l0 := HW.out.1.lt
  have l1 := HW.out.2.1.lt
  have n0 : W2.cell? ⟨w.heap.size + 1, 0, none⟩ = some (.bool false) := HW.out.2.1.reads 0
  have z0 := HW.out.2.1.thawed 0
  by_cases h0 : 0 < t.size
  · have hne : 0 < (t.size : Int) := by omega
    have hte : t.toList.isEmpty = false := by
      rw [List.isEmpty_eq_false_iff, Lib.toList_data]
      intro e
      have h := congrArg List.length e
      have h3 : t.data.size = 0 := by simpa using h
      have h4 : t.size = 0 := h3
      omega
    by_cases h1 : t[0] = 45
    · have hh : headOf t = (true, 1) := by unfold headOf; rw [dif_pos h0, if_pos h1]
      have b1 : ((t[0].toNat : Int) == 45) = true := by rw [h1]; rfl
      have b2 : ((t[0].toNat : Int) == 43) = false := by rw [h1]; rfl
      have HC := Lib.hid (And.intro (HW.out.1.away (p := ⟨w.heap.size + 1, 0, none⟩) (by simp) (.bool true)) (And.intro (show Whole _ _ _ #[.bool (headOf t).1, .slice none 0 0, .int .i64 0] by rw [hh]; exact HW.out.2.1.set 0 (.bool true)) (HW.out.2.2.setCell (p := ⟨w.heap.size + 1, 0, none⟩) (by simp) (.bool true))))
      have HI : Hid ((headOf t).2 = 1) := Lib.hid (by rw [hh])
      clear h1 hh
      go_wp2_with fail
      clear l0 l1 n0 z0 HW
      generalize (headOf t).1 = neg at *
      go_loopw [5, 6, 7] (fun i l p wr => ∃ (k : Nat) (pt : Bool) (ds : List Int) (bh : Nat), i = .int .i64 k ∧ p = .bool pt ∧ k ≤ t.size ∧ ds.length ≤ k ∧ bh ≤ k ∧ Hid (R = (scanL pt (t.data.toList.drop k)).map (fun x => (ds ++ x.1, bh + x.2))) ∧ Hid (Digs ds) ∧
        wr.ownsRow (w.heap.size + 2) 3 1 l ds.length (ds.map (Value.int .i64)) ∧ Whole wr w.heap.size 25 #[.int .i64 0, .int .i64 0] ∧ Whole wr (w.heap.size + 1) 64 #[.bool neg, .slice none 0 0, .int .i64 bh] ∧ Below w.heap.size w wr) (fun i _ _ _ => t.size - (intOf i).toNat)
      case atStart =>
        refine ⟨(headOf t).2, false, [], 0, by rw [HI.out]; rfl, rfl, hle, Nat.zero_le _, Nat.zero_le _, ?_, Lib.hid (fun d h => by cases h), World.ownsRow_nil _ _ _ _, HC.out⟩
        refine Lib.hid ?_
        rw [HR.out]
        cases scanL false (t.data.toList.drop (headOf t).2) <;> simp
      case round =>
        obtain ⟨k, pt, ds, bh, rfl, rfl, hk, hdl, hbk, HSC, HDG, hown, hw0, hw1, hB⟩ := hrel
        obtain ⟨al, cl, rfl⟩ := own_slice' hown
        have r0 : wr.cell? ⟨w.heap.size, 0, none⟩ = some (.int .i64 0) := hw0.reads 0
        have r1 : wr.cell? ⟨w.heap.size, 1, none⟩ = some (.int .i64 0) := hw0.reads 1
        have y0 := hw0.thawed 0
        have y1 := hw0.thawed 1
        have c2 : wr.cell? ⟨w.heap.size + 1, 2, none⟩ = some (.int .i64 bh) := hw1.reads 2
        have f2 := hw1.thawed 2
        have l0 := hw0.lt
        have l1 := hw1.lt
        have HV := Lib.hid (And.intro hown (And.intro hw0 (And.intro hw1 hB)))
        clear hown hw0 hw1 hB
        by_cases hlt : k < t.size
        · have hlt' : (k : Int) < t.size := by omega
          have hb255 : (t[k].toNat : Int) ≤ 255 := by have := t[k].toNat_lt; omega
          have hsc' := HSC.out
          rw [drop_cons t k hlt] at hsc'
          clear HSC
          by_cases hpt : t[k] = 46 ∧ pt = false
          · obtain ⟨hc, rfl⟩ := hpt
            have hs2 : Hid (R = (scanL true (t.data.toList.drop (k + 1))).map (fun x => (ds ++ x.1, bh + x.2))) := by rw [hc, scan_pt] at hsc'; exact hsc'
            have hb : ((t[k].toNat : Int) == 46) = true := by rw [beq_iff_eq, hc]; rfl
            clear hsc' hc
            go_wp2_with fail
            exact ⟨⟨k + 1, true, ds, bh, by go_num, rfl, by omega, by omega, by omega, hs2, HDG, HV.out⟩, by simp [intOf]; omega⟩
          · by_cases hd : (t[k].toNat : Int) < 48 ∨ 57 < (t[k].toNat : Int)
            · have hn : Hid (R = none) := by rw [scan_no hd hpt] at hsc'; exact hsc'
              clear hsc'
              have hfin : Below w.heap.size w ((wr.setCell ⟨w.heap.size, 0, none⟩ (.int .i64 0)).setCell ⟨w.heap.size, 1, none⟩ (.int .i64 0)) := (HV.out.2.2.2.setCell (p := ⟨w.heap.size, 0, none⟩) (Nat.le_refl _) _).setCell (p := ⟨w.heap.size, 1, none⟩) (Nat.le_refl _) _
              have HF := Lib.hid hfin
              clear hfin
              by_cases hc : t[k] = 46
              · obtain rfl : pt = true := by cases pt with | true => rfl | false => exact absurd ⟨hc, rfl⟩ hpt
                have hb : ((t[k].toNat : Int) == 46) = true := by rw [beq_iff_eq, hc]; rfl
                have hl48 : (t[k].toNat : Int) < 48 := by rw [hc]; decide
                clear hc hpt hd
                go_wp2_with fail
                exact bodyPost_ret (v := .tuple #[.agg #[.int .i64 0, .int .i64 0], .int .i64 4]) (by simp [results, Tryz.results19, go_sem, r0, r1]) rfl (ans_bad (.inl hn.out) HF.out)
              · have hb : ((t[k].toNat : Int) == 46) = false := by
                  rw [beq_eq_false_iff_ne]; intro e; exact hc (UInt8.toNat_inj.1 (by show t[k].toNat = 46; omega))
                clear hc hpt
                rcases hd with hd | hd
                · go_wp2_with fail
                  exact bodyPost_ret (v := .tuple #[.agg #[.int .i64 0, .int .i64 0], .int .i64 4]) (by simp [results, Tryz.results19, go_sem, r0, r1]) rfl (ans_bad (.inl hn.out) HF.out)
                · have hd48 : ¬ (t[k].toNat : Int) < 48 := by omega
                  go_wp2_with fail
                  exact bodyPost_ret (v := .tuple #[.agg #[.int .i64 0, .int .i64 0], .int .i64 4]) (by simp [results, Tryz.results19, go_sem, r0, r1]) rfl (ans_bad (.inl hn.out) HF.out)
            · have hd1 : 48 ≤ (t[k].toNat : Int) := by omega
              have hd2 : (t[k].toNat : Int) ≤ 57 := by omega
              have hb : ((t[k].toNat : Int) == 46) = false := by rw [beq_eq_false_iff_ne]; omega
              rw [scan_dig hd1 hd2] at hsc'
              have HS := Lib.hid hsc'
              have HD2 : Hid (Digs (ds ++ [(t[k].toNat : Int) - 48])) := Lib.hid (fun d hd => by
                rcases List.mem_append.1 hd with e | e
                · exact HDG.out d e
                · obtain rfl := List.mem_singleton.1 e
                  omega)
              clear hsc' hpt hd
              cases pt
              all_goals
                go_wp2_with (at_builtin; refine wpList_append_own _ rfl _ _ 61 rfl (w.heap.size + 2) 3 i0 (.int .i64 0) 1 8 Tryz.underlying61 hi hz0 hz1 hz2 rfl (by decide) _ _ _ rfl (HV.out.1.alloc _) ⟨wr.heap.size, 0, none⟩ 1 1 [.int .i64 ((t[k].toNat : Int) - 48)] rfl rfl (World.news_of_block (cs := #[.int .i64 ((t[k].toNat : Int) - 48)]) (t := 3) (fr := (0, 0)) (heap_alloc_new wr _)) ?c2 ?c3 ?c4 ?c5 ?_)
                case c2 => simp [Value.oneCell']
                case c3 => unfold maxLen; omega
                case c4 => omega
                case c5 => first | omega | (simp; omega)
                intro v' w3 hown' hgrow _
                have hne0 : ∀ j, (Value.slice al ds.length cl).ownBlock = some j → w.heap.size + 2 ≤ j := fun j e => (own_lt HV.out.1 e).1
                have hk0 : Whole w3 w.heap.size 25 #[.int .i64 0, .int .i64 0] := (HV.out.2.1.old _).kept hgrow (fun e => by have := hne0 _ e.symm; omega)
                have hk1 : Whole w3 (w.heap.size + 1) 64 #[.bool neg, .slice none 0 0, .int .i64 bh] := (HV.out.2.2.1.old _).kept hgrow (fun e => by have := hne0 _ e.symm; omega)
                have hk2 : Below w.heap.size w w3 := (HV.out.2.2.2.alloc HV.out.2.2.2.size _).grown hgrow (by have := HV.out.2.2.2.size; simp; omega) (fun j e => by have := hne0 j e; omega)
                have hown2 : w3.ownsRow (w.heap.size + 2) 3 1 v' (ds ++ [(t[k].toNat : Int) - 48]).length ((ds ++ [(t[k].toNat : Int) - 48]).map (Value.int .i64)) := by
                  rw [List.length_append, List.map_append]
                  exact hown'
                have c2' : w3.cell? ⟨w.heap.size + 1, 2, none⟩ = some (.int .i64 bh) := hk1.reads 2
                have f2' := hk1.thawed 2
                have l1' := hk1.lt
                obtain ⟨a5, c5, rfl⟩ := own_slice' hown'
                have H3 := Lib.hid (And.intro hown2 (And.intro hk0 (And.intro hk1 hk2)))
                clear hown' hgrow hne0 hk0 hk1 hk2 hown2
              · have hs' : Hid (R = (scanL false (t.data.toList.drop (k + 1))).map (fun x => ((ds ++ [(t[k].toNat : Int) - 48]) ++ x.1, bh + x.2))) := by
                  show _ = _
                  rw [HS.out]
                  cases scanL false (t.data.toList.drop (k + 1)) <;> simp
                go_wp2_with fail
                go_roundw
                case rel => exact ⟨k + 1, false, ds ++ [(t[k].toNat : Int) - 48], bh, by go_num, rfl, by omega, by simp; omega, by omega, hs', HD2, H3.out⟩
                case measure => simp [intOf]; omega
              · have hs' : Hid (R = (scanL true (t.data.toList.drop (k + 1))).map (fun x => ((ds ++ [(t[k].toNat : Int) - 48]) ++ x.1, bh + 1 + x.2))) := by
                  show _ = _
                  rw [HS.out]
                  cases scanL true (t.data.toList.drop (k + 1)) <;> simp <;> omega
                have H4 := Lib.hid (And.intro (ownsRow_setCell_below H3.out.1 (a := ⟨w.heap.size + 1, 2, none⟩) (by simp) (.int .i64 ((bh : Int) + 1))) (And.intro (H3.out.2.1.away (p := ⟨w.heap.size + 1, 2, none⟩) (by simp) (.int .i64 ((bh : Int) + 1))) (And.intro (H3.out.2.2.1.set 2 (.int .i64 ((bh : Int) + 1))) (H3.out.2.2.2.setCell (p := ⟨w.heap.size + 1, 2, none⟩) (by simp) (.int .i64 ((bh : Int) + 1))))))
                go_wp2_with fail
                go_roundw
                case rel => exact ⟨k + 1, true, ds ++ [(t[k].toNat : Int) - 48], bh + 1, by go_num, rfl, by omega, by simp; omega, by omega, hs', HD2, H4.out⟩
                case measure => simp [intOf]; omega
        · obtain rfl : k = t.size := by omega
          have hRR : Hid (R = some (ds, bh)) := by
            show _ = _
            rw [HSC.out, List.drop_of_length_le (by simp)]
            simp [scanL]
          have hfin : Below w.heap.size w ((wr.setCell ⟨w.heap.size, 0, none⟩ (.int .i64 0)).setCell ⟨w.heap.size, 1, none⟩ (.int .i64 0)) := (HV.out.2.2.2.setCell (p := ⟨w.heap.size, 0, none⟩) (Nat.le_refl _) _).setCell (p := ⟨w.heap.size, 1, none⟩) (Nat.le_refl _) _
          have HF := Lib.hid hfin
          clear hfin HSC
          by_cases hz : ds.length = 0
          · have hb0 : ((ds.length : Int) == 0) = true := by rw [beq_iff_eq]; omega
            have hds : ds = [] := List.eq_nil_of_length_eq_zero hz
            have HDS := Lib.hid hds
            clear hz hds
            go_wp2_with fail
            exact bodyPost_ret (v := .tuple #[.agg #[.int .i64 0, .int .i64 0], .int .i64 4]) (by simp [results, Tryz.results19, go_sem, r0, r1]) rfl (ans_bad (.inr (.inl ⟨bh, by rw [hRR.out, HDS.out]⟩)) HF.out)
          have hb0 : ((ds.length : Int) == 0) = false := by rw [beq_eq_false_iff_ne]; omega
          by_cases h40 : 40 < t.size
          · have hb1 : decide ((40 : Int) < (t.size : Int)) = true := by rw [decide_eq_true_iff]; omega
            go_wp2_with fail
            exact bodyPost_ret (v := .tuple #[.agg #[.int .i64 0, .int .i64 0], .int .i64 4]) (by simp [results, Tryz.results19, go_sem, r0, r1]) rfl (ans_bad (.inr (.inr h40)) HF.out)
          have hb1 : decide ((40 : Int) < (t.size : Int)) = false := by rw [decide_eq_false_iff_not]; omega
          have hw1i : Whole wr (w.heap.size + 1) 64 #[.bool neg, .slice none 0 0, .int .i64 bh] := HV.out.2.2.1
          have HW1 := Lib.hid hw1i
          clear HF hw1i
          obtain ⟨W3, rfl⟩ : ∃ W3 : World, W3 = wr := ⟨_, rfl⟩
          go_wp2_with fail
          go_loopw [8] (fun z ws => ∃ (m : Nat) (v : Value), m ≤ ds.length ∧ z = .int .i64 ((m : Int) - 1) ∧ ws.ownsRow W3.heap.size 3 1 v (ds.length - m) ((ds.drop m).reverse.map (Value.int .i64)) ∧ Whole ws (w.heap.size + 1) 64 #[.bool neg, v, .int .i64 bh] ∧ Fr (fun k => k = w.heap.size + 1) W3 ws) (fun z _ => (intOf z + 1).toNat)
          case atStart => exact ⟨ds.length, .slice none 0 0, Nat.le_refl _, rfl, by rw [Nat.sub_self, List.drop_length]; exact World.ownsRow_nil _ _ _ _, HW1.out, Fr.refl _ _⟩
          case round =>
            obtain ⟨m, v, hm, rfl, hown, hw1, hf⟩ := hrel
            obtain ⟨av, cv, rfl⟩ := own_slice' hown
            have hsz := hf.size
            have q1 : wr.cell? ⟨w.heap.size + 1, 1, none⟩ = some (.slice av (ds.length - m) cv) := hw1.reads 1
            have qf := hw1.thawed 1
            have ql := hw1.lt
            have HX := Lib.hid (And.intro hown (And.intro hw1 hf))
            clear hown hw1 hf
            by_cases hm0 : 0 < m
            · obtain ⟨m, rfl⟩ : ∃ m', m = m' + 1 := ⟨m - 1, by omega⟩
              obtain ⟨d, hd⟩ : ∃ d, ds[m]? = some d := ⟨_, List.getElem?_eq_getElem (by omega)⟩
              obtain ⟨gl, rfl, hgl1, hgl2, hcell⟩ := own_at HV.out.1 hd
              have hcw : wr.cell? ⟨gl, m, none⟩ = some (.int .i64 d) := (HX.out.2.2.cell' (p := ⟨gl, m, none⟩) (by show gl ≠ _; omega) hgl2).trans hcell
              have lgl : gl < wr.heap.size := by omega
              have hrev : (ds.drop m).reverse = (ds.drop (m + 1)).reverse ++ [d] := by
                rw [List.drop_eq_getElem_cons (by omega), List.reverse_cons]
                congr 2
                rw [List.getElem?_eq_getElem (by omega)] at hd
                exact Option.some.inj hd
              have HREV := Lib.hid hrev
              clear hd hcell hrev
              rw [show ((m + 1 : Nat) : Int) - 1 = m by omega]
              have p0 : (0 : Int) ≤ (m : Int) := by omega
              have p1 : (m : Int) < (ds.length : Int) := by omega
              go_wp2_with fail
              go_region_law ((refine step_append_lies _ (by rfl) _ _ _ (by rfl) W3.heap.size 3 i0 (.int .i64 0) 1 8 Tryz.underlying61 hi hz0 hz1 hz2 rfl (by omega) (.slice av (ds.length - (m + 1)) cv) (ds.length - (m + 1)) ((ds.drop (m + 1)).reverse.map (Value.int .i64)) (by rfl) ((HX.out.1.alloc _).drew) ⟨wr.heap.size, 0, none⟩ 1 1 [.int .i64 d] (by rfl) (by rfl) (World.news_of_block (cs := #[.int .i64 d]) (t := 3) (fr := (0, 0)) (heap_alloc_new wr _)) (by simp [Value.oneCell']) (by omega) (by unfold maxLen; omega) (by omega) (by simp; omega) (wr.heap.size + 1) (by simp) ?_; intro g cap w1 hown1 hgrow hat hlt; have hx := rp_step HX.out.1 HX.out.2.1 HX.out.2.2 (by omega) HREV.out (by omega) hgrow hown1; have d1 : w1.cell? ⟨w.heap.size + 1, 1, none⟩ = some (.slice av (ds.length - (m + 1)) cv) := hx.1.reads 1; have e1 := hx.1.thawed 1; have lB1 := hx.1.lt; have HG := Lib.hid hx.2; clear hx hown1 hgrow hat hlt))
              all_goals
                go_wp2_with fail
                go_roundw
                case rel => exact ⟨m, _, by omega, rfl, HG.out⟩
                case measure => simp [intOf]
            · obtain rfl : m = 0 := by omega
              have hown2 : wr.ownsRow W3.heap.size 3 1 (.slice av (ds.length - 0) cv) ds.reverse.length (ds.reverse.map (Value.int .i64)) := by
                have := HX.out.1
                simpa using this
              have hrow := own_row hown2
              have hdr : Digs ds.reverse := fun d hd => HDG.out d (List.mem_reverse.1 hd)
              have q0 : wr.cell? ⟨w.heap.size + 1, 0, none⟩ = some (.bool neg) := HX.out.2.1.reads 0
              have q2 : wr.cell? ⟨w.heap.size + 1, 2, none⟩ = some (.int .i64 bh) := HX.out.2.1.reads 2
              have hw03 := HV.out.2.1.frame HX.out.2.2 (show ¬ w.heap.size = w.heap.size + 1 by omega)
              have hb3 : Below w.heap.size w wr := HV.out.2.2.2.trans (HX.out.2.2.below (by omega) (fun j hj e => by omega))
              have htold := told_any neg (.slice av (ds.length - 0) cv) ds.reverse bh (if neg = true then -(num ds.reverse : Int) else (num ds.reverse : Int)) wr hrow hdr (by simp; omega) (by omega) rfl
              have HT := Lib.hid htold
              have HY := Lib.hid (And.intro hw03 hb3)
              clear hown2 hrow hdr htold hw03 hb3 HW1
              rw [show ((0 : Nat) : Int) - 1 = -1 from rfl]
              go_wp2_with fail
              refine HT.out.mono ?_
              rintro e w4 ⟨M, S, E, rfl, hden, hb4⟩
              have hw04 := HY.out.1.here hb4
              have s0 : w4.cell? ⟨w.heap.size, 0, none⟩ = some (.int .i64 0) := hw04.reads 0
              have s1 : w4.cell? ⟨w.heap.size, 1, none⟩ = some (.int .i64 0) := hw04.reads 1
              have x0 := hw04.thawed 0
              have x1 := hw04.thawed 1
              have l4 := hw04.lt
              have hfin : Below w.heap.size w ((w4.setCell ⟨w.heap.size, 0, none⟩ (.int .i64 M)).setCell ⟨w.heap.size, 1, none⟩ (.int .i64 S)) := ((HY.out.2.trans (hb4.mono HY.out.2.size)).setCell (p := ⟨w.heap.size, 0, none⟩) (Nat.le_refl _) _).setCell (p := ⟨w.heap.size, 1, none⟩) (Nat.le_refl _) _
              have HF := Lib.hid (And.intro hden hfin)
              clear hden hb4 hw04 hfin
              go_wp2_with fail
              refine bodyPost_ret (v := .tuple #[.agg #[.int .i64 M, .int .i64 S], .int .i64 E]) (by simp [results, Tryz.results19, go_sem, s0, s1]) rfl ⟨fun h => ?_, fun ds' b' h1 h2 h3 => ?_⟩
              · rw [hRR.out] at h
                rcases h with h | ⟨b', h⟩ | h
                · cases h
                · injection h with h; injection h with h _; subst h; exact absurd rfl hz
                · exact absurd h h40
              · rw [hRR.out] at h1
                injection h1 with h1
                injection h1 with h1 h4
                subst h1
                subst h4
                exact ⟨M, S, E, rfl, HF.out.1, HF.out.2⟩
    · have b1 : ((t[0].toNat : Int) == 45) = false := by
        rw [beq_eq_false_iff_ne]; intro e; exact h1 (UInt8.toNat_inj.1 (by show t[0].toNat = 45; omega))
      by_cases h2 : t[0] = 43
      · have hh : headOf t = (false, 1) := by unfold headOf; rw [dif_pos h0, if_neg h1, if_pos h2]
        have b2 : ((t[0].toNat : Int) == 43) = true := by rw [h2]; rfl
        have HC := Lib.hid (And.intro (HW.out.1.away (p := ⟨w.heap.size + 1, 0, none⟩) (by simp) (.bool false)) (And.intro (show Whole _ _ _ #[.bool (headOf t).1, .slice none 0 0, .int .i64 0] by rw [hh]; exact HW.out.2.1.set 0 (.bool false)) (HW.out.2.2.setCell (p := ⟨w.heap.size + 1, 0, none⟩) (by simp) (.bool false))))
        have HI : Hid ((headOf t).2 = 1) := Lib.hid (by rw [hh])
        clear h1 h2 hh
        go_wp2_with fail
        clear l0 l1 n0 z0 HW
        generalize (headOf t).1 = neg at *
        go_loopw [5, 6, 7] (fun i l p wr => ∃ (k : Nat) (pt : Bool) (ds : List Int) (bh : Nat), i = .int .i64 k ∧ p = .bool pt ∧ k ≤ t.size ∧ ds.length ≤ k ∧ bh ≤ k ∧ Hid (R = (scanL pt (t.data.toList.drop k)).map (fun x => (ds ++ x.1, bh + x.2))) ∧ Hid (Digs ds) ∧
          wr.ownsRow (w.heap.size + 2) 3 1 l ds.length (ds.map (Value.int .i64)) ∧ Whole wr w.heap.size 25 #[.int .i64 0, .int .i64 0] ∧ Whole wr (w.heap.size + 1) 64 #[.bool neg, .slice none 0 0, .int .i64 bh] ∧ Below w.heap.size w wr) (fun i _ _ _ => t.size - (intOf i).toNat)
        case atStart =>
          refine ⟨(headOf t).2, false, [], 0, by rw [HI.out]; rfl, rfl, hle, Nat.zero_le _, Nat.zero_le _, ?_, Lib.hid (fun d h => by cases h), World.ownsRow_nil _ _ _ _, HC.out⟩
          refine Lib.hid ?_
          rw [HR.out]
          cases scanL false (t.data.toList.drop (headOf t).2) <;> simp
        case round =>
          obtain ⟨k, pt, ds, bh, rfl, rfl, hk, hdl, hbk, HSC, HDG, hown, hw0, hw1, hB⟩ := hrel
          obtain ⟨al, cl, rfl⟩ := own_slice' hown
          have r0 : wr.cell? ⟨w.heap.size, 0, none⟩ = some (.int .i64 0) := hw0.reads 0
          have r1 : wr.cell? ⟨w.heap.size, 1, none⟩ = some (.int .i64 0) := hw0.reads 1
          have y0 := hw0.thawed 0
          have y1 := hw0.thawed 1
          have c2 : wr.cell? ⟨w.heap.size + 1, 2, none⟩ = some (.int .i64 bh) := hw1.reads 2
          have f2 := hw1.thawed 2
          have l0 := hw0.lt
          have l1 := hw1.lt
          have HV := Lib.hid (And.intro hown (And.intro hw0 (And.intro hw1 hB)))
          clear hown hw0 hw1 hB
          by_cases hlt : k < t.size
          · have hlt' : (k : Int) < t.size := by omega
            have hb255 : (t[k].toNat : Int) ≤ 255 := by have := t[k].toNat_lt; omega
            have hsc' := HSC.out
            rw [drop_cons t k hlt] at hsc'
            clear HSC
            by_cases hpt : t[k] = 46 ∧ pt = false
            · obtain ⟨hc, rfl⟩ := hpt
              have hs2 : Hid (R = (scanL true (t.data.toList.drop (k + 1))).map (fun x => (ds ++ x.1, bh + x.2))) := by rw [hc, scan_pt] at hsc'; exact hsc'
              have hb : ((t[k].toNat : Int) == 46) = true := by rw [beq_iff_eq, hc]; rfl
              clear hsc' hc
              go_wp2_with fail
              exact ⟨⟨k + 1, true, ds, bh, by go_num, rfl, by omega, by omega, by omega, hs2, HDG, HV.out⟩, by simp [intOf]; omega⟩
            · by_cases hd : (t[k].toNat : Int) < 48 ∨ 57 < (t[k].toNat : Int)
              · have hn : Hid (R = none) := by rw [scan_no hd hpt] at hsc'; exact hsc'
                clear hsc'
                have hfin : Below w.heap.size w ((wr.setCell ⟨w.heap.size, 0, none⟩ (.int .i64 0)).setCell ⟨w.heap.size, 1, none⟩ (.int .i64 0)) := (HV.out.2.2.2.setCell (p := ⟨w.heap.size, 0, none⟩) (Nat.le_refl _) _).setCell (p := ⟨w.heap.size, 1, none⟩) (Nat.le_refl _) _
                have HF := Lib.hid hfin
                clear hfin
                by_cases hc : t[k] = 46
                · obtain rfl : pt = true := by cases pt with | true => rfl | false => exact absurd ⟨hc, rfl⟩ hpt
                  have hb : ((t[k].toNat : Int) == 46) = true := by rw [beq_iff_eq, hc]; rfl
                  have hl48 : (t[k].toNat : Int) < 48 := by rw [hc]; decide
                  clear hc hpt hd
                  go_wp2_with fail
                  exact bodyPost_ret (v := .tuple #[.agg #[.int .i64 0, .int .i64 0], .int .i64 4]) (by simp [results, Tryz.results19, go_sem, r0, r1]) rfl (ans_bad (.inl hn.out) HF.out)
                · have hb : ((t[k].toNat : Int) == 46) = false := by
                    rw [beq_eq_false_iff_ne]; intro e; exact hc (UInt8.toNat_inj.1 (by show t[k].toNat = 46; omega))
                  clear hc hpt
                  rcases hd with hd | hd
                  · go_wp2_with fail
                    exact bodyPost_ret (v := .tuple #[.agg #[.int .i64 0, .int .i64 0], .int .i64 4]) (by simp [results, Tryz.results19, go_sem, r0, r1]) rfl (ans_bad (.inl hn.out) HF.out)
                  · have hd48 : ¬ (t[k].toNat : Int) < 48 := by omega
                    go_wp2_with fail
                    exact bodyPost_ret (v := .tuple #[.agg #[.int .i64 0, .int .i64 0], .int .i64 4]) (by simp [results, Tryz.results19, go_sem, r0, r1]) rfl (ans_bad (.inl hn.out) HF.out)
              · have hd1 : 48 ≤ (t[k].toNat : Int) := by omega
                have hd2 : (t[k].toNat : Int) ≤ 57 := by omega
                have hb : ((t[k].toNat : Int) == 46) = false := by rw [beq_eq_false_iff_ne]; omega
                rw [scan_dig hd1 hd2] at hsc'
                have HS := Lib.hid hsc'
                have HD2 : Hid (Digs (ds ++ [(t[k].toNat : Int) - 48])) := Lib.hid (fun d hd => by
                  rcases List.mem_append.1 hd with e | e
                  · exact HDG.out d e
                  · obtain rfl := List.mem_singleton.1 e
                    omega)
                clear hsc' hpt hd
                cases pt
                all_goals
                  go_wp2_with (at_builtin; refine wpList_append_own _ rfl _ _ 61 rfl (w.heap.size + 2) 3 i0 (.int .i64 0) 1 8 Tryz.underlying61 hi hz0 hz1 hz2 rfl (by decide) _ _ _ rfl (HV.out.1.alloc _) ⟨wr.heap.size, 0, none⟩ 1 1 [.int .i64 ((t[k].toNat : Int) - 48)] rfl rfl (World.news_of_block (cs := #[.int .i64 ((t[k].toNat : Int) - 48)]) (t := 3) (fr := (0, 0)) (heap_alloc_new wr _)) ?c2 ?c3 ?c4 ?c5 ?_)
                  case c2 => simp [Value.oneCell']
                  case c3 => unfold maxLen; omega
                  case c4 => omega
                  case c5 => first | omega | (simp; omega)
                  intro v' w3 hown' hgrow _
                  have hne0 : ∀ j, (Value.slice al ds.length cl).ownBlock = some j → w.heap.size + 2 ≤ j := fun j e => (own_lt HV.out.1 e).1
                  have hk0 : Whole w3 w.heap.size 25 #[.int .i64 0, .int .i64 0] := (HV.out.2.1.old _).kept hgrow (fun e => by have := hne0 _ e.symm; omega)
                  have hk1 : Whole w3 (w.heap.size + 1) 64 #[.bool neg, .slice none 0 0, .int .i64 bh] := (HV.out.2.2.1.old _).kept hgrow (fun e => by have := hne0 _ e.symm; omega)
                  have hk2 : Below w.heap.size w w3 := (HV.out.2.2.2.alloc HV.out.2.2.2.size _).grown hgrow (by have := HV.out.2.2.2.size; simp; omega) (fun j e => by have := hne0 j e; omega)
                  have hown2 : w3.ownsRow (w.heap.size + 2) 3 1 v' (ds ++ [(t[k].toNat : Int) - 48]).length ((ds ++ [(t[k].toNat : Int) - 48]).map (Value.int .i64)) := by
                    rw [List.length_append, List.map_append]
                    exact hown'
                  have c2' : w3.cell? ⟨w.heap.size + 1, 2, none⟩ = some (.int .i64 bh) := hk1.reads 2
                  have f2' := hk1.thawed 2
                  have l1' := hk1.lt
                  obtain ⟨a5, c5, rfl⟩ := own_slice' hown'
                  have H3 := Lib.hid (And.intro hown2 (And.intro hk0 (And.intro hk1 hk2)))
                  clear hown' hgrow hne0 hk0 hk1 hk2 hown2
                · have hs' : Hid (R = (scanL false (t.data.toList.drop (k + 1))).map (fun x => ((ds ++ [(t[k].toNat : Int) - 48]) ++ x.1, bh + x.2))) := by
                    show _ = _
                    rw [HS.out]
                    cases scanL false (t.data.toList.drop (k + 1)) <;> simp
                  go_wp2_with fail
                  go_roundw
                  case rel => exact ⟨k + 1, false, ds ++ [(t[k].toNat : Int) - 48], bh, by go_num, rfl, by omega, by simp; omega, by omega, hs', HD2, H3.out⟩
                  case measure => simp [intOf]; omega
                · have hs' : Hid (R = (scanL true (t.data.toList.drop (k + 1))).map (fun x => ((ds ++ [(t[k].toNat : Int) - 48]) ++ x.1, bh + 1 + x.2))) := by
                    show _ = _
                    rw [HS.out]
                    cases scanL true (t.data.toList.drop (k + 1)) <;> simp <;> omega
                  have H4 := Lib.hid (And.intro (ownsRow_setCell_below H3.out.1 (a := ⟨w.heap.size + 1, 2, none⟩) (by simp) (.int .i64 ((bh : Int) + 1))) (And.intro (H3.out.2.1.away (p := ⟨w.heap.size + 1, 2, none⟩) (by simp) (.int .i64 ((bh : Int) + 1))) (And.intro (H3.out.2.2.1.set 2 (.int .i64 ((bh : Int) + 1))) (H3.out.2.2.2.setCell (p := ⟨w.heap.size + 1, 2, none⟩) (by simp) (.int .i64 ((bh : Int) + 1))))))
                  go_wp2_with fail
                  go_roundw
                  case rel => exact ⟨k + 1, true, ds ++ [(t[k].toNat : Int) - 48], bh + 1, by go_num, rfl, by omega, by simp; omega, by omega, hs', HD2, H4.out⟩
                  case measure => simp [intOf]; omega
          · obtain rfl : k = t.size := by omega
            have hRR : Hid (R = some (ds, bh)) := by
              show _ = _
              rw [HSC.out, List.drop_of_length_le (by simp)]
              simp [scanL]
            have hfin : Below w.heap.size w ((wr.setCell ⟨w.heap.size, 0, none⟩ (.int .i64 0)).setCell ⟨w.heap.size, 1, none⟩ (.int .i64 0)) := (HV.out.2.2.2.setCell (p := ⟨w.heap.size, 0, none⟩) (Nat.le_refl _) _).setCell (p := ⟨w.heap.size, 1, none⟩) (Nat.le_refl _) _
            have HF := Lib.hid hfin
            clear hfin HSC
            by_cases hz : ds.length = 0
            · have hb0 : ((ds.length : Int) == 0) = true := by rw [beq_iff_eq]; omega
              have hds : ds = [] := List.eq_nil_of_length_eq_zero hz
              have HDS := Lib.hid hds
              clear hz hds
              go_wp2_with fail
              exact bodyPost_ret (v := .tuple #[.agg #[.int .i64 0, .int .i64 0], .int .i64 4]) (by simp [results, Tryz.results19, go_sem, r0, r1]) rfl (ans_bad (.inr (.inl ⟨bh, by rw [hRR.out, HDS.out]⟩)) HF.out)
            have hb0 : ((ds.length : Int) == 0) = false := by rw [beq_eq_false_iff_ne]; omega
            by_cases h40 : 40 < t.size
            · have hb1 : decide ((40 : Int) < (t.size : Int)) = true := by rw [decide_eq_true_iff]; omega
              go_wp2_with fail
              exact bodyPost_ret (v := .tuple #[.agg #[.int .i64 0, .int .i64 0], .int .i64 4]) (by simp [results, Tryz.results19, go_sem, r0, r1]) rfl (ans_bad (.inr (.inr h40)) HF.out)
            have hb1 : decide ((40 : Int) < (t.size : Int)) = false := by rw [decide_eq_false_iff_not]; omega
            have hw1i : Whole wr (w.heap.size + 1) 64 #[.bool neg, .slice none 0 0, .int .i64 bh] := HV.out.2.2.1
            have HW1 := Lib.hid hw1i
            clear HF hw1i
            obtain ⟨W3, rfl⟩ : ∃ W3 : World, W3 = wr := ⟨_, rfl⟩
            go_wp2_with fail
            go_loopw [8] (fun z ws => ∃ (m : Nat) (v : Value), m ≤ ds.length ∧ z = .int .i64 ((m : Int) - 1) ∧ ws.ownsRow W3.heap.size 3 1 v (ds.length - m) ((ds.drop m).reverse.map (Value.int .i64)) ∧ Whole ws (w.heap.size + 1) 64 #[.bool neg, v, .int .i64 bh] ∧ Fr (fun k => k = w.heap.size + 1) W3 ws) (fun z _ => (intOf z + 1).toNat)
            case atStart => exact ⟨ds.length, .slice none 0 0, Nat.le_refl _, rfl, by rw [Nat.sub_self, List.drop_length]; exact World.ownsRow_nil _ _ _ _, HW1.out, Fr.refl _ _⟩
            case round =>
              obtain ⟨m, v, hm, rfl, hown, hw1, hf⟩ := hrel
              obtain ⟨av, cv, rfl⟩ := own_slice' hown
              have hsz := hf.size
              have q1 : wr.cell? ⟨w.heap.size + 1, 1, none⟩ = some (.slice av (ds.length - m) cv) := hw1.reads 1
              have qf := hw1.thawed 1
              have ql := hw1.lt
              have HX := Lib.hid (And.intro hown (And.intro hw1 hf))
              clear hown hw1 hf
              by_cases hm0 : 0 < m
              · obtain ⟨m, rfl⟩ : ∃ m', m = m' + 1 := ⟨m - 1, by omega⟩
                obtain ⟨d, hd⟩ : ∃ d, ds[m]? = some d := ⟨_, List.getElem?_eq_getElem (by omega)⟩
                obtain ⟨gl, rfl, hgl1, hgl2, hcell⟩ := own_at HV.out.1 hd
                have hcw : wr.cell? ⟨gl, m, none⟩ = some (.int .i64 d) := (HX.out.2.2.cell' (p := ⟨gl, m, none⟩) (by show gl ≠ _; omega) hgl2).trans hcell
                have lgl : gl < wr.heap.size := by omega
                have hrev : (ds.drop m).reverse = (ds.drop (m + 1)).reverse ++ [d] := by
                  rw [List.drop_eq_getElem_cons (by omega), List.reverse_cons]
                  congr 2
                  rw [List.getElem?_eq_getElem (by omega)] at hd
                  exact Option.some.inj hd
                have HREV := Lib.hid hrev
                clear hd hcell hrev
                rw [show ((m + 1 : Nat) : Int) - 1 = m by omega]
                have p0 : (0 : Int) ≤ (m : Int) := by omega
                have p1 : (m : Int) < (ds.length : Int) := by omega
                go_wp2_with fail
                go_region_law ((refine step_append_lies _ (by rfl) _ _ _ (by rfl) W3.heap.size 3 i0 (.int .i64 0) 1 8 Tryz.underlying61 hi hz0 hz1 hz2 rfl (by omega) (.slice av (ds.length - (m + 1)) cv) (ds.length - (m + 1)) ((ds.drop (m + 1)).reverse.map (Value.int .i64)) (by rfl) ((HX.out.1.alloc _).drew) ⟨wr.heap.size, 0, none⟩ 1 1 [.int .i64 d] (by rfl) (by rfl) (World.news_of_block (cs := #[.int .i64 d]) (t := 3) (fr := (0, 0)) (heap_alloc_new wr _)) (by simp [Value.oneCell']) (by omega) (by unfold maxLen; omega) (by omega) (by simp; omega) (wr.heap.size + 1) (by simp) ?_; intro g cap w1 hown1 hgrow hat hlt; have hx := rp_step HX.out.1 HX.out.2.1 HX.out.2.2 (by omega) HREV.out (by omega) hgrow hown1; have d1 : w1.cell? ⟨w.heap.size + 1, 1, none⟩ = some (.slice av (ds.length - (m + 1)) cv) := hx.1.reads 1; have e1 := hx.1.thawed 1; have lB1 := hx.1.lt; have HG := Lib.hid hx.2; clear hx hown1 hgrow hat hlt))
                all_goals
                  go_wp2_with fail
                  go_roundw
                  case rel => exact ⟨m, _, by omega, rfl, HG.out⟩
                  case measure => simp [intOf]
              · obtain rfl : m = 0 := by omega
                have hown2 : wr.ownsRow W3.heap.size 3 1 (.slice av (ds.length - 0) cv) ds.reverse.length (ds.reverse.map (Value.int .i64)) := by
                  have := HX.out.1
                  simpa using this
                have hrow := own_row hown2
                have hdr : Digs ds.reverse := fun d hd => HDG.out d (List.mem_reverse.1 hd)
                have q0 : wr.cell? ⟨w.heap.size + 1, 0, none⟩ = some (.bool neg) := HX.out.2.1.reads 0
                have q2 : wr.cell? ⟨w.heap.size + 1, 2, none⟩ = some (.int .i64 bh) := HX.out.2.1.reads 2
                have hw03 := HV.out.2.1.frame HX.out.2.2 (show ¬ w.heap.size = w.heap.size + 1 by omega)
                have hb3 : Below w.heap.size w wr := HV.out.2.2.2.trans (HX.out.2.2.below (by omega) (fun j hj e => by omega))
                have htold := told_any neg (.slice av (ds.length - 0) cv) ds.reverse bh (if neg = true then -(num ds.reverse : Int) else (num ds.reverse : Int)) wr hrow hdr (by simp; omega) (by omega) rfl
                have HT := Lib.hid htold
                have HY := Lib.hid (And.intro hw03 hb3)
                clear hown2 hrow hdr htold hw03 hb3 HW1
                rw [show ((0 : Nat) : Int) - 1 = -1 from rfl]
                go_wp2_with fail
                refine HT.out.mono ?_
                rintro e w4 ⟨M, S, E, rfl, hden, hb4⟩
                have hw04 := HY.out.1.here hb4
                have s0 : w4.cell? ⟨w.heap.size, 0, none⟩ = some (.int .i64 0) := hw04.reads 0
                have s1 : w4.cell? ⟨w.heap.size, 1, none⟩ = some (.int .i64 0) := hw04.reads 1
                have x0 := hw04.thawed 0
                have x1 := hw04.thawed 1
                have l4 := hw04.lt
                have hfin : Below w.heap.size w ((w4.setCell ⟨w.heap.size, 0, none⟩ (.int .i64 M)).setCell ⟨w.heap.size, 1, none⟩ (.int .i64 S)) := ((HY.out.2.trans (hb4.mono HY.out.2.size)).setCell (p := ⟨w.heap.size, 0, none⟩) (Nat.le_refl _) _).setCell (p := ⟨w.heap.size, 1, none⟩) (Nat.le_refl _) _
                have HF := Lib.hid (And.intro hden hfin)
                clear hden hb4 hw04 hfin
                go_wp2_with fail
                refine bodyPost_ret (v := .tuple #[.agg #[.int .i64 M, .int .i64 S], .int .i64 E]) (by simp [results, Tryz.results19, go_sem, s0, s1]) rfl ⟨fun h => ?_, fun ds' b' h1 h2 h3 => ?_⟩
                · rw [hRR.out] at h
                  rcases h with h | ⟨b', h⟩ | h
                  · cases h
                  · injection h with h; injection h with h _; subst h; exact absurd rfl hz
                  · exact absurd h h40
                · rw [hRR.out] at h1
                  injection h1 with h1
                  injection h1 with h1 h4
                  subst h1
                  subst h4
                  exact ⟨M, S, E, rfl, HF.out.1, HF.out.2⟩
      · have hh : headOf t = (false, 0) := by unfold headOf; rw [dif_pos h0, if_neg h1, if_neg h2]
        have b2 : ((t[0].toNat : Int) == 43) = false := by
          rw [beq_eq_false_iff_ne]; intro e; exact h2 (UInt8.toNat_inj.1 (by show t[0].toNat = 43; omega))
        have HC := Lib.hid (And.intro HW.out.1 (And.intro (show Whole _ _ _ #[.bool (headOf t).1, .slice none 0 0, .int .i64 0] by rw [hh]; exact HW.out.2.1) HW.out.2.2))
        have HI : Hid ((headOf t).2 = 0) := Lib.hid (by rw [hh])
        clear h1 h2 hh
        go_wp2_with fail
        clear l0 l1 n0 z0 HW
        generalize (headOf t).1 = neg at *
        go_loopw [5, 6, 7] (fun i l p wr => ∃ (k : Nat) (pt : Bool) (ds : List Int) (bh : Nat), i = .int .i64 k ∧ p = .bool pt ∧ k ≤ t.size ∧ ds.length ≤ k ∧ bh ≤ k ∧ Hid (R = (scanL pt (t.data.toList.drop k)).map (fun x => (ds ++ x.1, bh + x.2))) ∧ Hid (Digs ds) ∧
          wr.ownsRow (w.heap.size + 2) 3 1 l ds.length (ds.map (Value.int .i64)) ∧ Whole wr w.heap.size 25 #[.int .i64 0, .int .i64 0] ∧ Whole wr (w.heap.size + 1) 64 #[.bool neg, .slice none 0 0, .int .i64 bh] ∧ Below w.heap.size w wr) (fun i _ _ _ => t.size - (intOf i).toNat)
        case atStart =>
          refine ⟨(headOf t).2, false, [], 0, by rw [HI.out]; rfl, rfl, hle, Nat.zero_le _, Nat.zero_le _, ?_, Lib.hid (fun d h => by cases h), World.ownsRow_nil _ _ _ _, HC.out⟩
          refine Lib.hid ?_
          rw [HR.out]
          cases scanL false (t.data.toList.drop (headOf t).2) <;> simp
        case round =>
          obtain ⟨k, pt, ds, bh, rfl, rfl, hk, hdl, hbk, HSC, HDG, hown, hw0, hw1, hB⟩ := hrel
          obtain ⟨al, cl, rfl⟩ := own_slice' hown
          have r0 : wr.cell? ⟨w.heap.size, 0, none⟩ = some (.int .i64 0) := hw0.reads 0
          have r1 : wr.cell? ⟨w.heap.size, 1, none⟩ = some (.int .i64 0) := hw0.reads 1
          have y0 := hw0.thawed 0
          have y1 := hw0.thawed 1
          have c2 : wr.cell? ⟨w.heap.size + 1, 2, none⟩ = some (.int .i64 bh) := hw1.reads 2
          have f2 := hw1.thawed 2
          have l0 := hw0.lt
          have l1 := hw1.lt
          have HV := Lib.hid (And.intro hown (And.intro hw0 (And.intro hw1 hB)))
          clear hown hw0 hw1 hB
          by_cases hlt : k < t.size
          · have hlt' : (k : Int) < t.size := by omega
            have hb255 : (t[k].toNat : Int) ≤ 255 := by have := t[k].toNat_lt; omega
            have hsc' := HSC.out
            rw [drop_cons t k hlt] at hsc'
            clear HSC
            by_cases hpt : t[k] = 46 ∧ pt = false
            · obtain ⟨hc, rfl⟩ := hpt
              have hs2 : Hid (R = (scanL true (t.data.toList.drop (k + 1))).map (fun x => (ds ++ x.1, bh + x.2))) := by rw [hc, scan_pt] at hsc'; exact hsc'
              have hb : ((t[k].toNat : Int) == 46) = true := by rw [beq_iff_eq, hc]; rfl
              clear hsc' hc
              go_wp2_with fail
              exact ⟨⟨k + 1, true, ds, bh, by go_num, rfl, by omega, by omega, by omega, hs2, HDG, HV.out⟩, by simp [intOf]; omega⟩
            · by_cases hd : (t[k].toNat : Int) < 48 ∨ 57 < (t[k].toNat : Int)
              · have hn : Hid (R = none) := by rw [scan_no hd hpt] at hsc'; exact hsc'
                clear hsc'
                have hfin : Below w.heap.size w ((wr.setCell ⟨w.heap.size, 0, none⟩ (.int .i64 0)).setCell ⟨w.heap.size, 1, none⟩ (.int .i64 0)) := (HV.out.2.2.2.setCell (p := ⟨w.heap.size, 0, none⟩) (Nat.le_refl _) _).setCell (p := ⟨w.heap.size, 1, none⟩) (Nat.le_refl _) _
                have HF := Lib.hid hfin
                clear hfin
                by_cases hc : t[k] = 46
                · obtain rfl : pt = true := by cases pt with | true => rfl | false => exact absurd ⟨hc, rfl⟩ hpt
                  have hb : ((t[k].toNat : Int) == 46) = true := by rw [beq_iff_eq, hc]; rfl
                  have hl48 : (t[k].toNat : Int) < 48 := by rw [hc]; decide
                  clear hc hpt hd
                  go_wp2_with fail
                  exact bodyPost_ret (v := .tuple #[.agg #[.int .i64 0, .int .i64 0], .int .i64 4]) (by simp [results, Tryz.results19, go_sem, r0, r1]) rfl (ans_bad (.inl hn.out) HF.out)
                · have hb : ((t[k].toNat : Int) == 46) = false := by
                    rw [beq_eq_false_iff_ne]; intro e; exact hc (UInt8.toNat_inj.1 (by show t[k].toNat = 46; omega))
                  clear hc hpt
                  rcases hd with hd | hd
                  · go_wp2_with fail
                    exact bodyPost_ret (v := .tuple #[.agg #[.int .i64 0, .int .i64 0], .int .i64 4]) (by simp [results, Tryz.results19, go_sem, r0, r1]) rfl (ans_bad (.inl hn.out) HF.out)
                  · have hd48 : ¬ (t[k].toNat : Int) < 48 := by omega
                    go_wp2_with fail
                    exact bodyPost_ret (v := .tuple #[.agg #[.int .i64 0, .int .i64 0], .int .i64 4]) (by simp [results, Tryz.results19, go_sem, r0, r1]) rfl (ans_bad (.inl hn.out) HF.out)
              · have hd1 : 48 ≤ (t[k].toNat : Int) := by omega
                have hd2 : (t[k].toNat : Int) ≤ 57 := by omega
                have hb : ((t[k].toNat : Int) == 46) = false := by rw [beq_eq_false_iff_ne]; omega
                rw [scan_dig hd1 hd2] at hsc'
                have HS := Lib.hid hsc'
                have HD2 : Hid (Digs (ds ++ [(t[k].toNat : Int) - 48])) := Lib.hid (fun d hd => by
                  rcases List.mem_append.1 hd with e | e
                  · exact HDG.out d e
                  · obtain rfl := List.mem_singleton.1 e
                    omega)
                clear hsc' hpt hd
                cases pt
                all_goals
                  go_wp2_with (at_builtin; refine wpList_append_own _ rfl _ _ 61 rfl (w.heap.size + 2) 3 i0 (.int .i64 0) 1 8 Tryz.underlying61 hi hz0 hz1 hz2 rfl (by decide) _ _ _ rfl (HV.out.1.alloc _) ⟨wr.heap.size, 0, none⟩ 1 1 [.int .i64 ((t[k].toNat : Int) - 48)] rfl rfl (World.news_of_block (cs := #[.int .i64 ((t[k].toNat : Int) - 48)]) (t := 3) (fr := (0, 0)) (heap_alloc_new wr _)) ?c2 ?c3 ?c4 ?c5 ?_)
                  case c2 => simp [Value.oneCell']
                  case c3 => unfold maxLen; omega
                  case c4 => omega
                  case c5 => first | omega | (simp; omega)
                  intro v' w3 hown' hgrow _
                  have hne0 : ∀ j, (Value.slice al ds.length cl).ownBlock = some j → w.heap.size + 2 ≤ j := fun j e => (own_lt HV.out.1 e).1
                  have hk0 : Whole w3 w.heap.size 25 #[.int .i64 0, .int .i64 0] := (HV.out.2.1.old _).kept hgrow (fun e => by have := hne0 _ e.symm; omega)
                  have hk1 : Whole w3 (w.heap.size + 1) 64 #[.bool neg, .slice none 0 0, .int .i64 bh] := (HV.out.2.2.1.old _).kept hgrow (fun e => by have := hne0 _ e.symm; omega)
                  have hk2 : Below w.heap.size w w3 := (HV.out.2.2.2.alloc HV.out.2.2.2.size _).grown hgrow (by have := HV.out.2.2.2.size; simp; omega) (fun j e => by have := hne0 j e; omega)
                  have hown2 : w3.ownsRow (w.heap.size + 2) 3 1 v' (ds ++ [(t[k].toNat : Int) - 48]).length ((ds ++ [(t[k].toNat : Int) - 48]).map (Value.int .i64)) := by
                    rw [List.length_append, List.map_append]
                    exact hown'
                  have c2' : w3.cell? ⟨w.heap.size + 1, 2, none⟩ = some (.int .i64 bh) := hk1.reads 2
                  have f2' := hk1.thawed 2
                  have l1' := hk1.lt
                  obtain ⟨a5, c5, rfl⟩ := own_slice' hown'
                  have H3 := Lib.hid (And.intro hown2 (And.intro hk0 (And.intro hk1 hk2)))
                  clear hown' hgrow hne0 hk0 hk1 hk2 hown2
                · have hs' : Hid (R = (scanL false (t.data.toList.drop (k + 1))).map (fun x => ((ds ++ [(t[k].toNat : Int) - 48]) ++ x.1, bh + x.2))) := by
                    show _ = _
                    rw [HS.out]
                    cases scanL false (t.data.toList.drop (k + 1)) <;> simp
                  go_wp2_with fail
                  go_roundw
                  case rel => exact ⟨k + 1, false, ds ++ [(t[k].toNat : Int) - 48], bh, by go_num, rfl, by omega, by simp; omega, by omega, hs', HD2, H3.out⟩
                  case measure => simp [intOf]; omega
                · have hs' : Hid (R = (scanL true (t.data.toList.drop (k + 1))).map (fun x => ((ds ++ [(t[k].toNat : Int) - 48]) ++ x.1, bh + 1 + x.2))) := by
                    show _ = _
                    rw [HS.out]
                    cases scanL true (t.data.toList.drop (k + 1)) <;> simp <;> omega
                  have H4 := Lib.hid (And.intro (ownsRow_setCell_below H3.out.1 (a := ⟨w.heap.size + 1, 2, none⟩) (by simp) (.int .i64 ((bh : Int) + 1))) (And.intro (H3.out.2.1.away (p := ⟨w.heap.size + 1, 2, none⟩) (by simp) (.int .i64 ((bh : Int) + 1))) (And.intro (H3.out.2.2.1.set 2 (.int .i64 ((bh : Int) + 1))) (H3.out.2.2.2.setCell (p := ⟨w.heap.size + 1, 2, none⟩) (by simp) (.int .i64 ((bh : Int) + 1))))))
                  go_wp2_with fail
                  go_roundw
                  case rel => exact ⟨k + 1, true, ds ++ [(t[k].toNat : Int) - 48], bh + 1, by go_num, rfl, by omega, by simp; omega, by omega, hs', HD2, H4.out⟩
                  case measure => simp [intOf]; omega
          · obtain rfl : k = t.size := by omega
            have hRR : Hid (R = some (ds, bh)) := by
              show _ = _
              rw [HSC.out, List.drop_of_length_le (by simp)]
              simp [scanL]
            have hfin : Below w.heap.size w ((wr.setCell ⟨w.heap.size, 0, none⟩ (.int .i64 0)).setCell ⟨w.heap.size, 1, none⟩ (.int .i64 0)) := (HV.out.2.2.2.setCell (p := ⟨w.heap.size, 0, none⟩) (Nat.le_refl _) _).setCell (p := ⟨w.heap.size, 1, none⟩) (Nat.le_refl _) _
            have HF := Lib.hid hfin
            clear hfin HSC
            by_cases hz : ds.length = 0
            · have hb0 : ((ds.length : Int) == 0) = true := by rw [beq_iff_eq]; omega
              have hds : ds = [] := List.eq_nil_of_length_eq_zero hz
              have HDS := Lib.hid hds
              clear hz hds
              go_wp2_with fail
              exact bodyPost_ret (v := .tuple #[.agg #[.int .i64 0, .int .i64 0], .int .i64 4]) (by simp [results, Tryz.results19, go_sem, r0, r1]) rfl (ans_bad (.inr (.inl ⟨bh, by rw [hRR.out, HDS.out]⟩)) HF.out)
            have hb0 : ((ds.length : Int) == 0) = false := by rw [beq_eq_false_iff_ne]; omega
            by_cases h40 : 40 < t.size
            · have hb1 : decide ((40 : Int) < (t.size : Int)) = true := by rw [decide_eq_true_iff]; omega
              go_wp2_with fail
              exact bodyPost_ret (v := .tuple #[.agg #[.int .i64 0, .int .i64 0], .int .i64 4]) (by simp [results, Tryz.results19, go_sem, r0, r1]) rfl (ans_bad (.inr (.inr h40)) HF.out)
            have hb1 : decide ((40 : Int) < (t.size : Int)) = false := by rw [decide_eq_false_iff_not]; omega
            have hw1i : Whole wr (w.heap.size + 1) 64 #[.bool neg, .slice none 0 0, .int .i64 bh] := HV.out.2.2.1
            have HW1 := Lib.hid hw1i
            clear HF hw1i
            obtain ⟨W3, rfl⟩ : ∃ W3 : World, W3 = wr := ⟨_, rfl⟩
            go_wp2_with fail
            go_loopw [8] (fun z ws => ∃ (m : Nat) (v : Value), m ≤ ds.length ∧ z = .int .i64 ((m : Int) - 1) ∧ ws.ownsRow W3.heap.size 3 1 v (ds.length - m) ((ds.drop m).reverse.map (Value.int .i64)) ∧ Whole ws (w.heap.size + 1) 64 #[.bool neg, v, .int .i64 bh] ∧ Fr (fun k => k = w.heap.size + 1) W3 ws) (fun z _ => (intOf z + 1).toNat)
            case atStart => exact ⟨ds.length, .slice none 0 0, Nat.le_refl _, rfl, by rw [Nat.sub_self, List.drop_length]; exact World.ownsRow_nil _ _ _ _, HW1.out, Fr.refl _ _⟩
            case round =>
              obtain ⟨m, v, hm, rfl, hown, hw1, hf⟩ := hrel
              obtain ⟨av, cv, rfl⟩ := own_slice' hown
              have hsz := hf.size
              have q1 : wr.cell? ⟨w.heap.size + 1, 1, none⟩ = some (.slice av (ds.length - m) cv) := hw1.reads 1
              have qf := hw1.thawed 1
              have ql := hw1.lt
              have HX := Lib.hid (And.intro hown (And.intro hw1 hf))
              clear hown hw1 hf
              by_cases hm0 : 0 < m
              · obtain ⟨m, rfl⟩ : ∃ m', m = m' + 1 := ⟨m - 1, by omega⟩
                obtain ⟨d, hd⟩ : ∃ d, ds[m]? = some d := ⟨_, List.getElem?_eq_getElem (by omega)⟩
                obtain ⟨gl, rfl, hgl1, hgl2, hcell⟩ := own_at HV.out.1 hd
                have hcw : wr.cell? ⟨gl, m, none⟩ = some (.int .i64 d) := (HX.out.2.2.cell' (p := ⟨gl, m, none⟩) (by show gl ≠ _; omega) hgl2).trans hcell
                have lgl : gl < wr.heap.size := by omega
                have hrev : (ds.drop m).reverse = (ds.drop (m + 1)).reverse ++ [d] := by
                  rw [List.drop_eq_getElem_cons (by omega), List.reverse_cons]
                  congr 2
                  rw [List.getElem?_eq_getElem (by omega)] at hd
                  exact Option.some.inj hd
                have HREV := Lib.hid hrev
                clear hd hcell hrev
                rw [show ((m + 1 : Nat) : Int) - 1 = m by omega]
                have p0 : (0 : Int) ≤ (m : Int) := by omega
                have p1 : (m : Int) < (ds.length : Int) := by omega
                go_wp2_with fail
                go_region_law ((refine step_append_lies _ (by rfl) _ _ _ (by rfl) W3.heap.size 3 i0 (.int .i64 0) 1 8 Tryz.underlying61 hi hz0 hz1 hz2 rfl (by omega) (.slice av (ds.length - (m + 1)) cv) (ds.length - (m + 1)) ((ds.drop (m + 1)).reverse.map (Value.int .i64)) (by rfl) ((HX.out.1.alloc _).drew) ⟨wr.heap.size, 0, none⟩ 1 1 [.int .i64 d] (by rfl) (by rfl) (World.news_of_block (cs := #[.int .i64 d]) (t := 3) (fr := (0, 0)) (heap_alloc_new wr _)) (by simp [Value.oneCell']) (by omega) (by unfold maxLen; omega) (by omega) (by simp; omega) (wr.heap.size + 1) (by simp) ?_; intro g cap w1 hown1 hgrow hat hlt; have hx := rp_step HX.out.1 HX.out.2.1 HX.out.2.2 (by omega) HREV.out (by omega) hgrow hown1; have d1 : w1.cell? ⟨w.heap.size + 1, 1, none⟩ = some (.slice av (ds.length - (m + 1)) cv) := hx.1.reads 1; have e1 := hx.1.thawed 1; have lB1 := hx.1.lt; have HG := Lib.hid hx.2; clear hx hown1 hgrow hat hlt))
                all_goals
                  go_wp2_with fail
                  go_roundw
                  case rel => exact ⟨m, _, by omega, rfl, HG.out⟩
                  case measure => simp [intOf]
              · obtain rfl : m = 0 := by omega
                have hown2 : wr.ownsRow W3.heap.size 3 1 (.slice av (ds.length - 0) cv) ds.reverse.length (ds.reverse.map (Value.int .i64)) := by
                  have := HX.out.1
                  simpa using this
                have hrow := own_row hown2
                have hdr : Digs ds.reverse := fun d hd => HDG.out d (List.mem_reverse.1 hd)
                have q0 : wr.cell? ⟨w.heap.size + 1, 0, none⟩ = some (.bool neg) := HX.out.2.1.reads 0
                have q2 : wr.cell? ⟨w.heap.size + 1, 2, none⟩ = some (.int .i64 bh) := HX.out.2.1.reads 2
                have hw03 := HV.out.2.1.frame HX.out.2.2 (show ¬ w.heap.size = w.heap.size + 1 by omega)
                have hb3 : Below w.heap.size w wr := HV.out.2.2.2.trans (HX.out.2.2.below (by omega) (fun j hj e => by omega))
                have htold := told_any neg (.slice av (ds.length - 0) cv) ds.reverse bh (if neg = true then -(num ds.reverse : Int) else (num ds.reverse : Int)) wr hrow hdr (by simp; omega) (by omega) rfl
                have HT := Lib.hid htold
                have HY := Lib.hid (And.intro hw03 hb3)
                clear hown2 hrow hdr htold hw03 hb3 HW1
                rw [show ((0 : Nat) : Int) - 1 = -1 from rfl]
                go_wp2_with fail
                refine HT.out.mono ?_
                rintro e w4 ⟨M, S, E, rfl, hden, hb4⟩
                have hw04 := HY.out.1.here hb4
                have s0 : w4.cell? ⟨w.heap.size, 0, none⟩ = some (.int .i64 0) := hw04.reads 0
                have s1 : w4.cell? ⟨w.heap.size, 1, none⟩ = some (.int .i64 0) := hw04.reads 1
                have x0 := hw04.thawed 0
                have x1 := hw04.thawed 1
                have l4 := hw04.lt
                have hfin : Below w.heap.size w ((w4.setCell ⟨w.heap.size, 0, none⟩ (.int .i64 M)).setCell ⟨w.heap.size, 1, none⟩ (.int .i64 S)) := ((HY.out.2.trans (hb4.mono HY.out.2.size)).setCell (p := ⟨w.heap.size, 0, none⟩) (Nat.le_refl _) _).setCell (p := ⟨w.heap.size, 1, none⟩) (Nat.le_refl _) _
                have HF := Lib.hid (And.intro hden hfin)
                clear hden hb4 hw04 hfin
                go_wp2_with fail
                refine bodyPost_ret (v := .tuple #[.agg #[.int .i64 M, .int .i64 S], .int .i64 E]) (by simp [results, Tryz.results19, go_sem, s0, s1]) rfl ⟨fun h => ?_, fun ds' b' h1 h2 h3 => ?_⟩
                · rw [hRR.out] at h
                  rcases h with h | ⟨b', h⟩ | h
                  · cases h
                  · injection h with h; injection h with h _; subst h; exact absurd rfl hz
                  · exact absurd h h40
                · rw [hRR.out] at h1
                  injection h1 with h1
                  injection h1 with h1 h4
                  subst h1
                  subst h4
                  exact ⟨M, S, E, rfl, HF.out.1, HF.out.2⟩
  · have hh : headOf t = (false, 0) := by unfold headOf; rw [dif_neg h0]
    have hte : t.toList.isEmpty = true := by
      rw [List.isEmpty_iff, Lib.toList_data]
      apply List.eq_nil_of_length_eq_zero
      have : t.data.toList.length = t.size := by rw [Array.length_toList]; rfl
      omega
    have HC := Lib.hid (And.intro HW.out.1 (And.intro (show Whole _ _ _ #[.bool (headOf t).1, .slice none 0 0, .int .i64 0] by rw [hh]; exact HW.out.2.1) HW.out.2.2))
    have HI : Hid ((headOf t).2 = 0) := Lib.hid (by rw [hh])
    clear hh
    go_wp2_with fail
    clear l0 l1 n0 z0 HW
    generalize (headOf t).1 = neg at *
    go_loopw [5, 6, 7] (fun i l p wr => ∃ (k : Nat) (pt : Bool) (ds : List Int) (bh : Nat), i = .int .i64 k ∧ p = .bool pt ∧ k ≤ t.size ∧ ds.length ≤ k ∧ bh ≤ k ∧ Hid (R = (scanL pt (t.data.toList.drop k)).map (fun x => (ds ++ x.1, bh + x.2))) ∧ Hid (Digs ds) ∧
      wr.ownsRow (w.heap.size + 2) 3 1 l ds.length (ds.map (Value.int .i64)) ∧ Whole wr w.heap.size 25 #[.int .i64 0, .int .i64 0] ∧ Whole wr (w.heap.size + 1) 64 #[.bool neg, .slice none 0 0, .int .i64 bh] ∧ Below w.heap.size w wr) (fun i _ _ _ => t.size - (intOf i).toNat)
    case atStart =>
      refine ⟨(headOf t).2, false, [], 0, by rw [HI.out]; rfl, rfl, hle, Nat.zero_le _, Nat.zero_le _, ?_, Lib.hid (fun d h => by cases h), World.ownsRow_nil _ _ _ _, HC.out⟩
      refine Lib.hid ?_
      rw [HR.out]
      cases scanL false (t.data.toList.drop (headOf t).2) <;> simp
    case round =>
      obtain ⟨k, pt, ds, bh, rfl, rfl, hk, hdl, hbk, HSC, HDG, hown, hw0, hw1, hB⟩ := hrel
      obtain ⟨al, cl, rfl⟩ := own_slice' hown
      have r0 : wr.cell? ⟨w.heap.size, 0, none⟩ = some (.int .i64 0) := hw0.reads 0
      have r1 : wr.cell? ⟨w.heap.size, 1, none⟩ = some (.int .i64 0) := hw0.reads 1
      have y0 := hw0.thawed 0
      have y1 := hw0.thawed 1
      have c2 : wr.cell? ⟨w.heap.size + 1, 2, none⟩ = some (.int .i64 bh) := hw1.reads 2
      have f2 := hw1.thawed 2
      have l0 := hw0.lt
      have l1 := hw1.lt
      have HV := Lib.hid (And.intro hown (And.intro hw0 (And.intro hw1 hB)))
      clear hown hw0 hw1 hB
      by_cases hlt : k < t.size
      · exact absurd hlt (by omega)
      · obtain rfl : k = t.size := by omega
        have hRR : Hid (R = some (ds, bh)) := by
          show _ = _
          rw [HSC.out, List.drop_of_length_le (by simp)]
          simp [scanL]
        have hfin : Below w.heap.size w ((wr.setCell ⟨w.heap.size, 0, none⟩ (.int .i64 0)).setCell ⟨w.heap.size, 1, none⟩ (.int .i64 0)) := (HV.out.2.2.2.setCell (p := ⟨w.heap.size, 0, none⟩) (Nat.le_refl _) _).setCell (p := ⟨w.heap.size, 1, none⟩) (Nat.le_refl _) _
        have HF := Lib.hid hfin
        clear hfin HSC
        have hz : ds.length = 0 := by omega
        have hb0 : ((ds.length : Int) == 0) = true := by rw [beq_iff_eq]; omega
        have hds : ds = [] := List.eq_nil_of_length_eq_zero hz
        have HDS := Lib.hid hds
        clear hz hds
        go_wp2_with fail
        exact bodyPost_ret (v := .tuple #[.agg #[.int .i64 0, .int .i64 0], .int .i64 4]) (by simp [results, Tryz.results19, go_sem, r0, r1]) rfl (ans_bad (.inr (.inl ⟨bh, by rw [hRR.out, HDS.out]⟩)) HF.out)
end Go.Proofs.YtdiaijdobglaaaaGreatDoor
