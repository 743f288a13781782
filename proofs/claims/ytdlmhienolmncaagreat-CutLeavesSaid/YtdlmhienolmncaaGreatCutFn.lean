/- cut: fonts that are cut tell the same: pure. -/
import Derived.Test.YtdlmhienolmncaaGreatCutU
import Derived.Test.YtdlmhienolmncaaGreatFontS
import Derived.Test.YtdlmhienolmncaaGreatCutJ
import Derived.Laws.CopyRow
namespace Go.Proofs.YtdlmhienolmncaaGreat
open Go.RowKit Dec

abbrev Key := ByteArray × Bool × Int × List Gl
def keyN (f : Nm) : Key := (f.name, f.wd, f.ot, f.gs)
def keyCut (l : List Mk) (f : Nm) : Key := (f.name, f.wd, 0, cutF l f)
/-- What the fonts that are cut are. -/
def CutIs (l : List Mk) (fs a : List Nm) : Prop := a.map keyN = (fs.filter (useB l)).map (keyCut l)
theorem font_key (fs : List Nm) (name : ByteArray) : (fontOf fs name).map keyN = (fs.map keyN).find? (fun k => decide (k.1 = name)) := by
  unfold fontOf
  rw [List.find?_map]
  rfl
theorem used_ne {l : List Mk} {x : Mk} (hx : x ∈ l) (hg : glyphB x = true) : x.code ∈ usedL l x.name := by
  unfold usedL
  refine List.mem_map.2 ⟨x, List.mem_filter.2 ⟨hx, ?_⟩, rfl⟩
  unfold usedB
  unfold glyphB at hg
  rw [hg, decide_eq_true rfl]
  rfl
theorem font_cut {l : List Mk} {fs a : List Nm} (h : CutIs l fs a) {x : Mk} (hx : x ∈ l) (hg : glyphB x = true) : (fontOf a x.name).map keyN = (fontOf fs x.name).map (keyCut l) := by
  rw [font_key, h, List.find?_map, List.find?_filter]
  unfold fontOf
  congr 2
  funext f
  show decide (useB l f = true ∧ decide (f.name = x.name) = true) = _
  by_cases e : f.name = x.name
  · rw [decide_eq_true e]
    refine decide_eq_true ⟨?_, rfl⟩
    unfold useB
    rw [e]
    have := used_ne hx hg
    cases hu : usedL l x.name with
    | nil => rw [hu] at this; cases this
    | cons => rfl
  · rw [decide_eq_false e]
    exact decide_eq_false fun h => by cases h.2
theorem find_cut_text {wd : Bool} {ot : Int} {gs : List Gl} {keep : List Int} {x : Int} (hx : x ∈ keep) : (findG 0 (cutG wd ot gs keep) x).text = (findG ot gs x).text := by
  have h := hit_cut_in (wd := wd) (ot := ot) (gs := gs) hx
  unfold pick at h
  by_cases hp : ((hitG gs x).isSome || (decide (0 < ot) && codeB wd x)) = true
  · rw [if_pos hp] at h
    conv => lhs; unfold findG
    rw [h]
    rfl
  · rw [if_neg hp] at h
    have hn : hitG gs x = none := by
      cases hh : hitG gs x with
      | none => rfl
      | some g => rw [hh] at hp; simp at hp
    unfold findG
    rw [h, hn]
    rfl
theorem raw_cut {l : List Mk} {fs a : List Nm} (h : CutIs l fs a) {x : Mk} (hx : x ∈ l) (hg : glyphB x = true) : rawOf a x = rawOf fs x := by
  have hf := font_cut h hx hg
  have hu := used_ne hx hg
  unfold rawOf
  cases h1 : fontOf fs x.name with
  | none =>
    rw [h1] at hf
    cases h2 : fontOf a x.name with
    | none => rfl
    | some f' => rw [h2] at hf; cases hf
  | some f =>
    rw [h1] at hf
    cases h2 : fontOf a x.name with
    | none => rw [h2] at hf; cases hf
    | some f' =>
      rw [h2] at hf
      injection hf with hf
      have hn : f.name = x.name := (fontOf_mem h1).2
      unfold keyN keyCut cutF at hf
      injection hf with e1 hf
      injection hf with e2 hf
      injection hf with e3 e4
      show (findG f'.ot f'.gs x.code).text = (findG f.ot f.gs x.code).text
      rw [e3, e4, hn]
      exact find_cut_text hu
theorem all_congr {α : Type} {p q : α → Bool} {l : List α} (h : ∀ x ∈ l, p x = q x) : l.all p = l.all q := by
  induction l with
  | nil => rfl
  | cons y l ih =>
    rw [List.all_cons, List.all_cons, h y (by simp), ih (fun x hx => h x (by simp [hx]))]
theorem tx_cut {l : List Mk} {fs a : List Nm} (h : CutIs l fs a) : l.all (txB a) = l.all (txB fs) := by
  refine all_congr fun x hx => ?_
  unfold txB
  cases hg : glyphB x with
  | false => rfl
  | true => rw [raw_cut h hx hg]
theorem pcs_cut {l : List Mk} {fs a : List Nm} (h : CutIs l fs a) : pcs a l = pcs fs l := by
  unfold pcs txOf
  congr 1
  refine List.map_congr_left fun x hx => ?_
  obtain ⟨h1, h2⟩ := List.mem_filter.1 hx
  rw [raw_cut h h1 h2]
theorem nms_iff (fs : List Nm) : nmsB fs = true ↔ fs.length ≤ 64 ∧ (fs.map (·.name)).Nodup ∧ ∀ f ∈ fs, nmB f = true := by
  unfold nmsB
  rw [Bool.and_eq_true, decide_eq_true_iff, List.all_eq_true]
  refine and_congr_right fun _ => ⟨fun h => ⟨?_, fun f hf => ?_⟩, fun ⟨hd, hb⟩ i hi => ?_⟩
  · rw [List.Nodup, List.pairwise_map, List.pairwise_iff_getElem]
    intro i j hi hj hij e
    have h1 := h j (List.mem_range.2 hj)
    rw [nmsAt_is (List.getElem?_eq_getElem hj), Bool.and_eq_true, Bool.not_eq_true'] at h1
    have h2 := h1.1
    have h3 : (fontOf (fs.take j) (fs[j]).name).isSome = true := by
      unfold fontOf
      rw [List.find?_isSome]
      exact ⟨fs[i], List.mem_take_iff_getElem.2 ⟨i, by omega, rfl⟩, decide_eq_true e⟩
    rw [h3] at h2
    cases h2
  · obtain ⟨i, hi, rfl⟩ := List.mem_iff_getElem.1 hf
    have h1 := h i (List.mem_range.2 hi)
    rw [nmsAt_is (List.getElem?_eq_getElem hi), Bool.and_eq_true] at h1
    exact h1.2
  · have hi := List.mem_range.1 hi
    rw [nmsAt_is (List.getElem?_eq_getElem hi), hb _ (List.getElem_mem hi), Bool.and_true, Bool.not_eq_true']
    rw [List.Nodup, List.pairwise_map, List.pairwise_iff_getElem] at hd
    cases hf : fontOf (fs.take i) (fs[i]).name with
    | none => rfl
    | some f =>
      obtain ⟨h1, h2⟩ := fontOf_mem hf
      obtain ⟨j, hj, rfl⟩ := List.mem_iff_getElem.1 h1
      rw [List.length_take] at hj
      rw [List.getElem_take] at h2
      exact absurd h2 (hd j i (by omega) hi (by omega))
theorem known_cut {l : List Mk} {fs a : List Nm} (h : CutIs l fs a) (hk : knownB fs l = true) (hl : l.length ≤ 4096) : knownB a l = true := by
  unfold knownB at hk ⊢
  rw [Bool.and_eq_true] at hk ⊢
  obtain ⟨h1, h2, h3⟩ := (nms_iff fs).1 hk.1
  have hlen : a.length = (fs.filter (useB l)).length := by have := congrArg List.length h; simpa using this
  have hnm : a.map (·.name) = (fs.filter (useB l)).map (·.name) := by
    have := congrArg (List.map Prod.fst) h
    rw [List.map_map, List.map_map] at this
    exact this
  refine ⟨(nms_iff a).2 ⟨?_, ?_, fun f hf => ?_⟩, ?_⟩
  · rw [hlen]
    exact Nat.le_trans (List.length_filter_le _ _) h1
  · rw [hnm]
    exact List.Sublist.nodup (List.Sublist.map _ List.filter_sublist) h2
  · have hm : keyN f ∈ (fs.filter (useB l)).map (keyCut l) := by rw [← h]; exact List.mem_map.2 ⟨f, hf, rfl⟩
    obtain ⟨g, hg, e⟩ := List.mem_map.1 hm
    have hc := chk_cut (keep := usedL l g.name) (h3 g (List.mem_filter.1 hg).1) (Nat.le_trans (usedL_len _ _) hl)
    unfold keyN keyCut cutF at e
    injection e with e1 e
    injection e with e2 e
    injection e with e3 e4
    unfold nmB
    rw [← e2, ← e3, ← e4]
    exact hc
  · rw [List.all_eq_true]
    intro x hx
    have h5 := List.all_eq_true.1 hk.2 x hx
    unfold hasB at h5 ⊢
    cases hg : glyphB x with
    | false => rfl
    | true =>
      rw [hg] at h5
      have hf := font_cut h hx hg
      have e : ((fontOf a x.name).map keyN).isSome = ((fontOf fs x.name).map (keyCut l)).isSome := by rw [hf]
      rw [Option.isSome_map, Option.isSome_map] at e
      rw [e]
      exact h5
theorem read_cut {l : List Mk} {fs a : List Nm} (h : CutIs l fs a) (hk : knownB fs l = true) (hl : l.length ≤ 4096) : readE a l = readE fs l := by
  unfold readE
  rw [known_cut h hk hl, hk, tx_cut h]
theorem text_cut {l : List Mk} {fs a : List Nm} (h : CutIs l fs a) (hk : knownB fs l = true) (hl : l.length ≤ 4096) : textR a l = textR fs l := by
  unfold textR
  rw [read_cut h hk hl, pcs_cut h]
theorem finds_cut {l : List Mk} {fs a : List Nm} (h : CutIs l fs a) (hk : knownB fs l = true) (hl : l.length ≤ 4096) (t : ByteArray) : findL a l t = findL fs l t ∧ findE a l t = findE fs l t := by
  unfold findL findE findO
  rw [read_cut h hk hl, pcs_cut h]
  exact ⟨rfl, rfl⟩
theorem fonts_again {l : List Mk} {fs a b : List Nm} (h : CutIs l fs a) (h2 : CutIs l a b) : b.map keyN = a.map keyN := by
  have hm : ∀ f ∈ a, ∃ g ∈ fs, useB l g = true ∧ f.name = g.name ∧ f.wd = g.wd ∧ f.ot = 0 ∧ f.gs = cutF l g := fun f hf => by
    have hm : keyN f ∈ (fs.filter (useB l)).map (keyCut l) := by rw [← h]; exact List.mem_map.2 ⟨f, hf, rfl⟩
    obtain ⟨g, hg, e⟩ := List.mem_map.1 hm
    unfold keyN keyCut at e
    injection e with e1 e
    injection e with e2 e
    injection e with e3 e4
    exact ⟨g, (List.mem_filter.1 hg).1, (List.mem_filter.1 hg).2, e1.symm, e2.symm, e3.symm, e4.symm⟩
  have hs : a.filter (useB l) = a := List.filter_eq_self.2 fun f hf => by
    obtain ⟨g, -, hu, hn, -⟩ := hm f hf
    unfold useB at hu ⊢
    rw [hn]
    exact hu
  rw [h2, hs]
  refine List.map_congr_left fun f hf => ?_
  obtain ⟨g, -, -, hn, hw, ho, hg⟩ := hm f hf
  unfold keyCut keyN cutF
  unfold cutF at hg
  rw [ho, hg, hn, hw, cut_twice]
end Go.Proofs.YtdlmhienolmncaaGreat
/- cut: keep, of fonts. -/
namespace Go.Proofs.YtdlmhienolmncaaGreat
open Go.RowKit Dec

theorem infoNm : (Tryz.prog.info? 66).map (fun i => (i.zero, i.size, i.bytes)) = some (some (.agg #[.string ⟨#[]⟩, .bool false, .slice none 0 0, .int .i64 0]), 4, 56) := by kernel_rfl
theorem info_nm : ∃ i, Tryz.prog.info? 66 = some i ∧ i.zero = some (.agg #[.string ⟨#[]⟩, .bool false, .slice none 0 0, .int .i64 0]) ∧ i.size = 4 ∧ i.bytes = 56 := by
  have h := infoNm
  cases hi : Tryz.prog.info? 66 with
  | none => rw [hi] at h; cases h
  | some i =>
    rw [hi] at h
    injection h with h
    injection h with h1 h2
    injection h2 with h2 h3
    exact ⟨i, rfl, h1, h2, h3⟩
/-- The cells of marks, one behind the other. -/
def rowNm (l : List Nm) : List Value := (l.map nmV).flatten
theorem rowNm_snoc (l : List Nm) (x : Nm) : rowNm l ++ nmV x = rowNm (l ++ [x]) := by unfold rowNm; rw [List.map_append]; exact flat_snoc _ _
theorem nmV_all (l : List Nm) : ∀ cs ∈ l.map nmV, cs.length = 4 := fun cs h => by
  obtain ⟨x, -, rfl⟩ := List.mem_map.1 h
  rfl
theorem NmsAt.of_own {w : World} {base : Nat} {v : Value} {n : Nat} {l : List Nm} (h : w.ownsRow base 66 4 v n (rowNm l)) (hk : ∀ x ∈ l, NmOk w x) : ∃ A c, v = .slice A n c ∧ NmsAt w A n c l ∧ ∀ R o, A = some ⟨R, o, none⟩ → base ≤ R := by
  obtain ⟨A, c, e, hr, hb⟩ := RowAt.of_own (nmV_all l) (by decide) h
  exact ⟨A, c, e, ⟨hr, hk⟩, hb⟩
/-- A mark's cells as an array. -/
def nmA (x : Nm) : Array Value := (nmV x).toArray
theorem nmA_list (x : Nm) : (nmA x).toList = nmV x := rfl
theorem nmA_size (x : Nm) : (nmA x).size = 4 := rfl
theorem nmA_one (x : Nm) : (nmA x).all (·.oneCell') = true := by
  rw [Array.all_eq_true_iff_forall_mem]
  intro u hu
  have : u ∈ nmV x := by rw [← nmA_list]; exact Array.mem_toList_iff.2 hu
  unfold nmV at this
  simp only [List.mem_cons, List.not_mem_nil, or_false] at this
  rcases this with rfl | rfl | rfl | rfl <;> rfl
theorem szNm (x : Nm) : (Tryz.prog.info? 66).map (·.size) = some (nmA x).size := by
  obtain ⟨i, h, -, h2, -⟩ := info_nm
  rw [h, nmA_size]
  exact congrArg some h2
theorem own_slM2 {w : World} {base : Nat} {e : TypeId} {size : Nat} {v : Value} {n : Nat} {xs : List Value} (h : w.ownsRow base e size v n xs) : ∃ a c, v = .slice a n c := by
  obtain ⟨-, h⟩ := h
  rcases h with ⟨rfl, rfl⟩ | ⟨g, cap, cur, rfl, -⟩
  · exact ⟨none, 0, rfl⟩
  · exact ⟨_, _, rfl⟩
theorem NmsAt.getA {w : World} {A : Option Addr} {n c : Nat} {l : List Nm} (h : NmsAt w A n c l) {i : Nat} {x : Nm} (hx : l[i]? = some x) : ∃ R o, A = some ⟨R, o, none⟩ ∧ R < w.heap.size ∧ (∀ (j : Nat) (u : Value), (nmA x).toList[j]? = some u → w.cell? ⟨R, o + i * 4 + j, none⟩ = some u) ∧ NmOk w x := by
  have hi := (List.getElem?_eq_some_iff.1 hx).1
  have hl := h.len
  obtain ⟨R, o, e, hR, hk⟩ := h.row.at_ (by omega)
  exact ⟨R, o, e, hR, fun j u hu => hk i (nmV x) (by rw [List.getElem?_map, hx]; rfl) j u hu, h.ok x (List.mem_of_getElem? hx)⟩
theorem use_pos (l : List Mk) (x : Nm) : useB l x = decide (0 < (usedS l x.name).length) := by
  unfold useB usedS
  cases hu : usedL l x.name with
  | nil =>
    rw [show sdl [] = [] from sdl_self (by simp)]
    rfl
  | cons a r =>
    have hm : a ∈ sdl (a :: r) := (sdl_mem _ _).2 (by simp)
    have hp : 0 < (sdl (a :: r)).length := List.length_pos_of_mem hm
    rw [decide_eq_true (by omega)]
    rfl
set_option maxRecDepth 100000 in
set_option maxHeartbeats 4000000 in
theorem use1_any (l : List Mk) (x : Nm) (B : Nat) (A2 : Option Addr) (n2 c2 : Nat) (w : World) (h : MarksAt w A2 n2 c2 l) (hB : Whole w B 22 #[.slice A2 n2 c2]) (hn : n2 ≤ 1000000) :
    Calls Tryz.prog 31 #[.agg (nmA x), .pointer (some ⟨B, 0, none⟩)] w fun e w' => e = .returned (.bool (useB l x)) ∧ Below w.heap.size w w' := by
  show Calls Tryz.prog 31 #[.agg #[.string x.name, .bool x.wd, .slice x.s.A x.s.n x.s.c, .int .i64 x.ot], .pointer (some ⟨B, 0, none⟩)] w _
  have hb0 : Below w.heap.size w (w.alloc (.cells #[.string x.name, .bool x.wd, .slice x.s.A x.s.n x.s.c, .int .i64 x.ot] 66)) := (Below.refl w.heap.size w).alloc (Nat.le_refl _) _
  have HU := Lib.hid (used_any A2 n2 c2 l x.name _ (h.below hb0) hn)
  have HB := Lib.hid hb0
  have c0 := hB.reads 0
  have lB := hB.lt
  have hsm : (usedS l x.name).length ≤ 1000000 := Nat.le_trans (sdl_len _) (Nat.le_trans (usedL_len _ _) (by rw [h.len]; exact hn))
  have HP := Lib.hid (use_pos l x)
  clear h hB hb0
  go_enter Tryz.func31, Tryz.ntmps31
  go_wp2_with fail
  refine HU.out.mono ?_
  rintro e w1 ⟨A3, c3, rfl, -, hb⟩
  have HB1 := Lib.hid (HB.out.trans (hb.mono HB.out.size))
  clear hb
  go_wp2_with fail
  go_ret
  exact ⟨by rw [HP.out]; rfl, HB1.out⟩
set_option maxRecDepth 100000 in
set_option maxHeartbeats 8000000 in
theorem keepN_any (l : List Nm) (B : Nat) (A : Option Addr) (n c : Nat) (A2 : Option Addr) (n2 c2 : Nat) (ms : List Mk) (w : World) (hl : NmsAt w A n c l) (hn : n ≤ 1000000) (h : MarksAt w A2 n2 c2 ms) (hB : Whole w B 22 #[.slice A2 n2 c2]) (hn2 : n2 ≤ 1000000) :
    Calls Tryz.prog 30 #[.slice A n c, .func (.func 31) #[] #[.pointer (some ⟨B, 0, none⟩)]] w fun e w' => ∃ a' c', e = .returned (.slice a' (l.filter (useB ms)).length c') ∧ w'.ownsRow w.heap.size 66 4 (.slice a' (l.filter (useB ms)).length c') (l.filter (useB ms)).length (rowNm (l.filter (useB ms))) ∧ Below w.heap.size w w' := by
  have hcap := hl.row.cap
  have htop := hl.row.top
  have HL := Lib.hid hl.len
  have H1 := Lib.hid hl
  have HC := Lib.hid (fun x w' (hb : Below w.heap.size w w') => show Calls Tryz.prog 31 #[.agg (nmA x), .pointer (some ⟨B, 0, none⟩)] w' fun e w'' => e = .returned (.bool (useB ms x)) ∧ Below w'.heap.size w' w'' from use1_any ms x B A2 n2 c2 w' (h.below hb) (hB.here hb) hn2)
  clear hl h hB
  go_enter Tryz.func30, Tryz.ntmps30
  go_wp2_with fail
  go_loopw [5, 10] (fun v i wr => ∃ k : Nat, i = .int .i64 (k : Int) ∧ k ≤ n ∧ Hid (wr.ownsRow w.heap.size 66 4 v ((l.take k).filter (useB ms)).length (rowNm ((l.take k).filter (useB ms)))) ∧ Hid (Below w.heap.size w wr)) (fun _ i _ => n - (intOf i).toNat)
  case atStart => exact ⟨0, rfl, by omega, Lib.hid (World.ownsRow_nil _ _ _ _), Lib.hid (Below.refl _ _)⟩
  case round =>
    obtain ⟨k, rfl, hk, HR, HB⟩ := hrel
    obtain ⟨a0, cc, rfl⟩ := own_slM HR.out
    by_cases hlt : k < n
    · have d1 : decide ((k : Int) < (n : Int)) = true := decide_eq_true (by omega)
      obtain ⟨x, hx⟩ : ∃ x, l[k]? = some x := ⟨_, List.getElem?_eq_getElem (by rw [HL.out]; exact hlt)⟩
      obtain ⟨R, o, rfl, hR, hc, -⟩ := (H1.out.below HB.out).getA hx
      have HA := Lib.hid (show ∀ (j : Nat) (u : Value), (nmA x).toList[j]? = some u → wr.cell? ⟨R, o + k * 4 + j, none⟩ = some u from hc)
      have HS := Lib.hid (filt_step (useB ms) hx)
      obtain ⟨w1, hw1⟩ : ∃ w1, wr.alloc (.cells (nmA x) 66) = w1 := ⟨_, rfl⟩
      have hbm : Below w.heap.size w w1 := by rw [← hw1]; exact HB.out.alloc HB.out.size _
      have hW1 : Whole w1 wr.heap.size 66 (nmA x) := by rw [← hw1]; exact Whole.made _ _ _
      have HBR := Lib.hid (show Below wr.heap.size wr w1 by rw [← hw1]; exact (Below.refl _ _).alloc (Nat.le_refl _) _)
      have hs1 : w1.heap.size = wr.heap.size + 1 := by rw [← hw1]; exact World.size_alloc _ _
      have HW1 := Lib.hid hw1
      have HWW := Lib.hid hW1
      have HM := Lib.hid (HC.out x w1 hbm)
      have HBM := Lib.hid hbm
      obtain ⟨r, hr⟩ : ∃ r, useB ms x = r := ⟨_, rfl⟩
      rw [hr] at HM HS
      have hkl : ((l.take k).filter (useB ms)).length ≤ 1000000 := Nat.le_trans (List.length_filter_le _ _) (by rw [List.length_take]; omega)
      clear hc hx hr hbm hw1 hW1
      go_wp2_with (first
        | (refine wpList_load_at rfl _ _ rfl R (o + k * 4) rfl (nmA x) _ HA.out Tryz.underlying66 rfl (szNm x) ?_)
        | (refine wpList_store_let rfl _ _ _ rfl rfl _ _ (nmA x) HW1.out rfl rfl (szNm x) rfl (nmA_one x) ?_)
        | (refine wpList_load_row rfl _ _ rfl wr.heap.size rfl 66 (nmA x) (0, 0) _ HWW.out Tryz.underlying66 rfl (szNm x) ?_))
      refine HM.out.mono ?_
      rintro e w2 ⟨rfl, hb⟩
      have hW2 := HWW.out.here hb
      have hbr := HBR.out.trans (hb.mono (by omega))
      have hown2 := own_below3 HR.out hbr
      have hb2 := HBM.out.trans (hb.mono HBM.out.size)
      have hs2 := hb2.size
      have HO2 := Lib.hid (And.intro hown2 hb2)
      have HW2 := Lib.hid hW2
      clear hb hbr hown2 hb2 hW2
      cases r
      · go_wp2_with fail
        go_roundw
        case rel => exact ⟨k + 1, by go_num, by omega, Lib.hid (by rw [HS.out]; exact HO2.out.1), Lib.hid HO2.out.2⟩
        case measure => simp [intOf]; omega
      · obtain ⟨i0, hi, hz0, hz1, hz2⟩ := info_nm
        obtain ⟨w3, hw3⟩ : ∃ w3, w2.alloc (.cells (nmA x) 66) = w3 := ⟨_, rfl⟩
        have hb3 : Below w2.heap.size w2 w3 := by rw [← hw3]; exact (Below.refl _ _).alloc (Nat.le_refl _) _
        have HN3 := Lib.hid (show Whole w3 w2.heap.size 66 (nmA x) by rw [← hw3]; exact Whole.made _ _ _)
        have HO3 := Lib.hid (own_below3 HO2.out.1 hb3)
        have HB3 := Lib.hid (HO2.out.2.trans (hb3.mono HO2.out.2.size))
        have hs3 := hb3.size
        have HW3 := Lib.hid hw3
        clear hw3 hb3
        go_wp2_with (first
          | (refine wpList_load_row rfl _ _ rfl wr.heap.size rfl 66 (nmA x) (0, 0) _ HW2.out Tryz.underlying66 rfl (szNm x) ?_)
          | (refine wpList_build_one rfl 24 66 _ rfl (nmA x) i0 _ 4 rfl (nmA_size x) HW3.out Tryz.underlying24 hi hz0 hz1 (by decide) (by decide) ?_)
          | (at_builtin; refine wpList_append_own _ rfl _ _ 24 rfl w.heap.size 66 i0 (.agg #[.string ⟨#[]⟩, .bool false, .slice none 0 0, .int .i64 0]) 4 56 Tryz.underlying24 hi hz0 hz1 hz2 rfl (by decide) _ _ _ rfl HO3.out ⟨w2.heap.size, 0, none⟩ 1 1 (nmV x) rfl rfl (World.news_of_block (cs := nmA x) HN3.out) ?p1 ?p2 ?p3 ?p4 ?_))
        case p1 => exact fun u hu => Array.all_eq_true_iff_forall_mem.1 (nmA_one x) u (Array.mem_toList_iff.1 hu)
        case p2 => unfold maxLen; omega
        case p3 => omega
        case p4 => omega
        intro v' w5 hown' hgrow _
        have hb5 := HB3.out.grown hgrow (by omega) (fun j e => (own_lt HO3.out e).1)
        have hown2 : w5.ownsRow w.heap.size 66 4 v' ((l.take k).filter (useB ms) ++ [x]).length (rowNm ((l.take k).filter (useB ms) ++ [x])) := by rw [← rowNm_snoc, List.length_append]; exact hown'
        have HOB5 := Lib.hid (And.intro hown2 hb5)
        clear hown' hgrow hown2 hb5
        go_wp2_with fail
        go_roundw
        case rel => exact ⟨k + 1, by go_num, by omega, Lib.hid (by rw [HS.out]; exact HOB5.out.1), Lib.hid HOB5.out.2⟩
        case measure => simp [intOf]; omega
    · obtain rfl : k = n := by omega
      have d1 : decide ((k : Int) < (k : Int)) = false := by simp
      have HF := Lib.hid HB.out
      have hlk : l.take k = l := List.take_of_length_le (by rw [HL.out]; exact Nat.le_refl _)
      rw [hlk] at HR
      obtain ⟨A3, c3, e3⟩ := own_slM2 HR.out
      have HZ := Lib.hid (And.intro e3 HR.out)
      clear hlk e3
      rw [List.take_of_length_le (by rw [HL.out]; exact Nat.le_refl _)]
      go_wp2_with fail
      go_ret
      exact ⟨A3, c3, by rw [← HZ.out.1]; rfl, by rw [← HZ.out.1]; exact HZ.out.2, HF.out⟩
end Go.Proofs.YtdlmhienolmncaaGreat
/- font: the glyphs of a font that is cut are new. -/
namespace Go.Proofs.YtdlmhienolmncaaGreat
open Go.RowKit

theorem own_fresh {w : World} {base : Nat} {e : TypeId} {size : Nat} {a : Option Addr} {c n : Nat} {xs : List Value} (h : w.ownsRow base e size (.slice a n c) n xs) {R o : Nat} (ha : a = some ⟨R, o, none⟩) : base ≤ R := by
  subst ha
  rcases h.2 with ⟨h', h0⟩ | ⟨g, cap, cur, h', hb, hg, hnc, hcm, -⟩
  · cases h'
  · injection h' with h1 h2 h3
    injection h1 with h1
    injection h1 with h1
    omega
def CutOkF (wd : Bool) (L : List Gl) (w : World) (e : Ending) (w' : World) : Prop :=
  ∃ A n c, e = .returned (.tuple #[.agg #[.bool wd, .slice A n c, .int .i64 0], .int .i64 0]) ∧ Glyphs w' A n c L ∧ Below w.heap.size w w' ∧ ∀ R o, A = some ⟨R, o, none⟩ → w.heap.size ≤ R
set_option maxRecDepth 100000 in
set_option maxHeartbeats 8000000 in
theorem cut_okF (wd : Bool) (A : Option Addr) (n c : Nat) (ot : Int) (gs : List Gl) (A2 : Option Addr) (n2 c2 : Nat) (keep : List Int) (w : World) (h : Glyphs w A n c gs) (hk : chkB wd ot gs = true) (h2 : IntsAt w A2 n2 c2 keep) (hn : n ≤ 1000000) (hn2 : n2 ≤ 1000000) :
    Calls Tryz.prog 32 #[.agg #[.bool wd, .slice A n c, .int .i64 ot], .slice A2 n2 c2] w (CutOkF wd (cutG wd ot gs keep) w) := by
  have hF := (Whole.made w 64 #[.bool wd, .slice A n c, .int .i64 ot]).old (.cells #[.bool false, .slice none 0 0, .int .i64 0] 64)
  have hR := Whole.made (w.alloc (.cells #[.bool wd, .slice A n c, .int .i64 ot] 64)) 64 #[.bool false, .slice none 0 0, .int .i64 0]
  simp only [World.size_alloc] at hR
  have hB : Below w.heap.size w ((w.alloc (.cells #[.bool wd, .slice A n c, .int .i64 ot] 64)).alloc (.cells #[.bool false, .slice none 0 0, .int .i64 0] 64)) := by (repeat (first | with_reducible exact Below.refl _ _ | with_reducible refine Below.drew ?_ | with_reducible refine bdrewN ?_ _ | (with_reducible refine Below.setCell ?_ ?_ _; rotate_left; focus (first | exact Nat.le_refl _ | omega | (simp; omega) | (simp; done))) | (with_reducible refine Below.alloc ?_ ?_ _; rotate_left; focus (first | exact Nat.le_refl _ | omega | (simp; omega) | (simp; done))) | (with_reducible refine Below.trans ?_ (Below.mono (by assumption) ?_); rotate_left; focus (first | exact Nat.le_refl _ | omega | (simp; omega) | (simp; done)))))
  have H0 := Lib.hid (And.intro hF (And.intro hR hB))
  have HK := Lib.hid (And.intro (chk_t hk) (rise_chk hk))
  have HG := Lib.hid h
  have HI := Lib.hid h2
  obtain ⟨i0, hi, hz0, hz1, hz2⟩ := info_gl
  clear h h2 hk hF hR hB
  go_enter Tryz.func32, Tryz.ntmps32
  go_wp2_with fail
  refine (check_any wd A n c ot gs _ (HG.out.below H0.out.2.2)).mono ?_
  rw [HK.out.1]
  rintro e w1 ⟨rfl, hb⟩
  have H1 := Lib.hid (And.intro (H0.out.1.here hb) (And.intro (H0.out.2.1.here hb) (H0.out.2.2.trans (hb.mono H0.out.2.2.size))))
  have cf := (H0.out.1.here hb).reads
  have lF := (H0.out.1.here hb).lt
  clear hb H0
  go_wp2_with fail
  have lR := H1.out.2.1.lt
  have H2 := Lib.hid (And.intro (H1.out.1.old (.cells #[.bool wd, .slice none 0 0, .int .i64 0] 64)) (And.intro (H1.out.2.1.old (.cells #[.bool wd, .slice none 0 0, .int .i64 0] 64)) (And.intro (Whole.made w1 64 #[.bool wd, .slice none 0 0, .int .i64 0]) (H1.out.2.2.alloc H1.out.2.2.size (.cells #[.bool wd, .slice none 0 0, .int .i64 0] 64)))))
  clear H1 cf lF
  refine (clone_any A2 n2 c2 keep _ (HI.out.below H2.out.2.2.2) hn2).mono ?_
  rintro e w2 ⟨v, rfl, hown, hb⟩
  obtain ⟨P, hP⟩ : ∃ P, w1.heap.size = P := ⟨_, rfl⟩
  have hsz0 : (w1.alloc (.cells #[.bool wd, .slice none 0 0, .int .i64 0] 64)).heap.size = P + 1 := by simp [hP]
  rw [hsz0] at hown
  have hb' : Below (P + 1) (w1.alloc (.cells #[.bool wd, .slice none 0 0, .int .i64 0] 64)) w2 := by rw [← hsz0]; exact hb
  have H3 := Lib.hid (And.intro (H2.out.1.here hb) (And.intro (H2.out.2.1.here hb) (And.intro (by have := H2.out.2.2.1.here hb; rw [hP] at this; exact this) (H2.out.2.2.2.trans (hb.mono H2.out.2.2.2.size)))))
  have hs2 : P + 1 ≤ w2.heap.size := by have := hb.size; omega
  have HO := Lib.hid hown
  clear H2 hb hb' hown hsz0
  rw [hP]
  have lR : w.heap.size + 1 < P := by omega
  clear hP
  obtain ⟨A', c', rfl⟩ : ∃ A' c', v = .slice A' n2 c' := by
    obtain ⟨a, b, e, _⟩ := IntsAt.of_own HO.out
    exact ⟨a, b, e⟩
  go_wp2_with fail
  refine (sort_own (P + 1) n2 _ keep _ HO.out hs2 hn2).mono ?_
  rintro e w3 ⟨rfl, hown, hb⟩
  have H4 := Lib.hid (And.intro (H3.out.1.low hb (by omega)) (And.intro (H3.out.2.1.low hb (by omega)) (And.intro (H3.out.2.2.1.low hb (by omega)) (H3.out.2.2.2.trans (hb.mono (by omega))))))
  have hs3 : P + 1 ≤ w3.heap.size := Nat.le_trans hs2 hb.size
  have HO3 := Lib.hid hown
  clear H3 HO hown hb hs2
  go_wp2_with fail
  refine (compact_own (P + 1) n2 _ _ _ HO3.out hs3 hn2).mono ?_
  rintro e w4 ⟨A3, c3, rfl, hints, hb, hlow⟩
  have hst : CutSt w w4 w4.heap.size P wd A n c ot [] A3 (sdl keep).length c3 (sdl keep) :=
    ⟨H4.out.1.low hb (by omega), H4.out.2.1.low hb (by omega), ⟨.slice none 0 0, H4.out.2.2.1.low hb (by omega), World.ownsRow_nil _ _ _ _⟩, hints,
      fun R o e => ⟨(hlow R o e).2, by have := (hlow R o e).1; omega⟩, H4.out.2.2.2.trans (hb.mono (by omega)), lR, by have := hb.size; omega, Nat.le_refl _⟩
  have hKn : (sdl keep).length ≤ 1000000 := by have h1 := sdl_len keep; have h2 := HI.out.len; omega
  have HS0 := Lib.hid hst
  rw [show (Lib.compact (keep.mergeSort fun x y => decide (x ≤ y))) = sdl keep from rfl]
  clear H4 HO3 hs3 hints hb hlow hst
  obtain ⟨B, hB⟩ : ∃ B, w4.heap.size = B := ⟨_, rfl⟩
  rw [hB] at HS0
  clear hB
  obtain ⟨S, hS⟩ : ∃ S, sdl keep = S := ⟨_, rfl⟩
  rw [hS] at HS0 hKn ⊢
  have HSK := Lib.hid hS
  clear hS
  go_wp2_with fail
  go_loopw [29] (fun s29 wx => ∃ k : Nat, k ≤ S.length ∧ s29 = .int .i64 k ∧ Hid (CutSt w wx B P wd A n c ot ((S.take k).filterMap (pick wd ot gs)) A3 S.length c3 S)) (fun s29 _ => S.length - (intOf s29).toNat)
  case atStart => exact ⟨0, by omega, rfl, HS0⟩
  case round =>
    clear HS0
    obtain ⟨k, hk, rfl, hS⟩ := hrel
    have cf := (hS.out.f).cells
    have lF := Whole.lt hS.out.f
    by_cases hlt : k < S.length
    · have d1 : decide ((k : Int) < (S.length : Int)) = true := by simp; omega
      have d2 : decide (k < S.length) = true := by simp; omega
      obtain ⟨x, hx⟩ : ∃ x, S[k]? = some x := ⟨_, List.getElem?_eq_getElem hlt⟩
      obtain ⟨R, o, rfl, hR, hc⟩ := hS.out.s.at_ (by omega)
      have cx := hc k x hx
      have htk : (S.take (k + 1)).filterMap (pick wd ot gs) = (S.take k).filterMap (pick wd ot gs) ++ (match pick wd ot gs x with | some g => [g] | none => []) := by
        rw [List.take_add_one, hx, List.filterMap_append]
        cases hp : pick wd ot gs x <;> simp [hp]
      have HX := Lib.hid htk
      have hk9 : k ≤ 1000000 := by omega
      clear hx hc htk
      go_wp2_with fail
      obtain ⟨L, hL⟩ : ∃ L, (S.take k).filterMap (pick wd ot gs) = L := ⟨_, rfl⟩
      have hLn : L.length ≤ 1000000 := by rw [← hL]; exact Nat.le_trans (List.length_filterMap_le _ _) (by simp; omega)
      rw [hL] at hS HX
      clear hL
      refine (search_any wd A n c ot gs x _ (HG.out.below hS.out.below) HK.out.2 hn).mono ?_
      rintro e w5 ⟨rfl, hb⟩
      obtain ⟨g, hg⟩ : ∃ g, findG ot gs x = g := ⟨_, rfl⟩
      obtain ⟨b, hbb⟩ : ∃ b, (hitG gs x).isSome = b := ⟨_, rfl⟩
      rw [hg, hbb]
      have hpk : pick wd ot gs x = if (b || (decide (0 < ot) && codeB wd x)) = true then some g else none := by unfold pick; rw [hbb, hg]
      have H5 := Lib.hid (hS.out.later hb)
      have HPK := Lib.hid hpk
      have HLL := Lib.hid hLn
      clear hLn
      clear cf lF hR cx hb hpk hg hbb
      have cf := (H5.out.f).cells
      have lF := Whole.lt H5.out.f
      obtain ⟨v5, hP5, ho5⟩ := H5.out.o
      obtain ⟨A5, c5, rfl⟩ := own_slice ho5
      have rdP := hP5.reads
      have lP := hP5.lt
      have HV := Lib.hid (And.intro hP5 ho5)
      clear hP5 ho5
      cases b with
      | true =>
        go_wp2_with (at_builtin; refine wpList_append_own _ rfl _ _ 62 rfl B 73 i0 (.agg #[.int .i64 0, .int .i64 0, .string ⟨#[]⟩]) 3 32 Tryz.underlying62 hi hz0 hz1 hz2 rfl (by decide) (.slice A5 L.length c5) L.length (gvs L) ?pa ?pb ⟨w5.heap.size + 1, 0, none⟩ 1 1 (gv g) ?pc rfl ?pd ?pe ?pf ?pg ?ph ?pi)
        case pa => rfl
        case pb => exact (HV.out.2.alloc (.cells #[.int .i64 g.code, .int .i64 g.width, .string g.text] 73)).alloc _
        case pc => rfl
        case pd =>
          have := World.news_of_block (cs := #[.int .i64 g.code, .int .i64 g.width, .string g.text]) (t := 73) (fr := (0, 0)) (heap_alloc_new (w5.alloc (.cells #[.int .i64 g.code, .int .i64 g.width, .string g.text] 73)) (.cells #[.int .i64 g.code, .int .i64 g.width, .string g.text] 73))
          simpa [gv] using this
        case pe => simp [gv, Value.oneCell']
        case pf => unfold maxLen; have := HLL.out; omega
        case pg => have := HLL.out; omega
        case ph => have := (H5.out.old (.cells #[.int .i64 g.code, .int .i64 g.width, .string g.text] 73)).top; simp at this ⊢; omega
        case pi =>
        intro v' w8 hown' hgrow _
        have hB8 := (Below.refl B _).grown hgrow (by have := (H5.out.old (.cells #[.int .i64 g.code, .int .i64 g.width, .string g.text] 73)).top; simp at this ⊢; omega) (fun k e => ((HV.out.2.alloc (.cells #[.int .i64 g.code, .int .i64 g.width, .string g.text] 73)).alloc (.cells #[.int .i64 g.code, .int .i64 g.width, .string g.text] 73)).lt k e |>.1)
        have hP8 : Whole w8 P 64 #[.bool wd, .slice A5 L.length c5, .int .i64 0] := ((HV.out.1.old (.cells #[.int .i64 g.code, .int .i64 g.width, .string g.text] 73)).old (.cells #[.int .i64 g.code, .int .i64 g.width, .string g.text] 73)).low hB8 (H5.out.old (.cells #[.int .i64 g.code, .int .i64 g.width, .string g.text] 73)).hi
        have H8 := Lib.hid (((H5.out.old (.cells #[.int .i64 g.code, .int .i64 g.width, .string g.text] 73)).old (.cells #[.int .i64 g.code, .int .i64 g.width, .string g.text] 73)).push ((HV.out.2.alloc (.cells #[.int .i64 g.code, .int .i64 g.width, .string g.text] 73)).alloc _) ((HV.out.1.old (.cells #[.int .i64 g.code, .int .i64 g.width, .string g.text] 73)).old _) hown' hgrow)
        have rd8 := hP8.reads
        have ft8 := hP8.thawed
        have lP8 := hP8.lt
        obtain ⟨A8, c8, rfl⟩ := own_slice hown'
        clear hown' hgrow hB8 hP8
        go_wp2_with fail
        go_roundw
        case rel => exact ⟨k + 1, by omega, by go_num, by rw [HX.out, HPK.out, Bool.true_or, if_pos rfl]; exact H8⟩
        case measure => simp [intOf]; omega
      | false =>
        by_cases h0 : 0 < ot
        · have d3 : decide (0 < ot) = true := by simp; omega
          have H6 := Lib.hid (H5.out.old (.cells #[.int .i64 g.code, .int .i64 g.width, .string g.text] 73))
          have HGl := Lib.hid (Whole.made w5 73 #[.int .i64 g.code, .int .i64 g.width, .string g.text])
          have HV6 := Lib.hid (And.intro (HV.out.1.old (.cells #[.int .i64 g.code, .int .i64 g.width, .string g.text] 73)) (HV.out.2.alloc (.cells #[.int .i64 g.code, .int .i64 g.width, .string g.text] 73)))
          go_wp2_with fail
          refine (isCode_any wd A n c ot x _).mono ?_
          rintro e w6 ⟨rfl, hb⟩
          clear rdP lP cf lF
          have H7 := Lib.hid (H6.out.later hb)
          have hP7 := HV6.out.1.here hb
          have ho7 := own_below3 HV6.out.2 hb
          have hG7 := HGl.out.here hb
          have rdP := hP7.reads
          have lP := hP7.lt
          have rdG := hG7.reads
          have lG := hG7.lt
          have HV7 := Lib.hid (And.intro hP7 ho7)
          have H1b : w5.heap.size + 1 ≤ w6.heap.size := by have := hb.size; simp at this; omega
          clear hb hP7 ho7 hG7 H6 HV6 HGl
          cases hcb : codeB wd x with
          | true =>
            rw [hcb, d3] at HPK
            clear hcb
            go_wp2_with (at_builtin; refine wpList_append_own _ rfl _ _ 62 rfl B 73 i0 (.agg #[.int .i64 0, .int .i64 0, .string ⟨#[]⟩]) 3 32 Tryz.underlying62 hi hz0 hz1 hz2 rfl (by decide) (.slice A5 L.length c5) L.length (gvs L) ?qa ?qb ⟨w6.heap.size, 0, none⟩ 1 1 (gv g) ?qc rfl ?qd ?qe ?qf ?qg ?qh ?qi)
            case qa => rfl
            case qb => exact (HV7.out.2).alloc _
            case qc => rfl
            case qd =>
              have := World.news_of_block (cs := #[.int .i64 g.code, .int .i64 g.width, .string g.text]) (t := 73) (fr := (0, 0)) (heap_alloc_new (w6) (.cells #[.int .i64 g.code, .int .i64 g.width, .string g.text] 73))
              simpa [gv] using this
            case qe => simp [gv, Value.oneCell']
            case qf => unfold maxLen; have := HLL.out; omega
            case qg => have := HLL.out; omega
            case qh => have := (H7.out).top; simp at this ⊢; omega
            case qi =>
            intro v' w8 hown' hgrow _
            have hB8 := (Below.refl B _).grown hgrow (by have := (H7.out).top; simp at this ⊢; omega) (fun k e => ((HV7.out.2).alloc (.cells #[.int .i64 g.code, .int .i64 g.width, .string g.text] 73)).lt k e |>.1)
            have hP8 : Whole w8 P 64 #[.bool wd, .slice A5 L.length c5, .int .i64 0] := (HV7.out.1.old (.cells #[.int .i64 g.code, .int .i64 g.width, .string g.text] 73)).low hB8 (H7.out).hi
            have H8 := Lib.hid (((H7.out).old (.cells #[.int .i64 g.code, .int .i64 g.width, .string g.text] 73)).push ((HV7.out.2).alloc _) (HV7.out.1.old _) hown' hgrow)
            have rd8 := hP8.reads
            have ft8 := hP8.thawed
            have lP8 := hP8.lt
            obtain ⟨A8, c8, rfl⟩ := own_slice hown'
            clear hown' hgrow hB8 hP8
            go_wp2_with fail
            go_roundw
            case rel => exact ⟨k + 1, by omega, by go_num, by rw [HX.out, HPK.out, show ((false || (true && true)) = true) from rfl, if_pos rfl]; exact H8⟩
            case measure => simp [intOf]; omega
          | false =>
            rw [hcb, d3] at HPK
            clear hcb
            go_wp2_with fail
            go_roundw
            case rel => exact ⟨k + 1, by omega, by go_num, by rw [HX.out, HPK.out]; simpa using H7⟩
            case measure => simp [intOf]; omega
        · have d3 : decide (0 < ot) = false := by simp; omega
          rw [d3] at HPK
          have H6 := Lib.hid (H5.out.old (.cells #[.int .i64 g.code, .int .i64 g.width, .string g.text] 73))
          go_wp2_with fail
          go_roundw
          case rel => exact ⟨k + 1, by omega, by go_num, by rw [HX.out, HPK.out]; simpa using H6⟩
          case measure => simp [intOf]; omega
    · have d1 : decide ((k : Int) < (S.length : Int)) = false := by simp; omega
      have d2 : decide (k < S.length) = false := by simp; omega
      obtain rfl : k = S.length := by omega
      obtain ⟨v5, hP5, ho5⟩ := hS.out.o
      rw [List.take_length] at ho5
      have hcg : S.filterMap (pick wd ot gs) = cutG wd ot gs keep := by unfold cutG; rw [HSK.out]
      rw [hcg] at ho5
      obtain ⟨A5, c5, e5, hgl⟩ := Glyphs.of_own ho5 (cutG_text HG.out)
      subst e5
      have hgl2 := hgl.len
      have rdP := hP5.reads
      have lP := hP5.lt
      have rd := hS.out.r.reads
      have ft := hS.out.r.thawed
      have lR := hS.out.r.lt
      have HH := Lib.hid (And.intro (ownsRow_setCell_below (ownsRow_setCell_below (ownsRow_setCell_below ho5 (a := ⟨w.heap.size + 1, 0, none⟩) (Nat.lt_trans hS.out.lo hS.out.hi) (.bool wd)) (a := ⟨w.heap.size + 1, 1, none⟩) (Nat.lt_trans hS.out.lo hS.out.hi) (.slice A5 (cutG wd ot gs keep).length c5)) (a := ⟨w.heap.size + 1, 2, none⟩) (Nat.lt_trans hS.out.lo hS.out.hi) (.int .i64 0)) hS.out.below)
      clear hgl2 hgl hP5 ho5 cf lF hcg
      go_wp2_with fail
      refine bodyPost_ret (v := .tuple #[.agg #[.bool wd, .slice A5 (cutG wd ot gs keep).length c5, .int .i64 0], .int .i64 0]) (by simp [results, Tryz.results32, go_sem, rd]) rfl ⟨A5, _, c5, rfl, glyphs_own HH.out.1 (cutG_text HG.out), ?_, fun R o e => Nat.le_trans (by have := hS.out.lo; have := hS.out.hi; omega) (own_fresh HH.out.1 e)⟩
      (repeat (first | with_reducible refine Below.drew ?_ | with_reducible refine bdrewN ?_ _ | (with_reducible refine Below.setCell ?_ ?_ _; rotate_left; focus (first | exact Nat.le_refl _ | omega | (simp; omega) | (simp; done))) | (with_reducible refine Below.alloc ?_ ?_ _; rotate_left; focus (first | exact Nat.le_refl _ | omega | (simp; omega) | (simp; done))))); with_reducible exact HH.out.2
end Go.Proofs.YtdlmhienolmncaaGreat
/- cut: Fonts. -/
namespace Go.Proofs.YtdlmhienolmncaaGreat
open Go.RowKit Dec

theorem set_seg (A C : List Value) (m N : Nat) (hC : m + C.length ≤ N) (hN : N ≤ A.length) : (A.take m ++ C ++ A.drop (m + C.length)).take N = (A.take N).take m ++ C ++ (A.take N).drop (m + C.length) := by
  have hl : (A.take m ++ C).length = m + C.length := by rw [List.length_append, List.length_take]; omega
  rw [List.take_append, List.take_of_length_le (by rw [hl]; exact hC), hl, List.drop_take, List.take_take, Nat.min_eq_left (by omega)]
theorem setRow_whole2 {w : World} {g : Nat} {T : TypeId} {cs : Array Value} (cs' : Array Value) (h : w.heap[g]? = some (.cells cs T (0, 0))) : (w.setRow g cs').heap[g]? = some (.cells cs' T (0, 0)) := setRow_heap w g cs cs' T (0, 0) h
theorem setRow_below2 (w : World) {g B : Nat} (cs' : Array Value) (hB : B ≤ g) : Below B w (w.setRow g cs') := by
  refine ⟨rfl, rfl, rfl, by simp, fun k hk => ?_⟩
  simp only [World.setRow, Array.getElem?_modify]
  rw [if_neg (by omega)]
section
variable {P : Program}
/-- A record into a row that is one's own. -/
theorem wpList_store_own {ops : Array Oper} {rest : List Oper} {o : Oper} {a : Act} {w : World} {Q : Exit → Act → World → Prop} (hgd : o.guard = none) (ty : TypeId) (x y : Operand) (ho : o.op = .store ty x y) (hd : o.dst = none)
    (g m : Nat) (cells : Array Value) (hx : a.eval x = .pointer (some ⟨g, m, none⟩)) (hy : a.eval y = .agg cells) (hi : (P.info? ty).map (·.size) = some cells.size) (h1 : cells.all (·.oneCell') = true)
    (base : Nat) (e : TypeId) (size n cap : Nat) (xs : List Value) (hown : w.ownsRow base e size (.slice (some ⟨g, 0, none⟩) n cap) n xs) (hm : m + cells.size ≤ n * size)
    (h : ∀ w2, w2.ownsRow base e size (.slice (some ⟨g, 0, none⟩) n cap) n (xs.take m ++ cells.toList ++ xs.drop (m + cells.size)) → Below base w w2 → (∀ R, R ≠ g → w2.heap[R]? = w.heap[R]?) → wpList P ops Q rest a w2) : wpList P ops Q (o :: rest) a w := by
  rcases hown.2 with ⟨h', _⟩ | ⟨g', cap', cur, h', hb, hg, hnc, hcm, hcs, htake⟩
  · simp at h'
  · simp only [Value.slice.injEq, Option.some.injEq, Addr.mk.injEq, and_true, true_and] at h'
    obtain ⟨rfl, rfl⟩ := h'
    have hNl : n * size ≤ cur.toList.length := by
      rw [Array.length_toList, hcs]
      exact Nat.mul_le_mul_right _ hnc
    have hlen : m + 0 + cells.toList.length ≤ cur.size := by
      rw [Array.length_toList] at hNl ⊢
      omega
    have hrun := run_storeCells_at (P := P) g m e cells.toList 0 cur w hg hlen (fun v hv => (Array.all_eq_true_iff_forall_mem.1 h1) v (by simpa using hv))
    have hres := h (w.setRow g (cur.toList.take m ++ cells.toList ++ cur.toList.drop (m + cells.toList.length)).toArray) ?_ (setRow_below2 _ _ hb) (fun R hR => setRow_other _ _ _ _ hR)
    · refine wpList_plain hgd fun _ hK => ?_
      unfold Oper.wp execOp
      cases hq : P.info? ty with
      | none => simp [hq] at hi
      | some i =>
        have hs : cells.size = i.size := by simp [hq] at hi; omega
        have hst : (storeVar ty ⟨g, m, none⟩ (.agg cells)).run P w = .ok () (w.setRow g (cur.toList.take m ++ cells.toList ++ cur.toList.drop (m + cells.toList.length)).toArray) := by
          rw [Nat.add_zero] at hrun
          simp [storeVar, sizeOf, typeInfo, hq, Value.cells, hs, hrun]
        simp only [ho, hx, hy, Instr.storeAt, Instr.sureAddr, Sem.run_bind, Sem.run_pure, Result.andThen_ok, hst]
        exact hK _ _ (by rw [hd]; exact hres)
    · refine ⟨?_, .inr ⟨g, cap, _, rfl, hb, setRow_whole2 _ hg, hnc, hcm, ?_, ?_⟩⟩
      · have e1 := hown.1
        have e2 : cells.toList.length = cells.size := Array.length_toList
        rw [List.length_append, List.length_append, List.length_take, List.length_drop]
        omega
      · have e2 : cells.toList.length = cells.size := Array.length_toList
        have e3 : cur.toList.length = cur.size := Array.length_toList
        rw [List.size_toArray, List.length_append, List.length_append, List.length_take, List.length_drop]
        omega
      · rw [← htake]
        have := set_seg cur.toList cells.toList m (n * size) (by rw [Array.length_toList]; exact hm) hNl
        rw [Array.length_toList] at this
        exact this
end
theorem rowNm_len (l : List Nm) : (rowNm l).length = l.length * 4 := by
  unfold rowNm
  rw [flat_len (z := 4) _ (nmV_all l), List.length_map]
theorem rowNm_app (a b : List Nm) : rowNm (a ++ b) = rowNm a ++ rowNm b := by unfold rowNm; rw [List.map_append, List.flatten_append]
theorem rowNm_cons (x : Nm) (l : List Nm) : rowNm (x :: l) = nmV x ++ rowNm l := rfl
theorem rowNm_at {l : List Nm} {k : Nat} {x : Nm} (hx : l[k]? = some x) {j : Nat} {u : Value} (hu : (nmV x)[j]? = some u) : (rowNm l)[k * 4 + j]? = some u := by
  unfold rowNm
  exact flat_at (l.map nmV) k (nmV x) j u (nmV_all l) (by rw [List.getElem?_map, hx]; rfl) hu
theorem rowNm_put (d : List Nm) (x : Nm) (r : List Nm) (a b c : Value) : (rowNm (d ++ x :: r)).take (d.length * 4 + 1) ++ [a, b, c] ++ (rowNm (d ++ x :: r)).drop (d.length * 4 + 1 + 3) = rowNm d ++ ([.string x.name, a, b, c] ++ rowNm r) := by
  have hl := rowNm_len d
  rw [rowNm_app, rowNm_cons]
  have e1 : (rowNm d ++ (nmV x ++ rowNm r)).take (d.length * 4 + 1) = rowNm d ++ [.string x.name] := by
    rw [← hl, List.take_length_add_append]
    rfl
  have e2 : (rowNm d ++ (nmV x ++ rowNm r)).drop (d.length * 4 + 1 + 3) = rowNm r := by
    rw [Nat.add_assoc, ← hl, List.drop_length_add_append]
    rfl
  rw [e1, e2]
  simp
theorem own_ptr {w : World} {base : Nat} {e : TypeId} {size : Nat} {a : Option Addr} {c n : Nat} {xs : List Value} (h : w.ownsRow base e size (.slice a n c) n xs) (hn : 0 < n) : ∃ g, a = some ⟨g, 0, none⟩ ∧ base ≤ g ∧ g < w.heap.size ∧ n ≤ c ∧ c ≤ maxLen := by
  rcases h.2 with ⟨h', h0⟩ | ⟨g, cap, cur, h', hb, hg, hnc, hcm, -⟩
  · omega
  · injection h' with h1 h2 h3
    exact ⟨g, h1, hb, (Array.getElem?_eq_some_iff.1 hg).1, by omega, by omega⟩
theorem Whole.setFont {w : World} {g : Nat} {T : TypeId} {a b c a' b' c' : Value} (h : Whole w g T #[a, b, c]) : Whole (((w.setCell ⟨g, 0, none⟩ a').setCell ⟨g, 1, none⟩ b').setCell ⟨g, 2, none⟩ c') g T #[a', b', c'] := by
  have h' := ((h.set 0 a').set 1 b').set 2 c'
  simpa using h'
theorem glyphs_set3 {v : World} {A : Option Addr} {n c : Nat} {gs : List Gl} (h : Glyphs v A n c gs) {P : Nat} {T : TypeId} {b c' x y z : Value} (hZ : Whole v P T #[.bool false, b, c']) : Glyphs (((v.setCell ⟨P, 0, none⟩ x).setCell ⟨P, 1, none⟩ y).setCell ⟨P, 2, none⟩ z) A n c gs := by
  refine ⟨h.len, h.cap, h.top, h.text, fun hn => ?_⟩
  obtain ⟨R, o, e, hR, hc⟩ := h.at_ hn
  have hne : R ≠ P := by
    rintro rfl
    obtain ⟨g, hg⟩ : ∃ g, gs[0]? = some g := ⟨_, List.getElem?_eq_getElem (by rw [h.len]; exact hn)⟩
    obtain ⟨q0, -, q2⟩ := hc 0 g hg
    have r0 := hZ.reads (o + 0 * 3)
    have r2 := hZ.reads (o + 0 * 3 + 2)
    rw [q0] at r0
    rw [q2] at r2
    match o, r0, r2 with
    | 0, r0, _ => cases r0
    | o + 1, _, r2 => simp at r2
  have hh : (((v.setCell ⟨P, 0, none⟩ x).setCell ⟨P, 1, none⟩ y).setCell ⟨P, 2, none⟩ z).heap[R]? = v.heap[R]? := by
    rw [Below.heap_setCell _ _ _ _ hne, Below.heap_setCell _ _ _ _ hne, Below.heap_setCell _ _ _ _ hne]
  have hq : ∀ off, (((v.setCell ⟨P, 0, none⟩ x).setCell ⟨P, 1, none⟩ y).setCell ⟨P, 2, none⟩ z).cell? ⟨R, off, none⟩ = v.cell? ⟨R, off, none⟩ := fun off => by simp only [World.cell?, hh]
  refine ⟨R, o, e, ?_, fun i g hg => ?_⟩
  · have := (Array.getElem?_eq_some_iff.1 (hh.trans (Array.getElem?_eq_getElem hR))).1
    exact this
  · rw [hq, hq, hq]
    exact hc i g hg
theorem glyphs_moved {w w' : World} {A : Option Addr} {n c : Nat} {gs : List Gl} (h : Glyphs w A n c gs) (hs : w.heap.size ≤ w'.heap.size) (hc : ∀ R o, A = some ⟨R, o, none⟩ → w'.heap[R]? = w.heap[R]?) : Glyphs w' A n c gs := by
  refine ⟨h.len, h.cap, h.top, h.text, fun hn => ?_⟩
  obtain ⟨R, o, e, hR, hk⟩ := h.at_ hn
  have hq : ∀ off, w'.cell? ⟨R, off, none⟩ = w.cell? ⟨R, off, none⟩ := fun off => by simp only [World.cell?, hc R o e]
  exact ⟨R, o, e, Nat.lt_of_lt_of_le hR hs, fun i g hg => by rw [hq, hq, hq]; exact hk i g hg⟩
theorem szFont (a b c : Value) : (Tryz.prog.info? 64).map (·.size) = some (#[a, b, c] : Array Value).size := by kernel_rfl
theorem fontAll (a : Bool) (A : Option Addr) (n c : Nat) (b : Int) : (#[.bool a, .slice A n c, .int .i64 b] : Array Value).all (·.oneCell') = true := by simp [Value.oneCell']
def FontsSaid (fs : List Nm) (l : List Mk) (w : World) (e : Ending) (w' : World) : Prop :=
  ∃ A' n' c' a, e = .returned (.tuple #[.slice A' n' c', .int .i64 (knownE fs l)]) ∧ NmsAt w' A' n' c' a ∧ (∀ f ∈ a, f.s.n ≤ 1000000) ∧ Below w.heap.size w w' ∧ (if knownB fs l = true then CutIs l fs a else a = [])
theorem cutF_is (l : List Mk) (x : Nm) : cutG x.wd x.ot x.gs (usedS l x.name) = cutF l x := cut_members (fun y => sdl_mem (usedL l x.name) y)
set_option maxRecDepth 100000 in
set_option maxHeartbeats 16000000 in
theorem fontsC_any (A : Option Addr) (n c : Nat) (fs : List Nm) (A2 : Option Addr) (n2 c2 : Nat) (l : List Mk) (w : World) (h : NmsAt w A n c fs) (hn : n ≤ 1000000) (h60 : ∀ f ∈ fs, f.s.n ≤ 1000000) (h2 : MarksAt w A2 n2 c2 l) (hn2 : n2 ≤ 1000000) :
    Calls Tryz.prog 8 #[.slice A n c, .slice A2 n2 c2] w (FontsSaid fs l w) := by
  have hb0 : Below w.heap.size w (w.alloc (.cells #[.slice A2 n2 c2] 22)) := (Below.refl w.heap.size w).alloc (Nat.le_refl _) _
  have HW0 := Lib.hid (Whole.made w 22 #[.slice A2 n2 c2])
  have HK := Lib.hid (known_any A n c fs A2 n2 c2 l _ (h.below hb0) (h2.below hb0))
  have HB0 := Lib.hid hb0
  have H0 := Lib.hid (And.intro h h2)
  have H60 := Lib.hid h60
  have HL := Lib.hid (And.intro h.len h2.len)
  clear h h2 hb0 h60
  go_enter Tryz.func8, Tryz.ntmps8
  go_wp2_with fail
  refine HK.out.mono ?_
  rintro e w1 ⟨rfl, hb⟩
  have HB1 := Lib.hid (And.intro (HB0.out.trans (hb.mono HB0.out.size)) (HW0.out.here hb))
  clear hb HK
  have c0 := HB1.out.2.reads 0
  have lB := HB1.out.2.lt
  cases hk : knownB fs l
  · have hke : knownE fs l = 1 := by unfold knownE; rw [hk]; rfl
    rw [hke]
    go_wp2_with fail
    go_ret2
    refine ⟨none, 0, 0, [], by rw [hke]; rfl, ⟨RowAt.none _ _, fun x hx => by simp at hx⟩, fun f hf => by simp at hf, HB1.out.1, ?_⟩
    rw [hk]
    rfl
  have hke : knownE fs l = 0 := by unfold knownE; rw [hk]; rfl
  rw [hke]
  have HKB := Lib.hid (And.intro hk hke)
  have HCK := Lib.hid (show ∀ f ∈ fs, chkB f.wd f.ot f.gs = true from fun f hf => nms_mem (by unfold knownB at hk; rw [Bool.and_eq_true] at hk; exact hk.1) hf)
  clear hk hke
  obtain ⟨F, hF⟩ : ∃ F, fs.filter (useB l) = F := ⟨_, rfl⟩
  have HF := Lib.hid (show ∀ x ∈ F, x ∈ fs from fun x hx => by rw [← hF] at hx; exact (List.mem_filter.1 hx).1)
  have hFl : F.length ≤ n := by rw [← hF, ← HL.out.1]; exact List.length_filter_le _ _
  have HN := Lib.hid (keepN_any fs w.heap.size A n c A2 n2 c2 l w1 (H0.out.1.below HB1.out.1) hn (H0.out.2.below HB1.out.1) HB1.out.2 hn2)
  rw [hF] at HN
  have HFE := Lib.hid hF
  clear hF
  go_wp2_with fail
  refine HN.out.mono ?_
  rintro e w2 ⟨a', c', rfl, hown, hb⟩
  obtain ⟨N, hNN⟩ : ∃ N, F.length = N := ⟨_, rfl⟩
  rw [hNN] at hown hFl ⊢
  have HO := Lib.hid hown
  have HB2 := Lib.hid hb
  have HFN := Lib.hid hNN
  clear hown hb hNN HN c0 lB
  go_wp2_with fail
  go_loopw [23] (fun s23 wr => ∃ (k : Nat) (d : List Nm), k ≤ N ∧ s23 = .int .i64 (k : Int) ∧ Hid (d.length = k ∧ d.map keyN = (F.take k).map (keyCut l) ∧ (w2.heap.size ≤ wr.heap.size ∧ ∀ x ∈ d, NmOk wr x ∧ x.s.n ≤ 1000000 ∧ ∀ R o, x.s.A = some ⟨R, o, none⟩ → w2.heap.size ≤ R) ∧ wr.ownsRow w1.heap.size 66 4 (.slice a' N c') N (rowNm (d ++ F.drop k)) ∧ Below w1.heap.size w1 wr)) (fun s23 _ => N - (intOf s23).toNat)
  case atStart => exact ⟨0, [], by omega, rfl, Lib.hid ⟨rfl, rfl, ⟨Nat.le_refl _, fun x hx => by simp at hx⟩, HO.out, HB2.out⟩⟩
  case round =>
    obtain ⟨k, d, hk, rfl, HR⟩ := hrel
    by_cases hlt : k < N
    · have d1 : decide ((k : Int) < (N : Int)) = true := decide_eq_true (by omega)
      rename World => wo
      obtain ⟨g, rfl, hg1, hgw, hg3, hg4⟩ := own_ptr HO.out (by omega)
      have hg2 : g < wo.heap.size := Nat.lt_of_lt_of_le hgw HR.out.2.2.1.1
      obtain ⟨x, hx⟩ : ∃ x, F[k]? = some x := ⟨_, List.getElem?_eq_getElem (by rw [HFN.out]; exact hlt)⟩
      have hdr : F.drop k = x :: F.drop (k + 1) := by
        rw [← (List.getElem?_eq_some_iff.1 hx).2]; exact List.drop_eq_getElem_cons (List.getElem?_eq_some_iff.1 hx).1
      have hxr : (d ++ F.drop k)[k]? = some x := by
        rw [hdr, List.getElem?_append_right (by rw [HR.out.1]; exact Nat.le_refl _), HR.out.1, Nat.sub_self]; rfl
      have HAT := Lib.hid (show ∀ (j : Nat) (u : Value), (nmA x).toList[j]? = some u → wo.cell? ⟨g, k * 4 + j, none⟩ = some u from fun j u hu => by
        have hj : j < 4 := (List.getElem?_eq_some_iff.1 hu).1
        rw [HR.out.2.2.2.1.cellAt (k * 4 + j) (by omega)]
        exact rowNm_at hxr hu)
      have hxf : x ∈ fs := HF.out x (List.mem_of_getElem? hx)
      have hbw : Below w.heap.size w wo := HB1.out.1.trans (HR.out.2.2.2.2.mono HB1.out.1.size)
      obtain ⟨v1, hv1⟩ : ∃ v1, wo.alloc (.cells (nmA x) 66) = v1 := ⟨_, rfl⟩
      have hb1 : Below wo.heap.size wo v1 := by rw [← hv1]; exact (Below.refl _ _).alloc (Nat.le_refl _) _
      have HV1 := Lib.hid hv1
      have HW1 := Lib.hid (show Whole v1 wo.heap.size 66 #[.string x.name, .bool x.wd, .slice x.s.A x.s.n x.s.c, .int .i64 x.ot] by rw [← hv1]; exact Whole.made _ _ _)
      have HWB := Lib.hid (((HB1.out.2.here HR.out.2.2.2.2).here hb1))
      have HBV := Lib.hid (hbw.trans (hb1.mono hbw.size))
      have HOW := Lib.hid (own_below3 HR.out.2.2.2.1 hb1)
      have HOK := Lib.hid (show NmOk v1 x from (H0.out.1.ok x hxf).later HBV.out)
      have hgv : g < v1.heap.size := Nat.lt_of_lt_of_le hg2 hb1.size
      have HBO := Lib.hid hb1
      have HCX := Lib.hid (And.intro hxf (And.intro hdr hx))
      clear hxr hdr hxf hbw hb1 hx hv1
      have HUS := Lib.hid (show (usedS l x.name).length ≤ 1000000 from Nat.le_trans (sdl_len _) (Nat.le_trans (usedL_len _ _) (by rw [HL.out.2]; exact hn2)))
      have HU := Lib.hid (fun v (hb : Below v1.heap.size v1 v) => used_any A2 n2 c2 l x.name v (H0.out.2.below (HBV.out.trans (hb.mono HBV.out.size))) hn2)
      have HCT : Hid (∀ v A3 c3, Below v1.heap.size v1 v → IntsAt v A3 (usedS l x.name).length c3 (usedS l x.name) → Calls Tryz.prog 32 #[.agg #[.bool x.wd, .slice x.s.A x.s.n x.s.c, .int .i64 x.ot], .slice A3 (usedS l x.name).length c3] v fun e w' => ∃ A' n' c', e = .returned (.tuple #[.agg #[.bool x.wd, .slice A' n' c', .int .i64 0], .int .i64 0]) ∧ Below v.heap.size v w' ∧ Glyphs w' A' n' c' (cutF l x) ∧ n' ≤ 1000000 ∧ ∀ R o, A' = some ⟨R, o, none⟩ → v.heap.size ≤ R) := Lib.hid (fun v A3 c3 hb hI => (cut_okF x.wd x.s.A x.s.n x.s.c x.ot x.gs A3 _ c3 (usedS l x.name) v ((HOK.out.later hb).2) (HCK.out x HCX.out.1) hI (H60.out x HCX.out.1) HUS.out).mono fun e w' he => by
        obtain ⟨A', n', c', rfl, hgl, hb', hfr⟩ := he
        refine ⟨A', n', c', rfl, hb', by rw [← cutF_is]; exact hgl, ?_, hfr⟩
        have := hgl.len
        have h3 := cut_len (wd := x.wd) (ot := x.ot) (gs := x.gs) (keep := usedS l x.name)
        have h4 := HUS.out
        omega)
      go_upto_region 8 with (first
        | (refine wpList_load_at rfl _ _ rfl _ _ rfl (nmA x) _ (by first | exact HAT.out | simpa using HAT.out) Tryz.underlying66 rfl (szNm x) ?_)
        | (refine wpList_store_let rfl _ _ _ rfl rfl _ _ (nmA x) HV1.out rfl rfl (szNm x) rfl (nmA_one x) ?_))
      go_cut [10, 11] from 28 to 37 (fun s10 s11 wx => ∃ P A' n' c', s10 = .pointer (some ⟨P, 0, none⟩) ∧ s11 = .int .i64 0 ∧ Hid (Whole wx P 64 #[.bool x.wd, .slice A' n' c', .int .i64 0] ∧ Glyphs wx A' n' c' (cutF l x) ∧ n' ≤ 1000000 ∧ Below v1.heap.size v1 wx ∧ ∀ R o, A' = some ⟨R, o, none⟩ → v1.heap.size ≤ R))
      case first =>
        have HCC : Hid (∀ v, Below v1.heap.size v1 v → (fun v => v.cell? ⟨w.heap.size, 0, none⟩ = some (.slice A2 n2 c2) ∧ v.cell? ⟨wo.heap.size, 0, none⟩ = some (.string x.name) ∧ v.cell? ⟨wo.heap.size, 1, none⟩ = some (.bool x.wd) ∧ v.cell? ⟨wo.heap.size, 2, none⟩ = some (.slice x.s.A x.s.n x.s.c) ∧ v.cell? ⟨wo.heap.size, 3, none⟩ = some (.int .i64 x.ot) ∧ Below v1.heap.size v1 v) v) := Lib.hid (fun v hb => ⟨(HWB.out.here hb).reads 0, (HW1.out.here hb).reads 0, (HW1.out.here hb).reads 1, (HW1.out.here hb).reads 2, (HW1.out.here hb).reads 3, hb⟩)
        have hbd : Below v1.heap.size v1 v1.drew := (Below.refl v1.heap.size v1).drew
        have hS := HCC.out v1.drew hbd
        refine wp_region_C (fun v => v.cell? ⟨w.heap.size, 0, none⟩ = some (.slice A2 n2 c2) ∧ v.cell? ⟨wo.heap.size, 0, none⟩ = some (.string x.name) ∧ v.cell? ⟨wo.heap.size, 1, none⟩ = some (.bool x.wd) ∧ v.cell? ⟨wo.heap.size, 2, none⟩ = some (.slice x.s.A x.s.n x.s.c) ∧ v.cell? ⟨wo.heap.size, 3, none⟩ = some (.int .i64 x.ot) ∧ Below v1.heap.size v1 v) (by kernel_rfl) ?_
        refine wpAnyC_take (i := 0) (v := .pointer (some ⟨wo.heap.size, 1, none⟩)) rfl (by kernel_rfl) (fun _ _ _ h => h) (Or.inl ⟨by rfl, ?y1⟩) hS ?r1
        case y1 => intro wq _; go_simp; all_goals (first | with_reducible rfl | go_num | (simp; done) | (simp; omega) | skip)
        try simp only [Act.put, List.setIfInBounds_toArray, List.set_cons_zero, List.set_cons_succ]
        refine wpAnyC_take (i := 1) (v := .agg #[.bool x.wd, .slice x.s.A x.s.n x.s.c, .int .i64 x.ot]) rfl (by kernel_rfl) (fun _ _ _ h => h) (Or.inl ⟨by rfl, ?y2⟩) hS ?r2
        case y2 => rintro wq ⟨-, -, c1, c2, c3, -⟩; go_simp; try with_reducible rfl
        try simp only [Act.put, List.setIfInBounds_toArray, List.set_cons_zero, List.set_cons_succ]
        refine wpAnyC_take (i := 2) (v := .slice A2 n2 c2) rfl (by kernel_rfl) (fun _ _ _ h => h) (Or.inl ⟨by rfl, ?y3⟩) hS ?r3
        case y3 => rintro wq ⟨c0, -⟩; go_simp; try with_reducible rfl
        try simp only [Act.put, List.setIfInBounds_toArray, List.set_cons_zero, List.set_cons_succ]
        refine wpAnyC_take (i := 3) (v := .pointer (some ⟨wo.heap.size, 0, none⟩)) rfl (by kernel_rfl) (fun _ _ _ h => h) (Or.inl ⟨by rfl, ?y4⟩) hS ?r4
        case y4 => intro wq _; go_simp; all_goals (first | with_reducible rfl | go_num | (simp; done) | (simp; omega) | skip)
        try simp only [Act.put, List.setIfInBounds_toArray, List.set_cons_zero, List.set_cons_succ]
        refine wpAnyC_take (i := 4) (v := .string x.name) rfl (by kernel_rfl) (fun _ _ _ h => h) (Or.inl ⟨by rfl, ?y5⟩) hS ?r5
        case y5 => rintro wq ⟨-, c0, -⟩; go_simp; try with_reducible rfl
        try simp only [Act.put, List.setIfInBounds_toArray, List.set_cons_zero, List.set_cons_succ]
        refine wpAnyC_two (i := 5) (j := 10) (by kernel_rfl) rfl rfl (fun K hK => ?_) (fun K hK => ?_)
        · go_simp
          go_at_call 13
          refine (HU.out _ (hbd)).mono ?_
          rintro e v2 ⟨A4, c4, rfl, hI, kk⟩
          have hb2 : Below v1.heap.size v1 v2 := (hbd).trans (kk.mono (hbd).size)
          clear kk
          have hS := HCC.out v2 hb2
          go_wp2_with fail
          refine hK.out _ _ ⟨hS, ?_⟩
          clear hK K
          try simp only [Act.put, List.setIfInBounds_toArray, List.set_cons_zero, List.set_cons_succ]
          refine wpAnyC_two (i := 6) (j := 10) (by kernel_rfl) rfl rfl (fun K hK => ?_) (fun K hK => ?_)
          · go_simp
            go_at_call 32
            refine (HCT.out _ _ _ (hb2) hI).mono ?_
            rintro e v3 ⟨A', n', c3, rfl, kk, hgl, hnl, hfr⟩
            have hb3 : Below v1.heap.size v1 v3 := (hb2).trans (kk.mono (hb2).size)
            clear kk
            have hS := HCC.out v3 hb3
            go_wp2_with fail
            refine hK.out _ _ ⟨hS, ?_⟩
            clear hK K
            try simp only [Act.put, List.setIfInBounds_toArray, List.set_cons_zero, List.set_cons_succ]
            refine wpAnyC_take (i := 7) (v := ?v6) rfl (by kernel_rfl) (fun _ _ _ h => h) (Or.inl ⟨by rfl, ?y6⟩) hS ?r6
            case y6 => intro wq _; go_simp; all_goals (first | with_reducible rfl | go_num | (simp; done) | (simp; omega) | skip)
            try simp only [Act.put, List.setIfInBounds_toArray, List.set_cons_zero, List.set_cons_succ]
            refine wpAnyC_take (i := 8) (v := ?v7) rfl (by kernel_rfl) (fun _ _ _ h => h) (Or.inl ⟨by rfl, ?y7⟩) hS ?r7
            case y7 => intro wq _; go_simp; all_goals (first | with_reducible rfl | go_num | (simp; done) | (simp; omega) | skip)
            try simp only [Act.put, List.setIfInBounds_toArray, List.set_cons_zero, List.set_cons_succ]
            refine wpAnyC_take (i := 9) (v := ?v8) rfl (by kernel_rfl) (fun _ _ _ h => h) (Or.inl ⟨by rfl, ?y8⟩) hS ?r8
            case y8 => intro wq _; go_simp; all_goals (first | with_reducible rfl | go_num | (simp; done) | (simp; omega) | skip)
            try simp only [Act.put, List.setIfInBounds_toArray, List.set_cons_zero, List.set_cons_succ]
            refine wpAnyC_one (j := 10) (by kernel_rfl) rfl (fun K hK => ?_)
            go_simp
            refine hK.out _ _ ⟨HCC.out _ (hb3.alloc hb3.size _), ?_⟩
            clear hK K
            try simp only [Act.put, List.setIfInBounds_toArray, List.set_cons_zero, List.set_cons_succ]
            refine wpAnyC_one (j := 11) (by kernel_rfl) rfl (fun K hK => ?_)
            go_simp
            have hb5 := hb3.alloc hb3.size (.cells #[.bool x.wd, .slice A' n' c3, .int .i64 0] 64)
            have hS := HCC.out _ hb5
            refine hK.out _ _ ⟨hS, ?_⟩
            clear hK K
            try simp only [Act.put, List.setIfInBounds_toArray, List.set_cons_zero, List.set_cons_succ]
            refine wpAnyC_take (i := 12) (v := ?v9) rfl (by kernel_rfl) (fun _ _ _ h => h) (Or.inl ⟨by rfl, ?y9⟩) hS ?r9
            case y9 => intro wq _; go_simp; all_goals (first | with_reducible rfl | go_num | (simp; done) | (simp; omega) | skip)
            try simp only [Act.put, List.setIfInBounds_toArray, List.set_cons_zero, List.set_cons_succ]
            refine wpAnyC_done (by kernel_rfl) ?_ _
            go_wp2_with fail
            go_meet
            exact ⟨v3.heap.size, A', n', c3, rfl, rfl, Lib.hid ⟨Whole.made _ _ _, hgl.below ((Below.refl _ _).alloc (Nat.le_refl _) _), hnl, hb5, fun R o e => Nat.le_trans hb2.size (hfr R o e)⟩⟩
          · go_simp
            have hbz := hb2.alloc hb2.size (.cells #[.bool false, .slice none 0 0, .int .i64 0] 64)
            have hZ0 := Whole.made v2 64 #[.bool false, .slice none 0 0, .int .i64 0]
            have hS := HCC.out _ hbz
            have hI2 := hI.below ((Below.refl v2.heap.size v2).alloc (Nat.le_refl _) (.cells #[.bool false, .slice none 0 0, .int .i64 0] 64))
            refine hK.out _ _ ⟨hS, ?_⟩
            clear hK K
            try simp only [Act.put, List.setIfInBounds_toArray, List.set_cons_zero, List.set_cons_succ]
            refine wpAnyC_one (j := 6) (by kernel_rfl) rfl (fun K hK => ?_)
            go_simp
            go_at_call 32
            refine (HCT.out _ _ _ (hbz) hI2).mono ?_
            rintro e v3 ⟨A', n', c3, rfl, kk, hgl, hnl, hfr⟩
            have hb4 : Below v1.heap.size v1 v3 := (hbz).trans (kk.mono (hbz).size)
            have hZ := hZ0.here kk
            clear kk
            have hS := HCC.out v3 hb4
            go_wp2_with fail
            refine hK.out _ _ ⟨hS, ?_⟩
            clear hK K
            try simp only [Act.put, List.setIfInBounds_toArray, List.set_cons_zero, List.set_cons_succ]
            refine wpAnyC_take (i := 7) (v := ?v10) rfl (by kernel_rfl) (fun _ _ _ h => h) (Or.inl ⟨by rfl, ?y10⟩) hS ?r10
            case y10 => intro wq _; go_simp; all_goals (first | with_reducible rfl | go_num | (simp; done) | (simp; omega) | skip)
            try simp only [Act.put, List.setIfInBounds_toArray, List.set_cons_zero, List.set_cons_succ]
            refine wpAnyC_take (i := 8) (v := ?v11) rfl (by kernel_rfl) (fun _ _ _ h => h) (Or.inl ⟨by rfl, ?y11⟩) hS ?r11
            case y11 => intro wq _; go_simp; all_goals (first | with_reducible rfl | go_num | (simp; done) | (simp; omega) | skip)
            try simp only [Act.put, List.setIfInBounds_toArray, List.set_cons_zero, List.set_cons_succ]
            refine wpAnyC_take (i := 9) (v := ?v12) rfl (by kernel_rfl) (fun _ _ _ h => h) (Or.inl ⟨by rfl, ?y12⟩) hS ?r12
            case y12 => intro wq _; go_simp; all_goals (first | with_reducible rfl | go_num | (simp; done) | (simp; omega) | skip)
            try simp only [Act.put, List.setIfInBounds_toArray, List.set_cons_zero, List.set_cons_succ]
            have rd := hZ.reads
            have ft := hZ.thawed
            have lz := hZ.lt
            refine wpAnyC_one (j := 11) (by kernel_rfl) rfl (fun K hK => ?_)
            go_simp
            have hb5 : Below v1.heap.size v1 (((v3.setCell ⟨v2.heap.size, 0, none⟩ (.bool x.wd)).setCell ⟨v2.heap.size, 1, none⟩ (.slice A' n' c3)).setCell ⟨v2.heap.size, 2, none⟩ (.int .i64 0)) := ((hb4.setCell hb2.size _).setCell hb2.size _).setCell hb2.size _
            have hS := HCC.out _ hb5
            refine hK.out _ _ ⟨hS, ?_⟩
            clear hK K
            try simp only [Act.put, List.setIfInBounds_toArray, List.set_cons_zero, List.set_cons_succ]
            refine wpAnyC_take (i := 12) (v := ?v16) rfl (by kernel_rfl) (fun _ _ _ h => h) (Or.inl ⟨by rfl, ?y16⟩) hS ?r16
            case y16 => intro wq _; go_simp; all_goals (first | with_reducible rfl | go_num | (simp; done) | (simp; omega) | skip)
            try simp only [Act.put, List.setIfInBounds_toArray, List.set_cons_zero, List.set_cons_succ]
            refine wpAnyC_done (by kernel_rfl) ?_ _
            go_wp2_with fail
            go_meet
            exact ⟨v2.heap.size, A', n', c3, rfl, rfl, Lib.hid ⟨hZ.setFont, glyphs_set3 hgl hZ, hnl, hb5, fun R o e => Nat.le_trans hbz.size (hfr R o e)⟩⟩
        · go_simp
          have hb1 : Below v1.heap.size v1 (v1.alloc (.cells #[.bool false, .slice none 0 0, .int .i64 0] 64)).drew := ((Below.refl v1.heap.size v1).alloc (Nat.le_refl _) _).drew
          have hZ0 := (Whole.made v1 64 #[.bool false, .slice none 0 0, .int .i64 0]).drawn1
          have hS := HCC.out _ hb1
          refine hK.out _ _ ⟨hS, ?_⟩
          clear hK K
          try simp only [Act.put, List.setIfInBounds_toArray, List.set_cons_zero, List.set_cons_succ]
          refine wpAnyC_one (j := 5) (by kernel_rfl) rfl (fun K hK => ?_)
          go_simp
          go_at_call 13
          refine (HU.out _ (hb1)).mono ?_
          rintro e v2 ⟨A4, c4, rfl, hI, kk⟩
          have hb2 : Below v1.heap.size v1 v2 := (hb1).trans (kk.mono (hb1).size)
          have hZ1 := hZ0.here kk
          clear kk
          have hS := HCC.out v2 hb2
          go_wp2_with fail
          refine hK.out _ _ ⟨hS, ?_⟩
          clear hK K
          try simp only [Act.put, List.setIfInBounds_toArray, List.set_cons_zero, List.set_cons_succ]
          refine wpAnyC_one (j := 6) (by kernel_rfl) rfl (fun K hK => ?_)
          go_simp
          go_at_call 32
          refine (HCT.out _ _ _ (hb2) hI).mono ?_
          rintro e v3 ⟨A', n', c3, rfl, kk, hgl, hnl, hfr⟩
          have hb4 : Below v1.heap.size v1 v3 := (hb2).trans (kk.mono (hb2).size)
          have hZ := hZ1.here kk
          clear kk
          have hS := HCC.out v3 hb4
          go_wp2_with fail
          refine hK.out _ _ ⟨hS, ?_⟩
          clear hK K
          try simp only [Act.put, List.setIfInBounds_toArray, List.set_cons_zero, List.set_cons_succ]
          refine wpAnyC_take (i := 7) (v := ?v13) rfl (by kernel_rfl) (fun _ _ _ h => h) (Or.inl ⟨by rfl, ?y13⟩) hS ?r13
          case y13 => intro wq _; go_simp; all_goals (first | with_reducible rfl | go_num | (simp; done) | (simp; omega) | skip)
          try simp only [Act.put, List.setIfInBounds_toArray, List.set_cons_zero, List.set_cons_succ]
          refine wpAnyC_take (i := 8) (v := ?v14) rfl (by kernel_rfl) (fun _ _ _ h => h) (Or.inl ⟨by rfl, ?y14⟩) hS ?r14
          case y14 => intro wq _; go_simp; all_goals (first | with_reducible rfl | go_num | (simp; done) | (simp; omega) | skip)
          try simp only [Act.put, List.setIfInBounds_toArray, List.set_cons_zero, List.set_cons_succ]
          refine wpAnyC_take (i := 9) (v := ?v15) rfl (by kernel_rfl) (fun _ _ _ h => h) (Or.inl ⟨by rfl, ?y15⟩) hS ?r15
          case y15 => intro wq _; go_simp; all_goals (first | with_reducible rfl | go_num | (simp; done) | (simp; omega) | skip)
          try simp only [Act.put, List.setIfInBounds_toArray, List.set_cons_zero, List.set_cons_succ]
          have rd := hZ.reads
          have ft := hZ.thawed
          have lz := hZ.lt
          refine wpAnyC_one (j := 11) (by kernel_rfl) rfl (fun K hK => ?_)
          go_simp
          have hb5 : Below v1.heap.size v1 (((v3.setCell ⟨v1.heap.size, 0, none⟩ (.bool x.wd)).setCell ⟨v1.heap.size, 1, none⟩ (.slice A' n' c3)).setCell ⟨v1.heap.size, 2, none⟩ (.int .i64 0)) := ((hb4.setCell (Nat.le_refl _) _).setCell (Nat.le_refl _) _).setCell (Nat.le_refl _) _
          have hS := HCC.out _ hb5
          refine hK.out _ _ ⟨hS, ?_⟩
          clear hK K
          try simp only [Act.put, List.setIfInBounds_toArray, List.set_cons_zero, List.set_cons_succ]
          refine wpAnyC_take (i := 12) (v := ?v17) rfl (by kernel_rfl) (fun _ _ _ h => h) (Or.inl ⟨by rfl, ?y17⟩) hS ?r17
          case y17 => intro wq _; go_simp; all_goals (first | with_reducible rfl | go_num | (simp; done) | (simp; omega) | skip)
          try simp only [Act.put, List.setIfInBounds_toArray, List.set_cons_zero, List.set_cons_succ]
          refine wpAnyC_done (by kernel_rfl) ?_ _
          go_wp2_with fail
          go_meet
          exact ⟨v1.heap.size, A', n', c3, rfl, rfl, Lib.hid ⟨hZ.setFont, glyphs_set3 hgl hZ, hnl, hb5, fun R o e => Nat.le_trans hb2.size (hfr R o e)⟩⟩
      case rest =>
        obtain ⟨P, A', n', c3, rfl, rfl, HX⟩ := hcut
        have f0 := HX.out.1.reads 0
        have f1 := HX.out.1.reads 1
        have f2 := HX.out.1.reads 2
        have lP := HX.out.1.lt
        have HOX := Lib.hid (own_below3 HOW.out HX.out.2.2.2.1)
        have hgx : g < wc.heap.size := Nat.lt_of_lt_of_le hgv HX.out.2.2.2.1.size
        have g1 : (0 : Int) ≤ (k : Int) := by omega
        have g2 : (k : Int) < (N : Int) := by omega
        go_wp2_with (refine wpList_store_own rfl _ _ _ rfl rfl g (k * 4 + 1) #[.bool x.wd, .slice A' n' c3, .int .i64 0] rfl rfl (szFont _ _ _) (fontAll _ _ _ _ _) w1.heap.size 66 4 N c' _ HOX.out ?p1 ?_)
        case p1 => show k * 4 + 1 + 3 ≤ N * 4; omega
        intro w5 hown5 hb5 hoth
        have HD := Lib.hid (And.intro hown5 (And.intro hb5 hoth))
        clear hown5 hb5 hoth f0 f1 f2 lP
        go_wp2_with fail
        go_roundw
        case rel =>
          have hm2 := HD.out.1
          refine ⟨k + 1, d ++ [⟨x.name, x.wd, ⟨A', n', c3⟩, 0, cutF l x⟩], by omega, by go_num, Lib.hid ⟨?_, ?_, ?_, ?_, ?_⟩⟩
          · rw [List.length_append, HR.out.1]; rfl
          · rw [List.map_append, HR.out.2.1, List.take_add_one, HCX.out.2.2, List.map_append]
            rfl
          · have hs1 := HBO.out.size
            have hs2 := HX.out.2.2.2.1.size
            have hs3 := HD.out.2.1.size
            have hs0 := HR.out.2.2.1.1
            refine ⟨by omega, fun y hy => ?_⟩
            rcases List.mem_append.1 hy with hy | hy
            · obtain ⟨q1, q2, q3⟩ := HR.out.2.2.1.2 y hy
              exact ⟨⟨q1.1, glyphs_moved ((q1.2.below HBO.out).below HX.out.2.2.2.1) hs3 (fun R o e => HD.out.2.2 R (by have := q3 R o e; omega))⟩, q2, q3⟩
            · rw [List.mem_singleton] at hy
              subst hy
              exact ⟨⟨HOK.out.1, glyphs_moved HX.out.2.1 hs3 (fun R o e => HD.out.2.2 R (by have := HX.out.2.2.2.2 R o e; omega))⟩, HX.out.2.2.1, fun R o e => by have := HX.out.2.2.2.2 R o e; omega⟩
          · have e := rowNm_put d x (F.drop (k + 1)) (.bool x.wd) (.slice A' n' c3) (.int .i64 0)
            rw [HR.out.1] at e
            rw [HCX.out.2.1] at hm2
            rw [List.append_assoc, List.singleton_append, rowNm_app, rowNm_cons]
            rw [List.append_assoc] at e
            refine Eq.mp ?_ hm2
            congr 1
          · exact (HR.out.2.2.2.2.trans ((HBO.out.trans (HX.out.2.2.2.1.mono HBO.out.size)).mono (by have := HR.out.2.2.2.2.size; omega))).trans HD.out.2.1
        case measure => simp [intOf]; omega
    · obtain rfl : k = N := by omega
      have d1 : decide ((k : Int) < (k : Int)) = false := by simp
      have hdl : F.drop k = [] := List.drop_eq_nil_of_le (by rw [HFN.out]; exact Nat.le_refl _)
      have htl : F.take k = F := List.take_of_length_le (by rw [HFN.out]; exact Nat.le_refl _)
      have hR := HR.out
      rw [hdl, htl, List.append_nil] at hR
      obtain ⟨hdlen, hkey, hok, hown, hbb⟩ := hR
      obtain ⟨A3, c3, e3, h3, -⟩ := RowAt.of_own (nmV_all d) (by decide) (show wr.ownsRow w1.heap.size 66 4 (.slice a' k c') k (d.map nmV).flatten from hown)
      injection e3 with e3 e4 e5
      subst e3 e5
      have HZ := Lib.hid (And.intro (show NmsAt wr a' k c' d from ⟨h3, fun x hx => (hok.2 x hx).1⟩) (And.intro (fun f hf => (hok.2 f hf).2.1) (And.intro (HB1.out.1.trans (hbb.mono HB1.out.1.size)) (show CutIs l fs d by unfold CutIs; rw [HFE.out]; exact hkey))))
      clear h3 hdl htl hdlen hkey hok hown hbb
      go_wp2_with fail
      go_ret2
      refine ⟨a', k, c', d, by rw [HKB.out.2]; rfl, HZ.out.1, HZ.out.2.1, HZ.out.2.2.1, ?_⟩
      rw [if_pos HKB.out.1]
      exact HZ.out.2.2.2
end Go.Proofs.YtdlmhienolmncaaGreat
