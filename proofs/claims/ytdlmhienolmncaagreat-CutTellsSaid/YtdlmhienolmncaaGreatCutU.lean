/- cut: which codes are used. -/
import Derived.Test.YtdlmhienolmncaaGreatCutD
import Derived.Test.YtdlmhienolmncaaGreatFontQ
import Derived.Test.YtdlmhienolmncaaGreatCutH
import Derived.Test.YtdlmhienolmncaaGreatCutS
import Derived.Test.YtdlmhienolmncaaGreatCutG
import Derived.Test.YtdlmhienolmncaaGreatRowA
import Derived.Test.YtdlmhienolmncaaGreatFontG
namespace Go.Proofs.YtdlmhienolmncaaGreat
open Go.RowKit Dec

theorem info_int : ∃ i, Tryz.prog.info? 3 = some i ∧ i.zero = some (.int .i64 0) ∧ i.size = 1 ∧ i.bytes = 8 := by
  have h := infoInt
  cases hi : Tryz.prog.info? 3 with
  | none => rw [hi] at h; cases h
  | some i =>
    rw [hi] at h
    injection h with h
    injection h with h1 h2
    injection h2 with h2 h3
    exact ⟨i, rfl, h1, h2, h3⟩
theorem usedL_step {l : List Mk} {name : ByteArray} {k : Nat} {x : Mk} (h : l[k]? = some x) : usedL (l.take (k + 1)) name = if usedB name x = true then usedL (l.take k) name ++ [x.code] else usedL (l.take k) name := by
  unfold usedL
  rw [filt_step (usedB name) h]
  split <;> simp
theorem usedL_len (l : List Mk) (name : ByteArray) : (usedL l name).length ≤ l.length := by
  unfold usedL
  rw [List.length_map]
  exact List.length_filter_le _ _
def usedS (l : List Mk) (name : ByteArray) : List Int := sdl (usedL l name)
set_option maxRecDepth 100000 in
set_option maxHeartbeats 8000000 in
theorem used_any (A : Option Addr) (n c : Nat) (l : List Mk) (name : ByteArray) (w : World) (h : MarksAt w A n c l) (hn : n ≤ 1000000) :
    Calls Tryz.prog 13 #[.slice A n c, .string name] w fun e w' => ∃ A' c', e = .returned (.slice A' (usedS l name).length c') ∧ IntsAt w' A' (usedS l name).length c' (usedS l name) ∧ Below w.heap.size w w' := by
  have hcap := h.row.cap
  have htop := h.row.top
  have HL := Lib.hid h.len
  have H1 := Lib.hid h
  clear h
  go_enter Tryz.func13, Tryz.ntmps13
  go_wp2_with fail
  go_loopw [5, 10] (fun v i wr => ∃ k : Nat, i = .int .i64 (k : Int) ∧ k ≤ n ∧ Hid (wr.ownsRow w.heap.size 3 1 v (usedL (l.take k) name).length (ivs (usedL (l.take k) name))) ∧ Hid (Below w.heap.size w wr)) (fun _ i _ => n - (intOf i).toNat)
  case atStart => exact ⟨0, rfl, by omega, Lib.hid (World.ownsRow_nil _ _ _ _), Lib.hid (Below.refl _ _)⟩
  case round =>
    obtain ⟨k, rfl, hk, HR, HB⟩ := hrel
    obtain ⟨a0, cc, rfl⟩ := own_slM HR.out
    by_cases hlt : k < n
    · have d1 : decide ((k : Int) < (n : Int)) = true := decide_eq_true (by omega)
      obtain ⟨x, hx⟩ : ∃ x, l[k]? = some x := ⟨_, List.getElem?_eq_getElem (by rw [HL.out]; exact hlt)⟩
      obtain ⟨R, o, rfl, hR, hc, -⟩ := (H1.out.below HB.out).get hx
      have HA := Lib.hid (show ∀ (j : Nat) (u : Value), (mkA x).toList[j]? = some u → wr.cell? ⟨R, o + k * 25 + j, none⟩ = some u from hc)
      have HS := Lib.hid (usedL_step (name := name) hx)
      obtain ⟨w1, hw1⟩ : ∃ w1, wr.alloc (.cells (mkA x) 55) = w1 := ⟨_, rfl⟩
      have hb0 : Below wr.heap.size wr w1 := by rw [← hw1]; exact (Below.refl _ _).alloc (Nat.le_refl _) _
      have hW1 : Whole w1 wr.heap.size 55 (mkA x) := by rw [← hw1]; exact Whole.made _ _ _
      have hs1 := hb0.size
      have HO1 := Lib.hid (And.intro (own_below3 HR.out hb0) (HB.out.trans (hb0.mono HB.out.size)))
      have hsw := HO1.out.2.size
      have HW1 := Lib.hid hw1
      have k0 : w1.cell? ⟨wr.heap.size, 0, none⟩ = some (.int .i64 x.kind) := hW1.reads 0
      have k13 : w1.cell? ⟨wr.heap.size, 13, none⟩ = some (.string x.name) := hW1.reads 13
      have k14 : w1.cell? ⟨wr.heap.size, 14, none⟩ = some (.int .i64 x.code) := hW1.reads 14
      have l1 := hW1.lt
      have hkl : (usedL (l.take k) name).length ≤ 1000000 := Nat.le_trans (usedL_len _ _) (by rw [List.length_take]; omega)
      have HU := Lib.hid (show usedB name x = (decide (x.kind = 1) && decide (x.name = name)) from rfl)
      obtain ⟨kd, hkd⟩ : ∃ kd, x.kind = kd := ⟨_, rfl⟩
      obtain ⟨nm, hnm⟩ : ∃ nm, x.name = nm := ⟨_, rfl⟩
      rw [hkd] at k0 HU
      rw [hnm] at k13 HU
      clear hc hx hw1 hW1 hb0 hkd hnm
      by_cases hg : kd = 1
      · by_cases he : nm = name
        · have d2 := str_eq he
          have HT := Lib.hid (show usedB name x = true by rw [HU.out, decide_eq_true hg, decide_eq_true he]; rfl)
          subst hg
          clear he
          obtain ⟨i0, hi, hz0, hz1, hz2⟩ := info_int
          go_wp2_with (first
            | (refine wpList_load_at rfl _ _ rfl R (o + k * 25) rfl (mkA x) _ HA.out Tryz.underlying55 rfl (szMk x) ?_)
            | (refine wpList_store_let rfl _ _ _ rfl rfl _ _ (mkA x) HW1.out rfl rfl (szMk x) rfl (mkA_one x) ?_)
            | (at_builtin; refine wpList_append_own _ rfl _ _ 34 rfl w.heap.size 3 i0 (.int .i64 0) 1 8 Tryz.underlying34 hi hz0 hz1 hz2 rfl (by decide) _ _ _ rfl (HO1.out.1.alloc _) ⟨w1.heap.size, 0, none⟩ 1 1 [.int .i64 x.code] rfl rfl (World.news_of_block (cs := #[.int .i64 x.code]) (t := 3) (fr := (0, 0)) (heap_alloc_new _ _)) ?p1 ?p2 ?p3 ?p4 ?_))
          case p1 => simp [Value.oneCell']
          case p2 => unfold maxLen; omega
          case p3 => omega
          case p4 => first | omega | (simp; omega)
          intro v' w5 hown' hgrow _
          have hb5 := (HO1.out.2.alloc HO1.out.2.size (.cells #[.int .i64 x.code] 3)).grown hgrow (by simp; omega) (fun j e => (own_lt HO1.out.1 e).1)
          have hown2 : w5.ownsRow w.heap.size 3 1 v' (usedL (l.take k) name ++ [x.code]).length (ivs (usedL (l.take k) name ++ [x.code])) := by rw [ivs_append, List.length_append]; exact hown'
          have HOB5 := Lib.hid (And.intro hown2 hb5)
          clear hown' hgrow hown2 hb5 k0 k13 k14 l1
          go_wp2_with fail
          go_roundw
          case rel => exact ⟨k + 1, by go_num, by omega, Lib.hid (by rw [HS.out, HT.out]; exact HOB5.out.1), Lib.hid HOB5.out.2⟩
          case measure => simp [intOf]; omega
        · have d2 := str_ne he
          have HT := Lib.hid (show usedB name x = false by rw [HU.out, decide_eq_false he, Bool.and_false])
          subst hg
          clear he
          go_wp2_with (first
            | (refine wpList_load_at rfl _ _ rfl R (o + k * 25) rfl (mkA x) _ HA.out Tryz.underlying55 rfl (szMk x) ?_)
            | (refine wpList_store_let rfl _ _ _ rfl rfl _ _ (mkA x) HW1.out rfl rfl (szMk x) rfl (mkA_one x) ?_))
          go_roundw
          case rel => exact ⟨k + 1, by go_num, by omega, Lib.hid (by rw [HS.out, HT.out]; exact HO1.out.1), Lib.hid HO1.out.2⟩
          case measure => simp [intOf]; omega
      · have d2 : (kd == 1) = false := by simp [hg]
        have HT := Lib.hid (show usedB name x = false by rw [HU.out, decide_eq_false hg, Bool.false_and])
        clear hg
        go_wp2_with (first
          | (refine wpList_load_at rfl _ _ rfl R (o + k * 25) rfl (mkA x) _ HA.out Tryz.underlying55 rfl (szMk x) ?_)
          | (refine wpList_store_let rfl _ _ _ rfl rfl _ _ (mkA x) HW1.out rfl rfl (szMk x) rfl (mkA_one x) ?_))
        go_roundw
        case rel => exact ⟨k + 1, by go_num, by omega, Lib.hid (by rw [HS.out, HT.out]; exact HO1.out.1), Lib.hid HO1.out.2⟩
        case measure => simp [intOf]; omega
    · obtain rfl : k = n := by omega
      have d1 : decide ((k : Int) < (k : Int)) = false := by simp
      rw [List.take_of_length_le (by rw [HL.out]; exact Nat.le_refl _)] at HR ⊢
      have hul : (usedL l name).length ≤ 1000000 := Nat.le_trans (usedL_len _ _) (by rw [HL.out]; exact hn)
      have HUL := Lib.hid hul
      clear hul
      go_wp2_with fail
      refine (sort_own w.heap.size (usedL l name).length _ (usedL l name) wr HR.out HB.out.size HUL.out).mono ?_
      rintro e w2 ⟨rfl, hown, hb⟩
      have HB2 := Lib.hid (HB.out.trans hb)
      have HO2 := Lib.hid hown
      clear hown hb
      go_wp2_with fail
      refine (compact_own w.heap.size (usedL l name).length _ _ w2 HO2.out HB2.out.size HUL.out).mono ?_
      rintro e w3 ⟨A3, c3, rfl, hi, hb, -⟩
      have HZ := Lib.hid (And.intro hi (HB2.out.trans hb))
      clear hi hb
      go_wp2_with fail
      go_ret
      exact ⟨A3, c3, rfl, HZ.out.1, HZ.out.2⟩
end Go.Proofs.YtdlmhienolmncaaGreat
/- cut: rows of boxes, of ints that are alike; the examples' boxes. -/
namespace Go.Proofs.YtdlmhienolmncaaGreat
open Go.RowKit Dec

def whB (x0 y0 x1 y1 : Int) : BV := ⟨⟨x0, 0⟩, ⟨y0, 0⟩, ⟨x1, 0⟩, ⟨y1, 0⟩⟩
theorem results_whole (tmps : Array Value) (w : World) (g : Nat) (b : BV) (hp : tmps.getD 8 undef = .pointer (some ⟨g, 0, none⟩)) (h : (w.cell? ⟨g, 0, none⟩ = some (.int .i64 b.x0.m) ∧ w.cell? ⟨g, 1, none⟩ = some (.int .i64 b.x0.s) ∧ w.cell? ⟨g, 2, none⟩ = some (.int .i64 b.y0.m) ∧ w.cell? ⟨g, 3, none⟩ = some (.int .i64 b.y0.s) ∧ w.cell? ⟨g, 4, none⟩ = some (.int .i64 b.x1.m) ∧ w.cell? ⟨g, 5, none⟩ = some (.int .i64 b.x1.s) ∧ w.cell? ⟨g, 6, none⟩ = some (.int .i64 b.y1.m) ∧ w.cell? ⟨g, 7, none⟩ = some (.int .i64 b.y1.s))) :
    (results Tryz.f35 tmps).run Tryz.prog w = .ok (.agg #[.int .i64 b.x0.m, .int .i64 b.x0.s, .int .i64 b.y0.m, .int .i64 b.y0.s, .int .i64 b.x1.m, .int .i64 b.x1.s, .int .i64 b.y1.m, .int .i64 b.y1.s]) w := by
  have hp' : tmps[8]?.getD undef = .pointer (some ⟨g, 0, none⟩) := by simpa using hp
  obtain ⟨h0, h1, h2, h3, h4, h5, h6, h7⟩ := h
  simp [results, Tryz.results35, hp', asAddr, go_sem, h0, h1, h2, h3, h4, h5, h6, h7]
set_option maxRecDepth 100000 in
theorem whole_any (x0 y0 x1 y1 : Int) (w : World) : Calls Tryz.prog 35 #[.int .i64 x0, .int .i64 y0, .int .i64 x1, .int .i64 y1] w fun e w' => e = .returned (.agg #[.int .i64 (whB x0 y0 x1 y1).x0.m, .int .i64 (whB x0 y0 x1 y1).x0.s, .int .i64 (whB x0 y0 x1 y1).y0.m, .int .i64 (whB x0 y0 x1 y1).y0.s, .int .i64 (whB x0 y0 x1 y1).x1.m, .int .i64 (whB x0 y0 x1 y1).x1.s, .int .i64 (whB x0 y0 x1 y1).y1.m, .int .i64 (whB x0 y0 x1 y1).y1.s]) ∧ Below w.heap.size w w' := by
  go_enter Tryz.func35, Tryz.ntmps35
  go_wp2_with fail
  refine bodyPost_ret (v := .agg #[.int .i64 (whB x0 y0 x1 y1).x0.m, .int .i64 (whB x0 y0 x1 y1).x0.s, .int .i64 (whB x0 y0 x1 y1).y0.m, .int .i64 (whB x0 y0 x1 y1).y0.s, .int .i64 (whB x0 y0 x1 y1).x1.m, .int .i64 (whB x0 y0 x1 y1).x1.s, .int .i64 (whB x0 y0 x1 y1).y1.m, .int .i64 (whB x0 y0 x1 y1).y1.s]) (results_whole _ _ w.heap.size (whB x0 y0 x1 y1) rfl ?_) rfl ⟨rfl, ?_⟩
  · exact (bxw_facts (Whole.made w 49 #[.int .i64 (whB x0 y0 x1 y1).x0.m, .int .i64 (whB x0 y0 x1 y1).x0.s, .int .i64 (whB x0 y0 x1 y1).y0.m, .int .i64 (whB x0 y0 x1 y1).y0.s, .int .i64 (whB x0 y0 x1 y1).x1.m, .int .i64 (whB x0 y0 x1 y1).x1.s, .int .i64 (whB x0 y0 x1 y1).y1.m, .int .i64 (whB x0 y0 x1 y1).y1.s])).1
  · exact (Below.refl _ _).alloc (Nat.le_refl _) _
set_option maxRecDepth 100000 in
set_option maxHeartbeats 4000000 in
theorem boxes_same (A : Option Addr) (n c : Nat) (A2 : Option Addr) (c2 : Nat) (l : List BV) (w : World) (h : BxsAt w A n c l) (h2 : BxsAt w A2 n c2 l) :
    Calls Tryz.prog 20 #[.slice A n c, .slice A2 n c2] w (BoolTrue w) := by
  have hcap := RowAt.cap h
  have htop := RowAt.top h
  have hcap2 := RowAt.cap h2
  have htop2 := RowAt.top h2
  have HL := Lib.hid h.len
  have H := Lib.hid (And.intro h h2)
  clear h h2
  go_enter Tryz.func20, Tryz.ntmps20
  go_wp2_with fail
  go_loopw [5] (fun s5 wr => ∃ (i : Nat), i ≤ n ∧ s5 = .int .i64 (i : Int) ∧ Hid (Below w.heap.size w wr)) (fun s5 _ => n - (intOf s5).toNat)
  case atStart => exact ⟨0, by omega, rfl, Lib.hid (Below.refl _ _)⟩
  case round =>
    obtain ⟨i, hi, rfl, HB⟩ := hrel
    by_cases hlt : i < n
    · have d1 : decide ((i : Int) < (n : Int)) = true := decide_eq_true (by omega)
      obtain ⟨b, hb⟩ : ∃ b, l[i]? = some b := ⟨_, List.getElem?_eq_getElem (by rw [HL.out]; exact hlt)⟩
      obtain ⟨R, o, rfl, hR, c0, c1, c3, c4, c5, c6, c7, c8⟩ := (H.out.1.below HB.out).get hb
      obtain ⟨R2, o2, rfl, hR2, k0, k1, k3, k4, k5, k6, k7, k8⟩ := (H.out.2.below HB.out).get hb
      have b2 : (0 : Int) ≤ (i : Int) := by omega
      have b3 : (i : Int) < (n : Int) := by omega
      have heb := fun w => eq_box b w
      clear hb
      go_wp2_with fail
      go_quiet (fail)
      all_goals
        go_wp2_with fail
        go_roundw
        case rel => exact ⟨i + 1, by omega, by go_num, Lib.hid (below_drewN HB.out _)⟩
        case measure => simp [intOf]; omega
    · obtain rfl : i = n := by omega
      have d1 : decide ((i : Int) < (i : Int)) = false := by simp
      go_wp2_with fail
      go_ret
      exact ⟨rfl, HB.out⟩
end Go.Proofs.YtdlmhienolmncaaGreat
/- cut: the document's examples: pure. -/
namespace Go.Proofs.YtdlmhienolmncaaGreat
open Go.RowKit Dec

def zMat : MV := ⟨.zero, .zero, .zero, .zero, .zero, .zero⟩
def exF : ByteArray := ⟨#[70]⟩
def exM (code x0 x1 : Int) : Mk := ⟨1, zMat, exF, code, ⟨none, 0, 0⟩, ⟨none, 0, 0⟩, whB x0 0 x1 1⟩
def exGs : List Gl := [⟨65, 0, ⟨#[0, 65]⟩⟩, ⟨66, 0, ⟨#[0, 66]⟩⟩]
def exN (g : Nat) : Nm := ⟨exF, false, ⟨some ⟨g, 0, none⟩, 2, 2⟩, 0, exGs⟩
def exL : List Mk := [exM 65 0 1, exM 66 2 3]
def exAB : ByteArray := ⟨#[65, 66]⟩
theorem ex_cutB : cutB exL [whB 0 0 1 1] = true := by kernel_rfl
theorem ex_cut : cutL exL [whB 0 0 1 1] = [exM 66 2 3] ∧ cutE exL [whB 0 0 1 1] = 0 := by
  refine ⟨?_, cutE_ok ex_cutB⟩
  rw [cutL_ok ex_cutB]
  kernel_rfl
theorem ex_used : usedS [exM 66 2 3] exF = [66] := by
  have h : usedL [exM 66 2 3] exF = [66] := by kernel_rfl
  unfold usedS
  rw [h]
  exact sdl_self (by simp)
theorem ex_known (g : Nat) : knownB [exN g] exL = true := by kernel_rfl
theorem ex_tx (g : Nat) : exL.all (txB [exN g]) = true := by kernel_rfl
theorem ex_read (g : Nat) : readE [exN g] exL = 0 := (read_ok (ex_known g) (ex_tx g)).1
theorem ex_text (g : Nat) : textR [exN g] exL = [65, 66] := by
  unfold textR
  rw [if_pos (ex_read g)]
  kernel_rfl
theorem ex_find (g : Nat) : findL [exN g] exL exAB = [whB 0 0 3 1] ∧ findE [exN g] exL exAB = 0 := by
  have h : findO [exN g] exL exAB = some [whB 0 0 3 1] := by kernel_rfl
  unfold findL findE
  have hz : ¬ exAB.size = 0 := by decide
  rw [if_neg hz, if_neg hz, if_pos (ex_read g), if_pos (ex_read g), h]
  exact ⟨rfl, rfl⟩
end Go.Proofs.YtdlmhienolmncaaGreat
/- cut: the document's examples, walked. -/
namespace Go.Proofs.YtdlmhienolmncaaGreat
open Go.RowKit Dec

theorem ops_nil (w : World) : OpsAt w none 0 0 [] := ⟨[], RowAt.none _ _, rfl, fun i x cs hx => by simp at hx⟩
theorem exM_ok (code x0 x1 : Int) (w : World) : MkOk w (exM code x0 x1) := ⟨by show (1 : Nat) ≤ 9223372036854775807; omega, ⟨[], ops_nil w⟩, [], ops_nil w⟩
theorem marks_two {w : World} {g : Nat} (a b : Mk) (h : Whole w g 55 (mkA a ++ mkA b)) (ha : MkOk w a) (hb : MkOk w b) : MarksAt w (some ⟨g, 0, none⟩) 2 2 [a, b] := by
  refine ⟨⟨rfl, by omega, by omega, fun _ => ⟨g, 0, rfl, h.lt, fun i cs hi j u hu => ?_⟩⟩, fun x hx => ?_⟩
  · rw [h.reads, Nat.zero_add]
    match i, hi with
    | 0, hi =>
      simp at hi
      subst hi
      have hj : j < 25 := (List.getElem?_eq_some_iff.1 hu).1
      rw [Nat.zero_mul, Nat.zero_add, Array.getElem?_append_left (by rw [mkA_size]; exact hj), ← Array.getElem?_toList]
      exact hu
    | 1, hi =>
      simp at hi
      subst hi
      rw [Array.getElem?_append_right (by rw [mkA_size]; omega), mkA_size, show 1 * 25 + j - 25 = j by omega, ← Array.getElem?_toList]
      exact hu
    | i + 2, hi => simp at hi
  · simp at hx
    rcases hx with rfl | rfl
    · exact ha
    · exact hb
theorem boxes_one {w : World} {g : Nat} {b : BV} (h : Whole w g 49 #[.int .i64 b.x0.m, .int .i64 b.x0.s, .int .i64 b.y0.m, .int .i64 b.y0.s, .int .i64 b.x1.m, .int .i64 b.x1.s, .int .i64 b.y1.m, .int .i64 b.y1.s]) : BxsAt w (some ⟨g, 0, none⟩) 1 1 [b] :=
  ⟨rfl, by omega, by omega, fun _ => ⟨g, 0, rfl, h.lt, fun i cs hi j u hu => by
    match i, hi with
    | 0, hi =>
      simp at hi
      subst hi
      rw [h.reads, show 0 + 0 * 8 + j = j by omega, ← Array.getElem?_toList]
      exact hu
    | i + 1, hi => simp at hi⟩⟩
theorem ints_one {w : World} {g : Nat} {a : Int} (h : Whole w g 3 #[.int .i64 a]) : IntsAt w (some ⟨g, 0, none⟩) 1 1 [a] :=
  ⟨rfl, by omega, by omega, fun _ => ⟨g, 0, rfl, h.lt, fun i x hx => by
    rw [h.reads]
    match i, hx with
    | 0, hx => simp at hx; subst hx; rfl
    | i + 1, hx => simp at hx⟩⟩
theorem exN_at {w : World} {g q : Nat} (h : Whole w g 73 #[.int .i64 65, .int .i64 0, .string ⟨#[0, 65]⟩, .int .i64 66, .int .i64 0, .string ⟨#[0, 66]⟩]) (hq : Whole w q 66 #[.string exF, .bool false, .slice (some ⟨g, 0, none⟩) 2 2, .int .i64 0]) : NmsAt w (some ⟨q, 0, none⟩) 1 1 [exN g] := by
  refine ⟨⟨rfl, by omega, by omega, fun _ => ⟨q, 0, rfl, hq.lt, fun i cs hi j u hu => ?_⟩⟩, fun x hx => ?_⟩
  · match i, hi with
    | 0, hi =>
      simp at hi
      subst hi
      rw [hq.reads, show 0 + 0 * 4 + j = j by omega, ← Array.getElem?_toList]
      exact hu
    | i + 1, hi => simp at hi
  · simp at hx
    subst hx
    refine ⟨by show (1 : Nat) ≤ 9223372036854775807; omega, rfl, by show (2 : Nat) ≤ 2; omega, by show (2 : Nat) ≤ _; omega, fun g hg => ?_, fun _ => ⟨g, 0, rfl, h.lt, fun i x hx => ?_⟩⟩
    · have hg2 : g = ⟨65, 0, ⟨#[0, 65]⟩⟩ ∨ g = ⟨66, 0, ⟨#[0, 66]⟩⟩ := by simpa [exN, exGs] using hg
      rcases hg2 with rfl | rfl <;> (show (2 : Nat) ≤ _; omega)
    · rw [h.reads, h.reads, h.reads]
      match i, hx with
      | 0, hx => cases hx; exact ⟨rfl, rfl, rfl⟩
      | 1, hx => cases hx; exact ⟨rfl, rfl, rfl⟩
      | i + 2, hx => simp [exN, exGs] at hx
set_option maxRecDepth 100000 in
set_option maxHeartbeats 8000000 in
theorem awake23 (w : World) (hM : MX w) : Calls Tryz.prog 10 #[] w (BoolTrue w) := by
  obtain ⟨i0, hi, hz0, hz1, hz2⟩ := info_mk
  have HMX := Lib.hid hM
  clear hM
  go_enter Tryz.func10, Tryz.ntmps10
  go_wp2_with fail
  refine (whole_any 0 0 1 1 _).mono ?_
  rintro e w1 ⟨rfl, hb⟩
  have HB1 := Lib.hid hb
  clear hb
  go_wp2_with (first
    | (refine wpList_buildTo rfl 55 _ rfl _ rfl (mkA (exM 65 0 1)) (by kernel_rfl) ?_))
  refine (whole_any 2 0 3 1 _).mono ?_
  rintro e w2 ⟨rfl, hb⟩
  have HB2 := Lib.hid (HB1.out.trans (hb.mono HB1.out.size))
  clear hb
  obtain ⟨w3, hw3⟩ : ∃ w3, w2.alloc (.cells (mkA (exM 65 0 1) ++ mkA (exM 66 2 3)) 55) = w3 := ⟨_, rfl⟩
  have hb3 : Below w2.heap.size w2 w3 := by rw [← hw3]; exact (Below.refl _ _).alloc (Nat.le_refl _) _
  have hW3 : Whole w3 w2.heap.size 55 (mkA (exM 65 0 1) ++ mkA (exM 66 2 3)) := by rw [← hw3]; exact Whole.made _ _ _
  have HB3 := Lib.hid (HB2.out.trans (hb3.mono HB2.out.size))
  have HM3 := Lib.hid (show MarksAt w3 (some ⟨w2.heap.size, 0, none⟩) 2 2 exL from marks_two _ _ hW3 (exM_ok _ _ _ _) (exM_ok _ _ _ _))
  have HW3 := Lib.hid hw3
  clear hb3 hW3 hw3
  go_wp2_with (first
    | (refine wpList_buildTo rfl 55 _ rfl _ rfl (mkA (exM 66 2 3)) (by kernel_rfl) ?_)
    | (refine wpList_build_two rfl 22 55 _ _ rfl (mkA (exM 65 0 1)) (mkA (exM 66 2 3)) i0 _ 25 rfl rfl (mkA_size _) (mkA_size _) HW3.out Tryz.underlying22 hi hz0 hz1 (by decide) (by decide) ?_))
  have hg4 := (Whole.made w3 73 #[.int .i64 65, .int .i64 0, .string ⟨#[0, 65]⟩, .int .i64 66, .int .i64 0, .string ⟨#[0, 66]⟩]).old (.cells #[.string exF, .bool false, .slice (some ⟨w3.heap.size, 0, none⟩) 2 2, .int .i64 0] 66)
  have hn4 := Whole.made (w3.alloc (.cells #[.int .i64 65, .int .i64 0, .string ⟨#[0, 65]⟩, .int .i64 66, .int .i64 0, .string ⟨#[0, 66]⟩] 73)) 66 #[.string exF, .bool false, .slice (some ⟨w3.heap.size, 0, none⟩) 2 2, .int .i64 0]
  simp only [World.size_alloc] at hn4
  have hb4 : Below w3.heap.size w3 ((w3.alloc (.cells #[.int .i64 65, .int .i64 0, .string ⟨#[0, 65]⟩, .int .i64 66, .int .i64 0, .string ⟨#[0, 66]⟩] 73)).alloc (.cells #[.string exF, .bool false, .slice (some ⟨w3.heap.size, 0, none⟩) 2 2, .int .i64 0] 66)) := by (repeat (first | with_reducible exact Below.refl _ _ | with_reducible refine Below.drew ?_ | with_reducible refine bdrewN ?_ _ | (with_reducible refine Below.setCell ?_ ?_ _; rotate_left; focus (first | exact Nat.le_refl _ | omega | (simp; omega) | (simp; done))) | (with_reducible refine Below.alloc ?_ ?_ _; rotate_left; focus (first | exact Nat.le_refl _ | omega | (simp; omega) | (simp; done))) | (with_reducible refine Below.trans ?_ (Below.mono (by assumption) ?_); rotate_left; focus (first | exact Nat.le_refl _ | omega | (simp; omega) | (simp; done)))))
  have HN4 := Lib.hid (exN_at hg4 hn4)
  have HM4 := Lib.hid (HM3.out.below hb4)
  have HB4 := Lib.hid (HB3.out.trans (hb4.mono HB3.out.size))
  clear hg4 hn4 hb4
  obtain ⟨g, hg⟩ : ∃ g, w3.heap.size = g := ⟨_, rfl⟩
  rw [hg] at HN4 ⊢
  obtain ⟨w4, hw4⟩ : ∃ w4, ((w3.alloc (.cells #[.int .i64 65, .int .i64 0, .string ⟨#[0, 65]⟩, .int .i64 66, .int .i64 0, .string ⟨#[0, 66]⟩] 73)).alloc (.cells #[.string exF, .bool false, .slice (some ⟨g, 0, none⟩) 2 2, .int .i64 0] 66)) = w4 := ⟨_, rfl⟩
  rw [hg] at HM4 HB4
  rw [hw4] at HN4 HM4 HB4
  change Calls _ _ _ _ _
  rw [show ((w3.alloc (.cells #[.int .i64 65, .int .i64 0, .string ⟨#[0, 65]⟩, .int .i64 66, .int .i64 0, .string ⟨#[0, 66]⟩] 73)).alloc (.cells #[.string ⟨#[70]⟩, .bool false, .slice (some ⟨g, 0, none⟩) 2 2, .int .i64 0] 66)) = w4 from hw4]
  clear hw4 hg
  refine (whole_any 0 0 1 1 _).mono ?_
  rintro e w5 ⟨rfl, hb⟩
  have hb6 := hb.trans (((Below.refl w5.heap.size w5).alloc (Nat.le_refl _) (.cells #[.int .i64 (whB 0 0 1 1).x0.m, .int .i64 (whB 0 0 1 1).x0.s, .int .i64 (whB 0 0 1 1).y0.m, .int .i64 (whB 0 0 1 1).y0.s, .int .i64 (whB 0 0 1 1).x1.m, .int .i64 (whB 0 0 1 1).x1.s, .int .i64 (whB 0 0 1 1).y1.m, .int .i64 (whB 0 0 1 1).y1.s] 49)).mono hb.size)
  have H6 := Lib.hid (And.intro (HM4.out.below hb6) (And.intro (HN4.out.below hb6) (And.intro (HB4.out.trans (hb6.mono HB4.out.size)) (boxes_one (Whole.made w5 49 #[.int .i64 (whB 0 0 1 1).x0.m, .int .i64 (whB 0 0 1 1).x0.s, .int .i64 (whB 0 0 1 1).y0.m, .int .i64 (whB 0 0 1 1).y0.s, .int .i64 (whB 0 0 1 1).x1.m, .int .i64 (whB 0 0 1 1).x1.s, .int .i64 (whB 0 0 1 1).y1.m, .int .i64 (whB 0 0 1 1).y1.s])))))
  clear hb hb6 HM4 HN4 HB4
  have HC := Lib.hid (cutM_any exL [whB 0 0 1 1] _ 2 2 _ 1 1 _ H6.out.1 (by omega) H6.out.2.2.2 (by omega))
  unfold CutSaidM at HC
  rw [ex_cut.1, ex_cut.2] at HC
  go_wp2_with fail
  refine HC.out.mono ?_
  rintro e w7 ⟨A7, c7, rfl, hm7, hb⟩
  have H7 := Lib.hid (And.intro (H6.out.1.below hb) (And.intro (H6.out.2.1.below hb) (And.intro (H6.out.2.2.1.trans (hb.mono H6.out.2.2.1.size)) hm7)))
  clear hb hm7 H6
  have HF := Lib.hid (show Calls Tryz.prog 18 #[.slice (some ⟨w2.heap.size, 0, none⟩) 2 2, .slice (some ⟨g + 1, 0, none⟩) 1 1, .string ⟨#[65, 66]⟩] w7 (FindSaid [exN g] exL exAB w7) from findC_any _ 2 2 exL _ 1 1 [exN g] exAB w7 H7.out.1 (by omega) H7.out.2.1 (fun f hf => by simp at hf; subst hf; show (2 : Nat) ≤ _; omega) (by show (2 : Nat) ≤ _; omega) (HMX.out.later H7.out.2.2.1))
  unfold FindSaid at HF
  rw [(ex_find g).1, (ex_find g).2] at HF
  go_wp2_with fail
  refine HF.out.mono ?_
  rintro e w8 ⟨A8, c8, rfl, hm8, hb⟩
  have H8 := Lib.hid (And.intro (H7.out.1.below hb) (And.intro (H7.out.2.1.below hb) (And.intro (H7.out.2.2.1.trans (hb.mono H7.out.2.2.1.size)) (And.intro (H7.out.2.2.2.below hb) hm8))))
  clear hb hm8 H7
  have HT := Lib.hid (textC_any _ 2 2 exL _ 1 1 [exN g] w8 H8.out.1 (by omega) H8.out.2.1 (fun f hf => by simp at hf; subst hf; show (2 : Nat) ≤ _; omega))
  rw [ex_text g, ex_read g] at HT
  go_wp2_with fail
  refine HT.out.mono ?_
  rintro e w9 ⟨rfl, hb⟩
  have H9 := Lib.hid (And.intro (H8.out.2.2.1.trans (hb.mono H8.out.2.2.1.size)) (And.intro (H8.out.2.2.2.1.below hb) (H8.out.2.2.2.2.below hb)))
  clear hb H8
  have HU := Lib.hid (show Calls Tryz.prog 13 #[.slice A7 1 c7, .string ⟨#[70]⟩] w9 fun e w' => ∃ A' c', e = .returned (.slice A' 1 c') ∧ IntsAt w' A' 1 c' [66] ∧ Below w9.heap.size w9 w' by
    have := used_any A7 1 c7 [exM 66 2 3] exF w9 H9.out.2.1 (by omega)
    rw [ex_used] at this
    exact this)
  have et : ((⟨[65, 66].toArray⟩ : ByteArray).toList == (⟨#[65, 66]⟩ : ByteArray).toList) = true := by rw [beq_iff_eq]
  go_wp2_with fail
  refine HU.out.mono ?_
  rintro e w10 ⟨A10, c10, rfl, hi10, hb⟩
  have hb11 := hb.trans (((Below.refl w10.heap.size w10).alloc (Nat.le_refl _) (.cells #[.int .i64 66] 3)).mono hb.size)
  have H10 := Lib.hid (And.intro (H9.out.1.trans (hb11.mono H9.out.1.size)) (And.intro (hi10.below ((Below.refl w10.heap.size w10).alloc (Nat.le_refl _) (.cells #[.int .i64 66] 3))) (And.intro (H9.out.2.2.below hb11) (ints_one (Whole.made w10 3 #[.int .i64 66])))))
  clear hb hb11 hi10 H9
  go_wp2_with fail
  refine (ints_same _ _ _ _ _ _ _ _ H10.out.2.1 H10.out.2.2.2).mono ?_
  rintro e w11 ⟨rfl, j, hj⟩
  have HB11 := Lib.hid (show Below w.heap.size w w11 by rw [hj]; exact below_drewN H10.out.1 _)
  have HX11 := Lib.hid (show BxsAt w11 A8 1 c8 [whB 0 0 3 1] by rw [hj]; exact H10.out.2.2.1.below (below_drewN (Below.refl _ _) _))
  clear hj H10
  go_wp2_with fail
  refine (whole_any 0 0 3 1 _).mono ?_
  rintro e w12 ⟨rfl, hb⟩
  have hb13 := hb.trans (((Below.refl w12.heap.size w12).alloc (Nat.le_refl _) (.cells #[.int .i64 (whB 0 0 3 1).x0.m, .int .i64 (whB 0 0 3 1).x0.s, .int .i64 (whB 0 0 3 1).y0.m, .int .i64 (whB 0 0 3 1).y0.s, .int .i64 (whB 0 0 3 1).x1.m, .int .i64 (whB 0 0 3 1).x1.s, .int .i64 (whB 0 0 3 1).y1.m, .int .i64 (whB 0 0 3 1).y1.s] 49)).mono hb.size)
  have H13 := Lib.hid (And.intro (HB11.out.trans (hb13.mono HB11.out.size)) (And.intro (HX11.out.below hb13) (boxes_one (Whole.made w12 49 #[.int .i64 (whB 0 0 3 1).x0.m, .int .i64 (whB 0 0 3 1).x0.s, .int .i64 (whB 0 0 3 1).y0.m, .int .i64 (whB 0 0 3 1).y0.s, .int .i64 (whB 0 0 3 1).x1.m, .int .i64 (whB 0 0 3 1).x1.s, .int .i64 (whB 0 0 3 1).y1.m, .int .i64 (whB 0 0 3 1).y1.s]))))
  clear hb hb13 HB11 HX11
  go_wp2_with fail
  refine (boxes_same _ _ _ _ _ _ _ H13.out.2.1 H13.out.2.2).mono ?_
  rintro e w14 ⟨rfl, hb⟩
  have H14 := Lib.hid (H13.out.1.trans (hb.mono H13.out.1.size))
  clear hb H13
  go_wp2_with fail
  go_ret
  exact ⟨rfl, H14.out⟩
end Go.Proofs.YtdlmhienolmncaaGreat
