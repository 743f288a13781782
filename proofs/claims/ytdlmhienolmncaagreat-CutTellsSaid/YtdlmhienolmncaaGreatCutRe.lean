/- the reference: a font by its name; are fonts right? -/
import Derived.Test.YtdlmhienolmncaaGreatCutJ
import Derived.Test.YtdlmhienolmncaaGreatFontX
import Derived.Deep.QuietTactic
namespace Go.Proofs.YtdlmhienolmncaaGreat
open Go.RowKit Dec

theorem results_rfont (tmps : Array Value) (w : World) (g : Nat) (a b c v : Value) (hp : tmps.getD 4 undef = .pointer (some ⟨g, 0, none⟩)) (hv : tmps.getD 5 undef = v) (h0 : w.cell? ⟨g, 0, none⟩ = some a) (h1 : w.cell? ⟨g, 1, none⟩ = some b) (h2 : w.cell? ⟨g, 2, none⟩ = some c) :
    (results Tryz.f61 tmps).run Tryz.prog w = .ok (.tuple #[.agg #[a, b, c], v]) w := by
  have hp' : tmps[4]?.getD undef = .pointer (some ⟨g, 0, none⟩) := by simpa using hp
  have hv' : tmps[5]?.getD undef = v := by simpa using hv
  simp [results, Tryz.results61, hp', hv', asAddr, go_sem, h0, h1, h2]
set_option maxRecDepth 100000 in
set_option maxHeartbeats 4000000 in
theorem rfont_any (A : Option Addr) (n c : Nat) (fs : List Nm) (name : ByteArray) (w : World) (h : NmsAt w A n c fs) :
    Calls Tryz.prog 61 #[.slice A n c, .string name] w fun e w' => e = .returned (.tuple #[.agg (fontV (fontOf fs name)), .bool (fontOf fs name).isSome]) ∧ Below w.heap.size w w' := by
  have hcap := h.row.cap
  have htop := h.row.top
  have HL := Lib.hid h.len
  have H := Lib.hid h
  have hw0 := Whole.made w 64 #[.bool false, .slice none 0 0, .int .i64 0]
  have HS := Lib.hid (And.intro hw0 ((Below.refl w.heap.size w).alloc (Nat.le_refl _) (.cells #[.bool false, .slice none 0 0, .int .i64 0] 64)))
  clear h hw0
  go_enter Tryz.func61, Tryz.ntmps61
  go_wp2_with fail
  go_loopw [6] (fun s6 wx => ∃ k : Nat, k ≤ n ∧ s6 = .int .i64 k ∧ Hid (fontOf (fs.take k) name = none) ∧ Hid (Whole wx w.heap.size 64 #[.bool false, .slice none 0 0, .int .i64 0] ∧ Below w.heap.size w wx)) (fun s6 _ => n - (intOf s6).toNat)
  case atStart => exact ⟨0, by omega, rfl, Lib.hid rfl, HS⟩
  case round =>
    clear HS
    obtain ⟨k, hk, rfl, HF, HB⟩ := hrel
    have rd := HB.out.1.reads
    have ft := HB.out.1.thawed
    have lR := HB.out.1.lt
    by_cases hlt : k < n
    · have d1 : decide ((k : Int) < (n : Int)) = true := decide_eq_true (by omega)
      obtain ⟨f, hf⟩ : ∃ f, fs[k]? = some f := ⟨_, List.getElem?_eq_getElem (by rw [HL.out]; exact hlt)⟩
      obtain ⟨R, o, rfl, hR, ⟨g0, g1, g2, g3⟩, hns, hgl⟩ := (H.out.below HB.out.2).get hf
      have hgc := hgl.cap
      have hgt := hgl.top
      clear hgl
      have HFK := Lib.hid hf
      clear hf
      by_cases he : f.name = name
      · have d2 := str_eq he
        have HZ := Lib.hid (fontOf_first HFK.out he HF.out)
        clear he
        go_wp2_with fail
        have HW := ((HB.out.1.set 0 (.bool f.wd)).set 1 (.slice f.s.A f.s.n f.s.c)).set 2 (.int .i64 f.ot)
        refine bodyPost_ret (v := .tuple #[.agg #[.bool f.wd, .slice f.s.A f.s.n f.s.c, .int .i64 f.ot], .bool true]) (results_rfont _ _ w.heap.size _ _ _ _ rfl rfl (HW.reads 0) (HW.reads 1) (HW.reads 2)) rfl ⟨by rw [HZ.out]; rfl, ?_⟩
        exact ((HB.out.2.setCell (Nat.le_refl _) _).setCell (Nat.le_refl _) _).setCell (Nat.le_refl _) _
      · have d2 := str_ne he
        have HZ := Lib.hid (fontOf_take HFK.out he HF.out)
        clear he
        go_wp2_with fail
        go_roundw
        case rel => exact ⟨k + 1, by omega, by go_num, HZ, HB⟩
        case measure => simp [intOf]; omega
    · obtain rfl : k = n := by omega
      have d1 : decide ((k : Int) < (k : Int)) = false := by simp
      have HZ := HF
      rw [List.take_of_length_le (by rw [HL.out]; exact Nat.le_refl _)] at HZ
      go_wp2_with fail
      have HW := ((HB.out.1.set 0 (.bool false)).set 1 (.slice none 0 0)).set 2 (.int .i64 0)
      refine bodyPost_ret (v := .tuple #[.agg #[.bool false, .slice none 0 0, .int .i64 0], .bool false]) (results_rfont _ _ w.heap.size _ _ _ _ rfl rfl (HW.reads 0) (HW.reads 1) (HW.reads 2)) rfl ⟨by rw [HZ.out]; rfl, ?_⟩
      exact ((HB.out.2.setCell (Nat.le_refl _) _).setCell (Nat.le_refl _) _).setCell (Nat.le_refl _) _
theorem fontOf_some {fs : List Nm} {i k : Nat} {x f : Nm} (hk : k < i) (hf : fs[k]? = some f) (he : f.name = x.name) : (fontOf (fs.take i) x.name).isSome = true := by
  unfold fontOf
  rw [List.find?_isSome]
  obtain ⟨hl, rfl⟩ := List.getElem?_eq_some_iff.1 hf
  exact ⟨fs[k], List.mem_take_iff_getElem.2 ⟨k, by omega, rfl⟩, decide_eq_true he⟩
theorem nms_no {fs : List Nm} {i : Nat} (hi : i < fs.length) (h : nmsAt fs i = false) : nmsB fs = false := by
  cases e : nmsB fs with
  | false => rfl
  | true =>
    unfold nmsB at e
    simp only [Bool.and_eq_true, List.all_eq_true] at e
    rw [e.2 i (List.mem_range.2 hi)] at h
    cases h
set_option maxRecDepth 100000 in
set_option maxHeartbeats 8000000 in
theorem rfonts21_any (A : Option Addr) (n c : Nat) (fs : List Nm) (w : World) (h : NmsAt w A n c fs) (h60 : ∀ f ∈ fs, f.s.n ≤ 1000000) :
    Calls Tryz.prog 62 #[.slice A n c] w fun e w' => e = .returned (.bool (nmsB fs)) ∧ Below w.heap.size w w' := by
  have hcap := h.row.cap
  have htop := h.row.top
  have HL := Lib.hid h.len
  have H := Lib.hid h
  have H60 := Lib.hid h60
  clear h h60
  go_enter Tryz.func62, Tryz.ntmps62
  go_wp2_with fail
  go_loopw [3] (fun s3 wr => ∃ i : Nat, i ≤ n ∧ s3 = .int .i64 (i : Int) ∧ Hid (∀ k, k < i → nmsAt fs k = true) ∧ Hid (Below w.heap.size w wr)) (fun s3 _ => n - (intOf s3).toNat)
  case atStart => exact ⟨0, by omega, rfl, Lib.hid (fun k hk => absurd hk (by omega)), Lib.hid (Below.refl _ _)⟩
  case round =>
    obtain ⟨i, hi, rfl, HI, HB⟩ := hrel
    by_cases hlt : i < n
    · have d1 : decide ((i : Int) < (n : Int)) = true := decide_eq_true (by omega)
      obtain ⟨x, hx⟩ : ∃ x, fs[i]? = some x := ⟨_, List.getElem?_eq_getElem (by rw [HL.out]; exact hlt)⟩
      have HX := Lib.hid hx
      rename World => wo
      go_wp2_with fail
      go_loopw [4] (fun s4 wr => ∃ k : Nat, k ≤ i ∧ s4 = .int .i64 (k : Int) ∧ Hid (fontOf (fs.take k) x.name = none) ∧ Hid (Below wo.heap.size wo wr)) (fun s4 _ => i - (intOf s4).toNat)
      case atStart => exact ⟨0, by omega, rfl, Lib.hid rfl, Lib.hid (Below.refl _ _)⟩
      case round =>
        obtain ⟨k, hk, rfl, HF, HB2⟩ := hrel
        have HBX := Lib.hid (HB.out.trans (HB2.out.mono HB.out.size))
        obtain ⟨R, o, rfl, hR, ⟨q0, q1, q2, q3⟩, hns, hgl⟩ := (H.out.below HBX.out).get hx
        have HGL := Lib.hid hgl
        clear hgl
        have g1 : (0 : Int) ≤ (i : Int) := by omega
        have g2 : (i : Int) < (n : Int) := by omega
        by_cases hlt2 : k < i
        · have d2 : decide ((k : Int) < (i : Int)) = true := decide_eq_true (by omega)
          obtain ⟨f, hf⟩ : ∃ f, fs[k]? = some f := ⟨_, List.getElem?_eq_getElem (by rw [HL.out]; omega)⟩
          obtain ⟨R2, o2, e2, hR2, ⟨z0, z1, z2, z3⟩, -, -⟩ := (H.out.below HBX.out).get hf
          injection e2 with e2
          injection e2 with e2 e3
          subst e2 e3
          have g3 : (0 : Int) ≤ (k : Int) := by omega
          have g4 : (k : Int) < (n : Int) := by omega
          by_cases he : f.name = x.name
          · have d3 := str_eq he
            have HNO := Lib.hid (nms_no (fs := fs) (i := i) (by rw [HL.out]; exact hlt) (by rw [nmsAt_is HX.out, fontOf_some hlt2 hf he]; rfl))
            clear hf he hx
            go_wp2_with fail
            go_quiet (fail)
            all_goals
              clear q0 q1 q2 q3 z0 z1 z2 z3
              go_wp2_with fail
              go_ret
              refine ⟨by rw [HNO.out]; rfl, below_drewN HBX.out _⟩
          · have d3 := str_ne he
            have HZ := Lib.hid (fontOf_take hf he HF.out)
            clear hf he hx
            go_wp2_with fail
            go_quiet (fail)
            all_goals
              clear q0 q1 q2 q3 z0 z1 z2 z3
              go_wp2_with fail
              go_roundw
              case rel => exact ⟨k + 1, by omega, by go_num, HZ, Lib.hid (below_drewN HB2.out _)⟩
              case measure => simp [intOf]; omega
        · obtain rfl : k = i := by omega
          have d2 : decide ((k : Int) < (k : Int)) = false := by simp
          have HR := Lib.hid (rright_any x.wd x.s.A x.s.n x.s.c x.ot x.gs wr HGL.out (H60.out x (List.mem_of_getElem? hx)))
          have HN := Lib.hid (show nmsAt fs k = nmB x by rw [nmsAt_is hx, HF.out]; rfl)
          have HCK := Lib.hid (show nmB x = chkB x.wd x.ot x.gs from rfl)
          obtain ⟨r, hr⟩ : ∃ r, chkB x.wd x.ot x.gs = r := ⟨_, rfl⟩
          rw [hr] at HR HCK
          clear hr hx
          go_wp2_with fail
          refine HR.out.mono ?_
          rintro e w2 ⟨rfl, hb⟩
          have HB3 := Lib.hid (HBX.out.trans (hb.mono HBX.out.size))
          clear hb q0 q1 q2 q3
          cases r
          · have HNO := Lib.hid (nms_no (fs := fs) (i := k) (by rw [HL.out]; exact hlt) (by rw [HN.out, HCK.out]))
            go_wp2_with fail
            go_ret
            exact ⟨by rw [HNO.out]; rfl, HB3.out⟩
          · have HI2 := Lib.hid (show ∀ j, j < k + 1 → nmsAt fs j = true from fun j hj => by
              rcases Nat.lt_succ_iff_lt_or_eq.1 hj with h | rfl
              · exact HI.out j h
              · rw [HN.out, HCK.out])
            go_wp2_with fail
            go_roundw
            case rel => exact ⟨k + 1, by omega, by go_num, HI2, HB3⟩
            case measure => simp [intOf]; omega
    · obtain rfl : i = n := by omega
      have d1 : decide ((i : Int) < (i : Int)) = false := by simp
      have HE := Lib.hid (show nmsB fs = decide ((i : Int) ≤ 64) by
        unfold nmsB
        have e : (List.range fs.length).all (nmsAt fs) = true := List.all_eq_true.2 fun j hj => HI.out j (by have := List.mem_range.1 hj; rw [HL.out] at this; exact this)
        rw [e, Bool.and_true, HL.out]
        exact decide_eq_decide.2 (by omega))
      go_wp2_with fail
      go_ret
      exact ⟨by rw [HE.out]; first | rfl | simp, HB.out⟩
end Go.Proofs.YtdlmhienolmncaaGreat
/- the reference: are fonts known? -/
namespace Go.Proofs.YtdlmhienolmncaaGreat
open Go.RowKit Dec

set_option maxRecDepth 100000 in
set_option maxHeartbeats 8000000 in
theorem rknown_any (A : Option Addr) (n c : Nat) (fs : List Nm) (A2 : Option Addr) (n2 c2 : Nat) (l : List Mk) (w : World) (h : NmsAt w A n c fs) (h60 : ∀ f ∈ fs, f.s.n ≤ 1000000) (h2 : MarksAt w A2 n2 c2 l) :
    Calls Tryz.prog 33 #[.slice A n c, .slice A2 n2 c2] w fun e w' => e = .returned (.bool (knownB fs l)) ∧ Below w.heap.size w w' := by
  have hcap := h2.row.cap
  have htop := h2.row.top
  have HL := Lib.hid h2.len
  have H := Lib.hid (And.intro h h2)
  have H60 := Lib.hid h60
  clear h h2 h60
  go_enter Tryz.func33, Tryz.ntmps33
  go_wp2_with fail
  go_loopw [5] (fun s5 wr => ∃ i : Nat, i ≤ n2 ∧ s5 = .int .i64 (i : Int) ∧ Hid ((l.take i).all (hasB fs) = true) ∧ Hid (Below w.heap.size w wr)) (fun s5 _ => n2 - (intOf s5).toNat)
  case atStart => exact ⟨0, by omega, rfl, Lib.hid (by simp), Lib.hid (Below.refl _ _)⟩
  case round =>
    obtain ⟨i, hi, rfl, HA, HB⟩ := hrel
    by_cases hlt : i < n2
    · have d1 : decide ((i : Int) < (n2 : Int)) = true := decide_eq_true (by omega)
      obtain ⟨x, hx⟩ : ∃ x, l[i]? = some x := ⟨_, List.getElem?_eq_getElem (by rw [HL.out]; exact hlt)⟩
      obtain ⟨R, o, rfl, hR, hc, -⟩ := (H.out.2.below HB.out).get hx
      obtain ⟨k0, -, -, -, -, -, -, -, -, -, -, -, -, s13, -, -, -, -, -, -, -, -, -, -, -⟩ := hc.cells
      have HF := Lib.hid (rfont_any A n c fs x.name wr (H.out.1.below HB.out))
      have HS := Lib.hid (all_step (hasB fs) hx HA.out)
      have HN := Lib.hid (fun h => all_no (hasB fs) hx h)
      have HH := Lib.hid (show hasB fs x = (!(decide (x.kind = 1)) || (fontOf fs x.name).isSome) from rfl)
      clear hc hx
      obtain ⟨f, hf⟩ : ∃ f, fontOf fs x.name = f := ⟨_, rfl⟩
      rw [hf] at HF HH
      clear hf
      cases f with
      | none =>
        simp only [fontV, Option.isSome_none] at HF HH
        go_wp2_with fail
        refine HF.out.mono ?_
        rintro e w2 ⟨rfl, hb⟩
        have k0' := (hb.cell (p := ⟨R, o + i * 25, none⟩) hR).trans k0
        have hR2 : R < w2.heap.size := Nat.lt_of_lt_of_le hR hb.size
        have HB2 := Lib.hid (HB.out.trans (hb.mono HB.out.size))
        have hb3 := HB2.out.alloc HB2.out.size (.cells #[.bool false, .slice none 0 0, .int .i64 0] 64)
        have HB3 := Lib.hid hb3
        clear hb hb3 k0 s13
        by_cases hg : x.kind = 1
        · have d3 : (x.kind == 1) = true := by simp [hg]
          have HF2 := Lib.hid (HN.out (by rw [HH.out, decide_eq_true hg]; rfl))
          clear hg
          go_wp2_with fail
          go_ret
          refine ⟨?_, HB3.out⟩
          unfold knownB
          rw [HF2.out, Bool.and_false]
          rfl
        · have d3 : (x.kind == 1) = false := by simp [hg]
          have HT := Lib.hid (show (l.take (i + 1)).all (hasB fs) = true by rw [HS.out, HH.out, decide_eq_false hg]; rfl)
          clear hg
          go_wp2_with fail
          go_roundw
          case rel => exact ⟨i + 1, by omega, by go_num, HT, HB3⟩
          case measure => simp [intOf]; omega
      | some f =>
        simp only [fontV, Option.isSome_some] at HF HH
        go_wp2_with fail
        refine HF.out.mono ?_
        rintro e w2 ⟨rfl, hb⟩
        have k0' := (hb.cell (p := ⟨R, o + i * 25, none⟩) hR).trans k0
        have hR2 : R < w2.heap.size := Nat.lt_of_lt_of_le hR hb.size
        have HB2 := Lib.hid (HB.out.trans (hb.mono HB.out.size))
        have hb3 := HB2.out.alloc HB2.out.size (.cells #[.bool f.wd, .slice f.s.A f.s.n f.s.c, .int .i64 f.ot] 64)
        have HB3 := Lib.hid hb3
        have HT := Lib.hid (show (l.take (i + 1)).all (hasB fs) = true by rw [HS.out, HH.out, Bool.or_true])
        clear hb hb3 k0 s13
        by_cases hg : x.kind = 1
        · have d3 : (x.kind == 1) = true := by simp [hg]
          clear hg
          go_wp2_with fail
          go_roundw
          case rel => exact ⟨i + 1, by omega, by go_num, HT, HB3⟩
          case measure => simp [intOf]; omega
        · have d3 : (x.kind == 1) = false := by simp [hg]
          clear hg
          go_wp2_with fail
          go_roundw
          case rel => exact ⟨i + 1, by omega, by go_num, HT, HB3⟩
          case measure => simp [intOf]; omega
    · obtain rfl : i = n2 := by omega
      have d1 : decide ((i : Int) < (i : Int)) = false := by simp
      have hall : l.all (hasB fs) = true := by
        have := HA.out
        rwa [List.take_of_length_le (by rw [HL.out]; exact Nat.le_refl _)] at this
      have HE := Lib.hid (show knownB fs l = nmsB fs by unfold knownB; rw [hall, Bool.and_true])
      have HR := Lib.hid (rfonts21_any A n c fs wr (H.out.1.below HB.out) H60.out)
      clear hall
      go_wp2_with fail
      refine HR.out.mono ?_
      rintro e w2 ⟨rfl, hb⟩
      have HB2 := Lib.hid (HB.out.trans (hb.mono HB.out.size))
      clear hb
      go_wp2_with fail
      go_ret
      exact ⟨by rw [HE.out]; rfl, HB2.out⟩
end Go.Proofs.YtdlmhienolmncaaGreat
