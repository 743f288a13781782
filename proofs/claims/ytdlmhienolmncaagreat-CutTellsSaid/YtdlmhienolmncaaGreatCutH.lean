/- cut: which marks are left, which codes are used, what marks mean, where a text stands: pure. -/
import Derived.Test.YtdlmhienolmncaaGreatTree
import Derived.Test.YtdlmhienolmncaaGreatFontU
import Derived.Test.YtdlmhienolmncaaGreatFontDg
import Derived.Lib.Index
namespace Go.Proofs.YtdlmhienolmncaaGreat
open Go.RowKit Dec

def okB (b : BV) : Bool := decide b.Ok
/-- Do two boxes meet, and are they boxes? -/
def meetsB (a b : BV) : Bool := decide (a.Ok ∧ b.Ok) && meetB a b
theorem meetsB_ok {a b : BV} (ha : a.Ok) (hb : b.Ok) : meetsB a b = meetB a b := by unfold meetsB; rw [decide_eq_true ⟨ha, hb⟩, Bool.true_and]
def glyphB (x : Mk) : Bool := decide (x.kind = 1)
/-- Is a mark an image with a name? -/
def imgB (x : Mk) : Bool := decide (x.kind = 3) && !(x.name.size == 0)
/-- Does a mark stay? -/
def stays (rs : List BV) (x : Mk) : Bool := imgB x || !(rs.any (meetsB x.box))
def mkB (x : Mk) : Bool := okB x.box && decide (1 ≤ x.kind ∧ x.kind ≤ 3)
def cutB (l : List Mk) (rs : List BV) : Bool := rs.all okB && l.all mkB
def cutE (l : List Mk) (rs : List BV) : Int := if cutB l rs then 0 else 1
def cutL (l : List Mk) (rs : List BV) : List Mk := if cutB l rs then l.filter (stays rs) else []
theorem cutB_nil (rs : List BV) : cutB [] rs = rs.all okB := by simp [cutB]
theorem cut_zero {l : List Mk} {rs : List BV} : cutE l rs = 0 ↔ cutB l rs = true := by
  unfold cutE
  cases cutB l rs <;> simp
theorem cut_one {l : List Mk} {rs : List BV} : cutE l rs ≠ 0 → cutE l rs = 1 ∧ cutL l rs = [] := by
  unfold cutE cutL
  cases cutB l rs <;> simp
theorem cutL_ok {l : List Mk} {rs : List BV} (h : cutB l rs = true) : cutL l rs = l.filter (stays rs) := if_pos h
theorem cutE_bad {l : List Mk} {rs : List BV} (h : cutB l rs = false) : cutE l rs = 1 ∧ cutL l rs = [] := by
  unfold cutE cutL
  rw [h]
  exact ⟨rfl, rfl⟩
theorem cutE_ok {l : List Mk} {rs : List BV} (h : cutB l rs = true) : cutE l rs = 0 := if_pos h
theorem cutB_sub {l m : List Mk} {rs : List BV} (h : cutB l rs = true) (hs : ∀ x ∈ m, x ∈ l) : cutB m rs = true := by
  unfold cutB at h ⊢
  simp only [Bool.and_eq_true, List.all_eq_true] at h ⊢
  exact ⟨h.1, fun x hx => h.2 x (hs x hx)⟩
theorem cutL_mem {l : List Mk} {rs : List BV} {x : Mk} (h : x ∈ cutL l rs) : x ∈ l := by
  unfold cutL at h
  split at h
  · exact (List.mem_filter.1 h).1
  · simp at h
theorem cutL_len (l : List Mk) (rs : List BV) : (cutL l rs).length ≤ l.length := by
  unfold cutL
  split
  · exact List.length_filter_le _ _
  · simp
/-- Cut twice is cut once. -/
theorem cut_again {l : List Mk} {rs : List BV} (h : cutB l rs = true) : cutE (cutL l rs) rs = 0 ∧ cutL (cutL l rs) rs = cutL l rs := by
  have hs := cutB_sub (m := cutL l rs) h (fun x hx => cutL_mem hx)
  refine ⟨cutE_ok hs, ?_⟩
  rw [cutL_ok hs, cutL_ok h, List.filter_filter]
  congr 1
  funext x
  exact Bool.and_self _
theorem cut_nil {l : List Mk} {rs : List BV} (h : cutB l rs = true) : cutE l [] = 0 ∧ cutL l [] = l := by
  have h0 : cutB l [] = true := by
    unfold cutB at h ⊢
    simp only [Bool.and_eq_true, List.all_nil, Bool.true_and] at h ⊢
    exact h.2
  refine ⟨cutE_ok h0, ?_⟩
  rw [cutL_ok h0, List.filter_eq_self]
  intro x _
  unfold stays
  rw [List.any_nil]
  simp
theorem cut_two {l : List Mk} {rs qs : List BV} (h : cutB l rs = true) : cutE (cutL l rs) qs = cutE l (rs ++ qs) ∧ cutL (cutL l rs) qs = cutL l (rs ++ qs) := by
  have hc : cutB (cutL l rs) qs = cutB l (rs ++ qs) := by
    have hm : (cutL l rs).all mkB = true := by
      have h2 := cutB_sub (m := cutL l rs) h (fun x hx => cutL_mem hx)
      unfold cutB at h2
      simp only [Bool.and_eq_true] at h2
      exact h2.2
    unfold cutB at h ⊢
    simp only [Bool.and_eq_true] at h
    rw [hm, List.all_append, h.1, h.2, Bool.true_and]
  unfold cutE
  rw [hc]
  refine ⟨rfl, ?_⟩
  cases hb : cutB l (rs ++ qs)
  · rw [(cutE_bad hb).2, (cutE_bad (hc.trans hb)).2]
  · rw [cutL_ok hb, cutL_ok (hc.trans hb), cutL_ok h, List.filter_filter]
    congr 1
    funext x
    unfold stays
    rw [List.any_append]
    cases imgB x <;> cases rs.any (meetsB x.box) <;> cases qs.any (meetsB x.box) <;> rfl
theorem cut_two_bad {l : List Mk} {rs qs : List BV} (h : cutB l rs = false) : cutE l (rs ++ qs) = 1 := by
  refine (cutE_bad ?_).1
  unfold cutB at h ⊢
  rw [List.all_append]
  cases h1 : rs.all okB
  · rfl
  · rw [h1, Bool.true_and] at h
    rw [h, Bool.and_false]
/-- The codes of a name's glyphs. -/
def usedB (name : ByteArray) (x : Mk) : Bool := decide (x.kind = 1) && decide (x.name = name)
def usedL (l : List Mk) (name : ByteArray) : List Int := (l.filter (usedB name)).map (·.code)
/-- The font of a name. -/
def fontOf (fs : List Nm) (name : ByteArray) : Option Nm := fs.find? (fun x => decide (x.name = name))
/-- Are fonts right? -/
def nmB (x : Nm) : Bool := chkB x.wd x.ot x.gs
def nmsAt (fs : List Nm) (i : Nat) : Bool := match fs[i]? with | none => true | some x => !(fontOf (fs.take i) x.name).isSome && nmB x
def nmsB (fs : List Nm) : Bool := decide (fs.length ≤ 64) && (List.range fs.length).all (nmsAt fs)
def hasB (fs : List Nm) (x : Mk) : Bool := !glyphB x || (fontOf fs x.name).isSome
def knownB (fs : List Nm) (l : List Mk) : Bool := nmsB fs && l.all (hasB fs)
def knownE (fs : List Nm) (l : List Mk) : Int := if knownB fs l then 0 else 1
/-- What a mark's code means, in pairs of bytes. -/
def rawOf (fs : List Nm) (x : Mk) : ByteArray := match fontOf fs x.name with | some f => (findG f.ot f.gs x.code).text | none => ⟨#[]⟩
def txB (fs : List Nm) (x : Mk) : Bool := !glyphB x || (textU (rawOf fs x).data.toList).isSome
/-- A glyph's text, where it ends, its box. -/
structure Pc where
  text : ByteArray
  fin : Nat
  box : BV
def sumT (l : List ByteArray) : Nat := (l.map (·.size)).sum
def txOf (fs : List Nm) (l : List Mk) : List (ByteArray × BV) := (l.filter glyphB).map fun x => (textS (rawOf fs x), x.box)
def pcsFrom : Nat → List (ByteArray × BV) → List Pc
  | _, [] => []
  | e, (t, b) :: l => ⟨t, e + t.size, b⟩ :: pcsFrom (e + t.size) l
def pcs (fs : List Nm) (l : List Mk) : List Pc := pcsFrom 0 (txOf fs l)
def readE (fs : List Nm) (l : List Mk) : Int := if knownB fs l then (if l.all (txB fs) then 0 else 4) else 1
/-- All that marks mean. -/
def allT (ps : List Pc) : List UInt8 := (ps.map fun p => p.text.data.toList).flatten
def textR (fs : List Nm) (l : List Mk) : List UInt8 := if readE fs l = 0 then allT (pcs fs l) else []
/-- The pieces from that one on that has a byte behind an offset. -/
def behindP (ps : List Pc) (k : Nat) : List Pc := ps.dropWhile (fun p => decide (p.fin ≤ k))
def boxGo (to : Nat) : BV → List Pc → Option BV
  | b, [] => some b
  | b, p :: ps => if to ≤ p.fin - p.text.size then some b else if p.text.size = 0 then boxGo to b ps else if decide (b.Ok ∧ p.box.Ok) then boxGo to (joinB b p.box) ps else none
def aroundP (ps : List Pc) (to : Nat) : Option BV := match ps with | [] => none | p :: _ => boxGo to p.box ps
/-- The boxes of all places of a text, from a place on; nothing where one may not be. -/
def findP (ps : List Pc) (t : List UInt8) : Nat → Nat → Option (List BV)
  | 0, _ => some []
  | f + 1, at_ =>
    if Lib.index ((allT ps).drop at_) t < 0 then some []
    else match aroundP (behindP ps (at_ + (Lib.index ((allT ps).drop at_) t).toNat)) (at_ + (Lib.index ((allT ps).drop at_) t).toNat + t.length) with
      | none => none
      | some b => (findP ps t f (at_ + (Lib.index ((allT ps).drop at_) t).toNat + t.length)).map (b :: ·)
def findO (fs : List Nm) (l : List Mk) (t : ByteArray) : Option (List BV) := findP (pcs fs l) t.data.toList ((allT (pcs fs l)).length + 1) 0
def findE (fs : List Nm) (l : List Mk) (t : ByteArray) : Int :=
  if t.size = 0 then 1 else if readE fs l = 0 then (match findO fs l t with | none => 1 | some _ => 0) else readE fs l
def findL (fs : List Nm) (l : List Mk) (t : ByteArray) : List BV :=
  if t.size = 0 then [] else if readE fs l = 0 then (findO fs l t).getD [] else []
/-- The fonts that are used, cut. -/
def cutF (l : List Mk) (f : Nm) : List Gl := cutG f.wd f.ot f.gs (usedL l f.name)
def useB (l : List Mk) (f : Nm) : Bool := !(usedL l f.name).isEmpty
end Go.Proofs.YtdlmhienolmncaaGreat
/- fonts by their names: Find. -/
namespace Go.Proofs.YtdlmhienolmncaaGreat
open Go.RowKit Dec

def fontV (o : Option Nm) : Array Value := match o with | some f => #[.bool f.wd, .slice f.s.A f.s.n f.s.c, .int .i64 f.ot] | none => #[.bool false, .slice none 0 0, .int .i64 0]
theorem fontOf_first {fs : List Nm} {name : ByteArray} {k : Nat} {f : Nm} (hf : fs[k]? = some f) (he : f.name = name) (hn : fontOf (fs.take k) name = none) : fontOf fs name = some f := by
  unfold fontOf at hn ⊢
  rw [List.find?_eq_none] at hn
  obtain ⟨hi, e⟩ := List.getElem?_eq_some_iff.1 hf
  rw [List.find?_eq_some_iff_getElem]
  refine ⟨by simpa using he, k, hi, e, fun j hj => ?_⟩
  have := hn fs[j] (List.mem_take_iff_getElem.2 ⟨j, by omega, rfl⟩)
  simpa using this
theorem fontOf_take {fs : List Nm} {name : ByteArray} {k : Nat} {f : Nm} (hf : fs[k]? = some f) (he : ¬ f.name = name) (hn : fontOf (fs.take k) name = none) : fontOf (fs.take (k + 1)) name = none := by
  unfold fontOf at hn ⊢
  rw [List.take_add_one, hf, List.find?_append, hn]
  simp [he]
theorem str_eq {a b : ByteArray} (h : a = b) : (a.toList == b.toList) = true := by subst h; simp
theorem str_ne {a b : ByteArray} (h : ¬ a = b) : (a.toList == b.toList) = false := by
  rw [Lib.toList_data, Lib.toList_data, beq_eq_false_iff_ne]
  intro e
  exact h (ByteArray.ext (Array.toList_inj.1 e))
theorem results_nfind (tmps : Array Value) (w : World) (g : Nat) (a b c v : Value) (hp : tmps.getD 4 undef = .pointer (some ⟨g, 0, none⟩)) (hv : tmps.getD 5 undef = v) (h0 : w.cell? ⟨g, 0, none⟩ = some a) (h1 : w.cell? ⟨g, 1, none⟩ = some b) (h2 : w.cell? ⟨g, 2, none⟩ = some c) :
    (results Tryz.f56 tmps).run Tryz.prog w = .ok (.tuple #[.agg #[a, b, c], v]) w := by
  have hp' : tmps[4]?.getD undef = .pointer (some ⟨g, 0, none⟩) := by simpa using hp
  have hv' : tmps[5]?.getD undef = v := by simpa using hv
  simp [results, Tryz.results56, hp', hv', asAddr, go_sem, h0, h1, h2]
set_option maxRecDepth 100000 in
set_option maxHeartbeats 4000000 in
theorem nfind_any (A : Option Addr) (n c : Nat) (fs : List Nm) (name : ByteArray) (w : World) (h : NmsAt w A n c fs) :
    Calls Tryz.prog 56 #[.slice A n c, .string name] w fun e w' => e = .returned (.tuple #[.agg (fontV (fontOf fs name)), .bool (fontOf fs name).isSome]) ∧ Below w.heap.size w w' := by
  have hcap := h.row.cap
  have htop := h.row.top
  have HL := Lib.hid h.len
  have H := Lib.hid h
  have hw0 := Whole.made w 64 #[.bool false, .slice none 0 0, .int .i64 0]
  have HS := Lib.hid (And.intro hw0 (show Below w.heap.size w (w.alloc (.cells #[.bool false, .slice none 0 0, .int .i64 0] 64)) from by (repeat (first | with_reducible exact Below.refl _ _ | with_reducible refine Below.drew ?_ | with_reducible refine bdrewN ?_ _ | (with_reducible refine Below.setCell ?_ ?_ _; rotate_left; focus (first | exact Nat.le_refl _ | omega | (simp; omega) | (simp; done))) | (with_reducible refine Below.alloc ?_ ?_ _; rotate_left; focus (first | exact Nat.le_refl _ | omega | (simp; omega) | (simp; done))) | (with_reducible refine Below.trans ?_ (Below.mono (by assumption) ?_); rotate_left; focus (first | exact Nat.le_refl _ | omega | (simp; omega) | (simp; done)))))))
  clear h hw0
  go_enter Tryz.func56, Tryz.ntmps56
  go_wp2_with fail
  go_loopw [10] (fun s10 wx => ∃ k : Nat, k ≤ n ∧ s10 = .int .i64 k ∧ Hid (fontOf (fs.take k) name = none) ∧ Hid (Whole wx w.heap.size 64 #[.bool false, .slice none 0 0, .int .i64 0] ∧ Below w.heap.size w wx)) (fun s10 _ => n - (intOf s10).toNat)
  case atStart => exact ⟨0, by omega, rfl, Lib.hid rfl, HS⟩
  case round =>
    clear HS
    obtain ⟨k, hk, rfl, HF, HB⟩ := hrel
    have rd := HB.out.1.reads
    have ft := HB.out.1.thawed
    have lR := HB.out.1.lt
    by_cases hlt : k < n
    · have d1 : decide ((k : Int) < (n : Int)) = true := decide_eq_true (by omega)
      obtain ⟨f, hf⟩ : ∃ f, fs[k]? = some f := ⟨_, List.getElem?_eq_getElem (by rw [HL.out]; exact hlt)⟩
      obtain ⟨R, o, rfl, hR, ⟨g0, g1, g2, g3⟩, hns, hgl⟩ := (H.out.below HB.out.2).get hf
      have hgc := hgl.cap
      have hgt := hgl.top
      clear hgl
      have HFK := Lib.hid hf
      clear hf
      by_cases he : f.name = name
      · have d2 := str_eq he
        have HZ := Lib.hid (fontOf_first HFK.out he HF.out)
        clear he
        go_wp2_with fail
        have HW := (((HB.out.1.set 0 (.bool f.wd)).set 1 (.slice f.s.A f.s.n f.s.c)).set 2 (.int .i64 f.ot)).old (.cells #[.string f.name, .bool f.wd, .slice f.s.A f.s.n f.s.c, .int .i64 f.ot] 66)
        refine bodyPost_ret (v := .tuple #[.agg #[.bool f.wd, .slice f.s.A f.s.n f.s.c, .int .i64 f.ot], .bool true]) (results_nfind _ _ w.heap.size _ _ _ _ rfl rfl (HW.reads 0) (HW.reads 1) (HW.reads 2)) rfl ⟨by rw [HZ.out]; rfl, ?_⟩
        · (repeat (first | with_reducible refine Below.drew ?_ | with_reducible refine bdrewN ?_ _ | (with_reducible refine Below.setCell ?_ ?_ _; rotate_left; focus (first | exact Nat.le_refl _ | omega | (simp; omega) | (simp; done))) | (with_reducible refine Below.alloc ?_ ?_ _; rotate_left; focus (first | exact Nat.le_refl _ | omega | (simp; omega) | (simp; done))))); with_reducible exact HB.out.2
      · have d2 := str_ne he
        have HZ := Lib.hid (fontOf_take HFK.out he HF.out)
        clear he
        go_wp2_with fail
        go_roundw
        case rel => exact ⟨k + 1, by omega, by go_num, HZ, Lib.hid ⟨HB.out.1.old _, HB.out.2.alloc HB.out.2.size _⟩⟩
        case measure => simp [intOf]; omega
    · obtain rfl : k = n := by omega
      have d1 : decide ((k : Int) < (k : Int)) = false := by simp
      have HZ := HF
      rw [List.take_of_length_le (by rw [HL.out]; exact Nat.le_refl _)] at HZ
      go_wp2_with fail
      refine bodyPost_ret (v := .tuple #[.agg #[.bool false, .slice none 0 0, .int .i64 0], .bool false]) (by simp [results, Tryz.results56, go_sem, rd]) rfl ⟨by rw [HZ.out]; rfl, ?_⟩
      (repeat (first | with_reducible refine Below.drew ?_ | with_reducible refine bdrewN ?_ _ | (with_reducible refine Below.setCell ?_ ?_ _; rotate_left; focus (first | exact Nat.le_refl _ | omega | (simp; omega) | (simp; done))) | (with_reducible refine Below.alloc ?_ ?_ _; rotate_left; focus (first | exact Nat.le_refl _ | omega | (simp; omega) | (simp; done))))); with_reducible exact HB.out.2
end Go.Proofs.YtdlmhienolmncaaGreat
