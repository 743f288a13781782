/- raster: Samples at a sound image. -/
import Derived.Test.YtmleoagdelgddaaRasU
import Derived.BigQuiet
import Derived.Deep.QuietTactic
namespace Go.Proofs.Ytmleoagdelgddaa
open Go.RowKit Dec
attribute [local go_sem] Oper.semAt_some
set_option linter.unusedSimpArgs false

/-- The row behind m rounds. -/
def fillS (bs : List Nat) (B S P N m : Nat) : List Nat := (List.range m).map (smp bs B S P) ++ List.replicate (N - m) 0
theorem fillS_len (bs : List Nat) (B S P : Nat) {N m : Nat} (h : m ≤ N) : (fillS bs B S P N m).length = N := by unfold fillS; simp; omega
theorem fillS_step (bs : List Nat) (B S P : Nat) {N m : Nat} (h : m < N) : (fillS bs B S P N m).set m (smp bs B S P m) = fillS bs B S P N (m + 1) := by
  unfold fillS
  rw [List.set_append_right _ _ (by simp), show N - m = (N - (m + 1)) + 1 by omega, List.replicate_succ]
  simp [List.range_succ]
theorem fillS_done (bs : List Nat) (B S P N : Nat) : fillS bs B S P N N = (List.range N).map (smp bs B S P) := by unfold fillS; simp
theorem SRow.put {w v : World} {L D R N m : Nat} {im : Array Value} {l : List Nat} (h : SRow w L D R N im l v) (x : Nat) : SRow w L D R N im (l.set m x) (v.setCell ⟨R, m, none⟩ (.int .i64 (x : Int))) :=
  ⟨h.below.setCell (p := ⟨R, m, none⟩) h.low.2.2.2.1 _, ⟨h.low.1, by simpa using h.low.2.1, h.low.2.2⟩, h.im.away (p := ⟨R, m, none⟩) h.low.2.2.2.2.2.1 _, Whole.away h.box (p := ⟨R, m, none⟩) h.low.2.2.2.2.2.2 _, by
    have := h.row.set m (.int .i64 (x : Int))
    rwa [show (nvs l).toArray.setIfInBounds m (.int .i64 (x : Int)) = (nvs (l.set m x)).toArray by simp [nvs, List.map_set]] at this, by simp [h.len]⟩
theorem SRow.cell {w v : World} {L D R N m : Nat} {im : Array Value} {l : List Nat} (h : SRow w L D R N im l v) (hm : m < N) : ∃ y : Nat, v.cell? ⟨R, m, none⟩ = some (.int .i64 (y : Int)) := by
  have hl := h.len
  refine ⟨l.getD m 0, (h.row.reads m).trans ?_⟩
  simp [nvs, List.getElem?_eq_getElem (show m < l.length by omega), List.getD_eq_getElem?_getD]
theorem SRow.fr {w v v' : World} {L D R N : Nat} {im : Array Value} {l : List Nat} (h : SRow w L D R N im l v) (hf : Fr (fun _ => False) v v') : SRow w L D R N im l v' :=
  h.later ⟨hf.os, hf.tape, hf.output, hf.size, fun i hi => hf.block i hi (fun e => e)⟩
theorem below_pu {w v : World} {E : Nat} (o' : Obj) (h : Below w.heap.size w v) (hE : w.heap.size ≤ E) : Below w.heap.size w (v.putObj E o') := ⟨h.os, h.tape, h.output, by simpa using h.size, fun i hi => (World.putObj_heap_other (by omega)).trans (h.block i hi)⟩
theorem SRow.putObj {w v : World} {L D R N E : Nat} {im : Array Value} {l : List Nat} {o : Obj} (h : SRow w L D R N im l v) (hE : w.heap.size ≤ E) (o' : Obj) (ho : v.heap[E]? = some o) (hc : o.isCells = false) : Whole (v.putObj E o') R 3 (nvs l).toArray ∧ Below w.heap.size w (v.putObj E o') := by
  refine ⟨?_, below_pu o' h.below hE⟩
  have hne : R ≠ E := fun e => by
    subst e
    have e2 := ho.symm.trans (show v.heap[R]? = some (.cells _ 3 (0, 0)) from h.row)
    injection e2 with e2
    subst e2
    cases hc
  exact (World.putObj_heap_other hne).trans h.row
theorem samples_start {w V : World} {L D R N W H B C n c : Nat} {A : Option Addr} {bs l : List Nat} (h : SRow w L D R N #[.int .i64 (W : Int), .int .i64 (H : Int), .int .i64 (B : Int), .int .i64 (C : Int), .slice A n c] l V) (hA : Bytes w A n c bs) :
    SRow w L D R N #[.int .i64 (W : Int), .int .i64 (H : Int), .int .i64 (B : Int), .int .i64 (C : Int), .slice A n c] l (V.alloc (.cells #[.int .i64 (W : Int), .int .i64 (H : Int), .int .i64 (B : Int), .int .i64 (C : Int), .slice A n c] 24)) ∧ TIm V.heap.size w.heap.size W H B C A n c bs (V.alloc (.cells #[.int .i64 (W : Int), .int .i64 (H : Int), .int .i64 (B : Int), .int .i64 (C : Int), .slice A n c] 24)) ∧ R < V.heap.size := by
  have hb : Below V.heap.size V (V.alloc (.cells #[.int .i64 (W : Int), .int .i64 (H : Int), .int .i64 (B : Int), .int .i64 (C : Int), .slice A n c] 24)) := (Below.refl _ _).alloc (Nat.le_refl _) _
  refine ⟨h.later hb, ⟨Whole.made _ _ _, hA.below (h.below.trans (hb.mono h.below.size)), fun h0 R o e => ?_⟩, h.row.lt⟩
  obtain ⟨R', o', e', hR', _⟩ := hA.at_ h0
  rw [e] at e'
  injection e' with e'
  injection e' with e1 e2
  omega
set_option maxRecDepth 100000 in
set_option maxHeartbeats 4000000 in
theorem samples_good (W H B C P S N : Nat) (A : Option Addr) (n c : Nat) (bs : List Nat) (w : World) (hA : Bytes w A n c bs) (hk : chkB (W : Int) (H : Int) (B : Int) (C : Int) n = true) (hP : W * C = P) (hP2 : P ≤ 262144) (hN : H * P = N) (hN2 : N ≤ 262144) (hS : (P * B + 7) / 8 = S) (h0 : 0 < P) (hB : B = 1 ∨ B = 2 ∨ B = 4 ∨ B = 8 ∨ B = 16) (hn : n = H * S) :
    Calls Try.prog 10 #[.agg #[.int .i64 (W : Int), .int .i64 (H : Int), .int .i64 (B : Int), .int .i64 (C : Int), .slice A n c]] w fun e w' => ∃ R, e = .returned (.tuple #[.slice (some ⟨R, 0, none⟩) N N, .int .i64 0]) ∧ w.heap.size ≤ R ∧ Whole w' R 3 (nvs ((List.range N).map (smp bs B S P))).toArray ∧ Below w.heap.size w w' := by
  have HC := Lib.hid (fun w => rcheck_any (W : Int) (H : Int) (B : Int) (C : Int) A n c w)
  rw [hk] at HC
  have HPR := Lib.hid (fun w => perRow_any (W : Int) (H : Int) (B : Int) (C : Int) A n c (P : Int) w (by rw [← Int.natCast_mul, hP, IntKind.wrap_i64]; omega))
  have e1 : IntKind.i64.wrap ((H : Int) * (P : Int)) = (N : Int) := by rw [← Int.natCast_mul, hN, IntKind.wrap_i64]; omega
  obtain ⟨Z, hZ⟩ : ∃ Z, (nvs (List.replicate N 0)).toArray = Z := ⟨_, rfl⟩
  have hmk : ∀ V : World, (Instr.makeSlice 25 (.int .i64 (N : Int)) (.int .i64 (N : Int))).run Try.prog V = .ok (.slice (some ⟨V.heap.size, 0, none⟩) N N) (V.alloc (.cells Z 3)) := fun V => hZ ▸ make_ints N (by omega) V
  have HW := Lib.hid (Whole.made w 24 #[.int .i64 (W : Int), .int .i64 (H : Int), .int .i64 (B : Int), .int .i64 (C : Int), .slice A n c])
  have HV := (Below.refl w.heap.size w).alloc (Nat.le_refl _) (.cells #[.int .i64 (W : Int), .int .i64 (H : Int), .int .i64 (B : Int), .int .i64 (C : Int), .slice A n c] 24)
  have HX := Lib.hid hA
  have HPS := Lib.hid (And.intro hP (And.intro hS (And.intro h0 (And.intro hB (And.intro hn hN)))))
  clear hk hA hP hS h0 hB hn hN
  refine (callsIn_wide (n := 3)).1 ?_
  refine callsIn_of_wp_marks Try.func10 rfl trivial ?_ rfl
  simp only [Try.ntmps10, List.size_toArray, List.length_cons, List.length_nil, Nat.reduceAdd, Nat.reduceSub, Array.replicate_succ, Array.replicate_zero, List.push_toArray, List.append_toArray, List.nil_append, List.cons_append]
  gi_wp2_with (refine ⟨trivial, ?_⟩; gi_at_call 17; refine (callsIn_wide.2 (HC.out _)).mono ?_; rintro e w1 ⟨rfl, hb1⟩)
  have hI1 := Lib.hid (HW.out.here hb1)
  have HB1 := Lib.hid (HV.trans (hb1.mono HV.size))
  clear hb1
  have lI := hI1.out.lt
  have HK := Below.refl w1.heap.size w1
  have hkz := HK.size
  refine wpIn_wide.2 ?_
  go_region_held3 (fun v => v.cell? ⟨w.heap.size, 0, none⟩ = some (.int .i64 (W : Int)) ∧ v.cell? ⟨w.heap.size, 1, none⟩ = some (.int .i64 (H : Int)) ∧ v.cell? ⟨w.heap.size, 2, none⟩ = some (.int .i64 (B : Int)) ∧ v.cell? ⟨w.heap.size, 3, none⟩ = some (.int .i64 (C : Int)) ∧ v.cell? ⟨w.heap.size, 4, none⟩ = some (.slice A n c))
    (with_reducible refine img_cells (hI1.out.here ?_); (repeat (first | with_reducible exact HK | with_reducible refine Below.drew ?_ | (with_reducible refine Below.alloc ?_ ?_ _; rotate_left; focus (first | exact hkz | exact Nat.le_refl _ | omega | (simp; omega))) | (with_reducible refine Below.setCell ?_ ?_ _; rotate_left; focus (first | exact Nat.le_refl _ | exact hkz | omega | (simp; omega) | (simp; done))))))
    (first
      | (go_at_call 27; (with_reducible refine (HPR.out _).mono ?_); rintro x v ⟨rfl, kk⟩; have HK := (Below.drew HK).trans (kk.mono (Below.drew HK).size); have hkz := HK.size)
      | (go_at_call 27; (with_reducible refine (HPR.out _).mono ?_); rintro x v ⟨rfl, kk⟩; have kk := undrew2 kk; have hD := (Whole.made w1 25 #[.slice none 0 0]).here kk; have HK := (HK.alloc HK.size _).trans (kk.mono (by simp)); have rD := hD.reads 0; have fD := hD.thawed; have lD := hD.lt; have hkz := HK.size))
  · have hs := (srow_a (N := N) (l := List.replicate N 0) HB1.out (Nat.le_refl _) hI1.out HK (by simp))
    rw [hZ] at hs
    have cI := img_cells hs.im
    have HS := Lib.hid hs
    clear hs
    obtain ⟨c0, c1, c2, c3, c4⟩ := cI
    gi_wp2_with (refine ⟨trivial, ?_⟩; gi_at_call 28; refine (samples_call _ open_wide _ _ _ _ _ _ _ _ rfl).mono ?_; rintro e w' ⟨rfl, rfl⟩)
    obtain ⟨hi0, ht0, hRB⟩ := samples_start HS.out HX.out
    simp only [World.size_alloc, World.size_setCell] at ht0 hRB
    have hlw := HS.out.low
    simp only [World.size_alloc, World.size_setCell] at hlw
    have hbs := HB1.out.size
    clear c0 c1 c2 c3 c4
    refine wpIn_iter rfl (by omega) (gf := 47) (lb := #[.pointer (some ⟨v.heap.size + 1 + 1, 0, none⟩)]) rfl trivial (enters_of Try.func47 (by kernel_rfl) rfl)
      (samples_iter (v.heap.size + 1 + 1) w.heap.size 2 W H B C P S N A n c (by omega) bs HPS.out.1 HPS.out.2.1 HPS.out.2.2.1 (by rw [HPS.out.2.2.2.2.2]; exact hN2) hP2 HPS.out.2.2.2.1 HPS.out.2.2.2.2.1 HPS.out.2.2.2.2.2) ?hS (fun h k => Fr.trans h k (fun _ _ e => e)) ?hKb ?hps ?hT ?hY
      (fun m V => m ≤ N ∧ SRow w w.heap.size (v.heap.size + 1) (v.heap.size) N #[.int .i64 (W : Int), .int .i64 (H : Int), .int .i64 (B : Int), .int .i64 (C : Int), .slice A n c] (fillS bs B S P N m) V) (fun _ _ _ => False) ?hI ?hIx ?hIS ?hIxS ?h0 ?hT0
      (fun vs => { tmps := #[.agg #[.int .i64 (W : Int), .int .i64 (H : Int), .int .i64 (B : Int), .int .i64 (C : Int), .slice A n c], .pointer (some ⟨w.heap.size, 0, none⟩), .slice none 0 0, .int .i64 0, .int .i64 0, .pointer (some ⟨v.heap.size + 1, 0, none⟩), vs.getD 0 undef, vs.getD 1 undef, .agg #[.int .i64 (W : Int), .int .i64 (H : Int), .int .i64 (B : Int), .int .i64 (C : Int), .slice A n c], .int .i64 0, .int .i64 0, .bool false, undef, .pointer (some ⟨w.heap.size, 1, none⟩), .int .i64 (H : Int), .agg #[.int .i64 (W : Int), .int .i64 (H : Int), .int .i64 (B : Int), .int .i64 (C : Int), .slice A n c], .int .i64 (P : Int), .int .i64 (N : Int), .slice (some ⟨v.heap.size, 0, none⟩) N N, .agg #[.int .i64 (W : Int), .int .i64 (H : Int), .int .i64 (B : Int), .int .i64 (C : Int), .slice A n c], .func (.func 47) #[] #[.pointer (some ⟨v.heap.size + 1 + 1, 0, none⟩)], vs.getD 0 undef, vs.getD 1 undef, undef, undef, undef, undef, undef], defers := [] }) ?assign ?body ?done (fun _ _ _ _ _ h _ => h.elim)
    case hS => intro k hk; exact hk.elim
    case hKb => intro X l o o' hl ho _; (try simp only [World.size_alloc, World.size_setCell] at hl); exact fr_putObj o' ⟨by omega, by omega⟩
    case hps => rintro s vs t X ⟨_, _, rfl⟩; rfl
    case hT => intro s X X' row hs hg hr; (try simp only [World.size_alloc, World.size_setCell] at hr); exact hs.kept (Kept.of_grown hg hr (by first | omega | (simp; omega)))
    case hY => intro s vs t X l o o' hy _ hl ho; exact hy
    case hI => intro s X X' row hs hg hr; exact ⟨hs.1, hs.2.kept (Kept.of_grown hg hr (by first | omega | (simp; omega)))⟩
    case hIx => intro c s X X' row hs hg hr; exact hs.elim
    case hIS => intro s X X' hs hf _; exact ⟨hs.1, hs.2.fr hf⟩
    case hIxS => intro c s X X' hs hf _; exact hs.elim
    case h0 => exact ⟨Nat.zero_le _, by show SRow _ _ _ _ _ _ (List.replicate N 0) _; exact hi0⟩
    case hT0 => exact ht0
    case assign =>
      intro l s vs t X K hy hK
      obtain ⟨_, _, rfl⟩ := hy
      gi_wp2
      exact hK
    case body =>
      rintro l m vs t X ⟨hmN, hsr⟩ ht ⟨hlt, rfl, rfl⟩
      obtain ⟨y, cy⟩ := hsr.cell hlt
      have cz := hsr.row.thawed m
      have cb := hsr.box.cell
      have lR := hsr.row.lt
      have lD := hsr.box.lt
      have HN := Lib.hid (fillS_step bs B S P hlt ▸ hsr.put (m := m) (smp bs B S P m))
      clear hsr ht
      gi_wp2
      refine ⟨(KeepsOthers.setCell _ _ _).from _, (Fr.refl _ _).set (p := ⟨v.heap.size, m, none⟩) (fun _ => ⟨by show w.heap.size ≤ v.heap.size; omega, by show v.heap.size ≠ v.heap.size + 1 + 1; omega⟩) _, by omega, HN.out⟩
    case done =>
      rintro E s X hE hd ⟨hle, hsr⟩ hX
      have hd : N ≤ s := hd
      obtain rfl : s = N := by omega
      rw [fillS_done] at hsr
      have cb := hsr.box.cell
      have lD := hsr.box.lt
      have HF := Lib.hid (hsr.putObj (E := E) (by (try simp only [World.size_alloc, World.size_setCell] at hE); omega) (.deferred none) hX rfl)
      clear hsr
      gi_wp2
      refine ⟨by simp, .inl ⟨_, _, rfl, run_takeDeferred hX, ?_⟩⟩
      exact ⟨.tuple #[.slice (some ⟨v.heap.size, 0, none⟩) s s, .int .i64 0], by simp [results, Try.results10, go_sem], v.heap.size, rfl, by omega, HF.out.1, HF.out.2⟩
  · have hs := (srow_b (N := N) (l := List.replicate N 0) HB1.out (Nat.le_refl _) hI1.out HK (by simp))
    rw [hZ] at hs
    have cI := img_cells hs.im
    have HS := Lib.hid hs
    clear hs
    obtain ⟨c0, c1, c2, c3, c4⟩ := cI
    gi_wp2_with (refine ⟨trivial, ?_⟩; gi_at_call 28; refine (samples_call _ open_wide _ _ _ _ _ _ _ _ rfl).mono ?_; rintro e w' ⟨rfl, rfl⟩)
    obtain ⟨hi0, ht0, hRB⟩ := samples_start HS.out HX.out
    simp only [World.size_alloc, World.size_setCell] at ht0 hRB
    have hlw := HS.out.low
    simp only [World.size_alloc, World.size_setCell] at hlw
    have hbs := HB1.out.size
    clear c0 c1 c2 c3 c4
    refine wpIn_iter rfl (by omega) (gf := 47) (lb := #[.pointer (some ⟨v.heap.size + 1 + 1, 0, none⟩)]) rfl trivial (enters_of Try.func47 (by kernel_rfl) rfl)
      (samples_iter (v.heap.size + 1 + 1) w.heap.size 2 W H B C P S N A n c (by omega) bs HPS.out.1 HPS.out.2.1 HPS.out.2.2.1 (by rw [HPS.out.2.2.2.2.2]; exact hN2) hP2 HPS.out.2.2.2.1 HPS.out.2.2.2.2.1 HPS.out.2.2.2.2.2) ?hS (fun h k => Fr.trans h k (fun _ _ e => e)) ?hKb ?hps ?hT ?hY
      (fun m V => m ≤ N ∧ SRow w w.heap.size (v.heap.size) (v.heap.size + 1) N #[.int .i64 (W : Int), .int .i64 (H : Int), .int .i64 (B : Int), .int .i64 (C : Int), .slice A n c] (fillS bs B S P N m) V) (fun _ _ _ => False) ?hI ?hIx ?hIS ?hIxS ?h0 ?hT0
      (fun vs => { tmps := #[.agg #[.int .i64 (W : Int), .int .i64 (H : Int), .int .i64 (B : Int), .int .i64 (C : Int), .slice A n c], .pointer (some ⟨w.heap.size, 0, none⟩), .slice none 0 0, .int .i64 0, .int .i64 0, .pointer (some ⟨v.heap.size, 0, none⟩), vs.getD 0 undef, vs.getD 1 undef, .agg #[.int .i64 (W : Int), .int .i64 (H : Int), .int .i64 (B : Int), .int .i64 (C : Int), .slice A n c], .int .i64 0, .int .i64 0, .bool false, undef, .pointer (some ⟨w.heap.size, 1, none⟩), .int .i64 (H : Int), .agg #[.int .i64 (W : Int), .int .i64 (H : Int), .int .i64 (B : Int), .int .i64 (C : Int), .slice A n c], .int .i64 (P : Int), .int .i64 (N : Int), .slice (some ⟨v.heap.size + 1, 0, none⟩) N N, .agg #[.int .i64 (W : Int), .int .i64 (H : Int), .int .i64 (B : Int), .int .i64 (C : Int), .slice A n c], .func (.func 47) #[] #[.pointer (some ⟨v.heap.size + 1 + 1, 0, none⟩)], vs.getD 0 undef, vs.getD 1 undef, undef, undef, undef, undef, undef], defers := [] }) ?assign ?body ?done (fun _ _ _ _ _ h _ => h.elim)
    case hS => intro k hk; exact hk.elim
    case hKb => intro X l o o' hl ho _; (try simp only [World.size_alloc, World.size_setCell] at hl); exact fr_putObj o' ⟨by omega, by omega⟩
    case hps => rintro s vs t X ⟨_, _, rfl⟩; rfl
    case hT => intro s X X' row hs hg hr; (try simp only [World.size_alloc, World.size_setCell] at hr); exact hs.kept (Kept.of_grown hg hr (by first | omega | (simp; omega)))
    case hY => intro s vs t X l o o' hy _ hl ho; exact hy
    case hI => intro s X X' row hs hg hr; exact ⟨hs.1, hs.2.kept (Kept.of_grown hg hr (by first | omega | (simp; omega)))⟩
    case hIx => intro c s X X' row hs hg hr; exact hs.elim
    case hIS => intro s X X' hs hf _; exact ⟨hs.1, hs.2.fr hf⟩
    case hIxS => intro c s X X' hs hf _; exact hs.elim
    case h0 => exact ⟨Nat.zero_le _, by show SRow _ _ _ _ _ _ (List.replicate N 0) _; exact hi0⟩
    case hT0 => exact ht0
    case assign =>
      intro l s vs t X K hy hK
      obtain ⟨_, _, rfl⟩ := hy
      gi_wp2
      exact hK
    case body =>
      rintro l m vs t X ⟨hmN, hsr⟩ ht ⟨hlt, rfl, rfl⟩
      obtain ⟨y, cy⟩ := hsr.cell hlt
      have cz := hsr.row.thawed m
      have cb := hsr.box.cell
      have lR := hsr.row.lt
      have lD := hsr.box.lt
      have HN := Lib.hid (fillS_step bs B S P hlt ▸ hsr.put (m := m) (smp bs B S P m))
      clear hsr ht
      gi_wp2
      refine ⟨(KeepsOthers.setCell _ _ _).from _, (Fr.refl _ _).set (p := ⟨v.heap.size + 1, m, none⟩) (fun _ => ⟨by show w.heap.size ≤ v.heap.size + 1; omega, by show v.heap.size + 1 ≠ v.heap.size + 1 + 1; omega⟩) _, by omega, HN.out⟩
    case done =>
      rintro E s X hE hd ⟨hle, hsr⟩ hX
      have hd : N ≤ s := hd
      obtain rfl : s = N := by omega
      rw [fillS_done] at hsr
      have cb := hsr.box.cell
      have lD := hsr.box.lt
      have HF := Lib.hid (hsr.putObj (E := E) (by (try simp only [World.size_alloc, World.size_setCell] at hE); omega) (.deferred none) hX rfl)
      clear hsr
      gi_wp2
      refine ⟨by simp, .inl ⟨_, _, rfl, run_takeDeferred hX, ?_⟩⟩
      exact ⟨.tuple #[.slice (some ⟨v.heap.size + 1, 0, none⟩) s s, .int .i64 0], by simp [results, Try.results10, go_sem], v.heap.size + 1, rfl, by omega, HF.out.1, HF.out.2⟩
  · have hs := (srow_c (N := N) (l := List.replicate N 0) HB1.out (Nat.le_refl _) hI1.out HK hD (Nat.le_refl _) (by simp))
    rw [hZ] at hs
    have cI := img_cells hs.im
    have HS := Lib.hid hs
    clear hs
    obtain ⟨c0, c1, c2, c3, c4⟩ := cI
    gi_wp2_with (refine ⟨trivial, ?_⟩; gi_at_call 28; refine (samples_call _ open_wide _ _ _ _ _ _ _ _ rfl).mono ?_; rintro e w' ⟨rfl, rfl⟩)
    obtain ⟨hi0, ht0, hRB⟩ := samples_start HS.out HX.out
    simp only [World.size_alloc, World.size_setCell] at ht0 hRB
    have hlw := HS.out.low
    simp only [World.size_alloc, World.size_setCell] at hlw
    have hbs := HB1.out.size
    clear c0 c1 c2 c3 c4
    refine wpIn_iter rfl (by omega) (gf := 47) (lb := #[.pointer (some ⟨v.heap.size + 1, 0, none⟩)]) rfl trivial (enters_of Try.func47 (by kernel_rfl) rfl)
      (samples_iter (v.heap.size + 1) w.heap.size 2 W H B C P S N A n c (by omega) bs HPS.out.1 HPS.out.2.1 HPS.out.2.2.1 (by rw [HPS.out.2.2.2.2.2]; exact hN2) hP2 HPS.out.2.2.2.1 HPS.out.2.2.2.2.1 HPS.out.2.2.2.2.2) ?hS (fun h k => Fr.trans h k (fun _ _ e => e)) ?hKb ?hps ?hT ?hY
      (fun m V => m ≤ N ∧ SRow w w.heap.size (w1.heap.size) (v.heap.size) N #[.int .i64 (W : Int), .int .i64 (H : Int), .int .i64 (B : Int), .int .i64 (C : Int), .slice A n c] (fillS bs B S P N m) V) (fun _ _ _ => False) ?hI ?hIx ?hIS ?hIxS ?h0 ?hT0
      (fun vs => { tmps := #[.agg #[.int .i64 (W : Int), .int .i64 (H : Int), .int .i64 (B : Int), .int .i64 (C : Int), .slice A n c], .pointer (some ⟨w.heap.size, 0, none⟩), .slice none 0 0, .int .i64 0, .int .i64 0, .pointer (some ⟨w1.heap.size, 0, none⟩), vs.getD 0 undef, vs.getD 1 undef, .agg #[.int .i64 (W : Int), .int .i64 (H : Int), .int .i64 (B : Int), .int .i64 (C : Int), .slice A n c], .int .i64 0, .int .i64 0, .bool false, undef, .pointer (some ⟨w.heap.size, 1, none⟩), .int .i64 (H : Int), .agg #[.int .i64 (W : Int), .int .i64 (H : Int), .int .i64 (B : Int), .int .i64 (C : Int), .slice A n c], .int .i64 (P : Int), .int .i64 (N : Int), .slice (some ⟨v.heap.size, 0, none⟩) N N, .agg #[.int .i64 (W : Int), .int .i64 (H : Int), .int .i64 (B : Int), .int .i64 (C : Int), .slice A n c], .func (.func 47) #[] #[.pointer (some ⟨v.heap.size + 1, 0, none⟩)], vs.getD 0 undef, vs.getD 1 undef, undef, undef, undef, undef, undef], defers := [] }) ?assign ?body ?done (fun _ _ _ _ _ h _ => h.elim)
    case hS => intro k hk; exact hk.elim
    case hKb => intro X l o o' hl ho _; (try simp only [World.size_alloc, World.size_setCell] at hl); exact fr_putObj o' ⟨by omega, by omega⟩
    case hps => rintro s vs t X ⟨_, _, rfl⟩; rfl
    case hT => intro s X X' row hs hg hr; (try simp only [World.size_alloc, World.size_setCell] at hr); exact hs.kept (Kept.of_grown hg hr (by first | omega | (simp; omega)))
    case hY => intro s vs t X l o o' hy _ hl ho; exact hy
    case hI => intro s X X' row hs hg hr; exact ⟨hs.1, hs.2.kept (Kept.of_grown hg hr (by first | omega | (simp; omega)))⟩
    case hIx => intro c s X X' row hs hg hr; exact hs.elim
    case hIS => intro s X X' hs hf _; exact ⟨hs.1, hs.2.fr hf⟩
    case hIxS => intro c s X X' hs hf _; exact hs.elim
    case h0 => exact ⟨Nat.zero_le _, by show SRow _ _ _ _ _ _ (List.replicate N 0) _; exact hi0⟩
    case hT0 => exact ht0
    case assign =>
      intro l s vs t X K hy hK
      obtain ⟨_, _, rfl⟩ := hy
      gi_wp2
      exact hK
    case body =>
      rintro l m vs t X ⟨hmN, hsr⟩ ht ⟨hlt, rfl, rfl⟩
      obtain ⟨y, cy⟩ := hsr.cell hlt
      have cz := hsr.row.thawed m
      have cb := hsr.box.cell
      have lR := hsr.row.lt
      have lD := hsr.box.lt
      have HN := Lib.hid (fillS_step bs B S P hlt ▸ hsr.put (m := m) (smp bs B S P m))
      clear hsr ht
      gi_wp2
      refine ⟨(KeepsOthers.setCell _ _ _).from _, (Fr.refl _ _).set (p := ⟨v.heap.size, m, none⟩) (fun _ => ⟨by show w.heap.size ≤ v.heap.size; omega, by show v.heap.size ≠ v.heap.size + 1; omega⟩) _, by omega, HN.out⟩
    case done =>
      rintro E s X hE hd ⟨hle, hsr⟩ hX
      have hd : N ≤ s := hd
      obtain rfl : s = N := by omega
      rw [fillS_done] at hsr
      have cb := hsr.box.cell
      have lD := hsr.box.lt
      have HF := Lib.hid (hsr.putObj (E := E) (by (try simp only [World.size_alloc, World.size_setCell] at hE); omega) (.deferred none) hX rfl)
      clear hsr
      gi_wp2
      refine ⟨by simp, .inl ⟨_, _, rfl, run_takeDeferred hX, ?_⟩⟩
      exact ⟨.tuple #[.slice (some ⟨v.heap.size, 0, none⟩) s s, .int .i64 0], by simp [results, Try.results10, go_sem], v.heap.size, rfl, by omega, HF.out.1, HF.out.2⟩
end Go.Proofs.Ytmleoagdelgddaa
/- raster: two rows of numbers, of Bools, compared. -/
namespace Go.Proofs.Ytmleoagdelgddaa
open Go.RowKit Dec

/-- A row of numbers. -/
structure IntsAt (w : World) (A : Option Addr) (n c : Nat) (l : List Int) : Prop where
  len : l.length = n
  cap : n ≤ c
  top : c ≤ 9223372036854775807
  at_ : 0 < n → ∃ R o, A = some ⟨R, o, none⟩ ∧ R < w.heap.size ∧ ∀ (i : Nat) (x : Int), l[i]? = some x → w.cell? ⟨R, o + i, none⟩ = some (.int .i64 x)
theorem IntsAt.below {w w' : World} {A : Option Addr} {n c : Nat} {l : List Int} (h : IntsAt w A n c l) (hg : Below w.heap.size w w') : IntsAt w' A n c l :=
  ⟨h.len, h.cap, h.top, fun hn => by
    obtain ⟨R, o, e, hR, hc⟩ := h.at_ hn
    exact ⟨R, o, e, Nat.lt_of_lt_of_le hR hg.size, fun i x hx => (hg.cell (p := ⟨R, o + i, none⟩) hR).trans (hc i x hx)⟩⟩
theorem IntsAt.whole {w : World} {R n : Nat} {T : TypeId} {cs : Array Value} {l : List Int} (h : Whole w R T cs) (hl : l.length = n) (hn : n ≤ 9223372036854775807) (hc : ∀ (i : Nat) (x : Int), l[i]? = some x → cs[i]? = some (.int .i64 x)) : IntsAt w (some ⟨R, 0, none⟩) n n l :=
  ⟨hl, Nat.le_refl _, hn, fun _ => ⟨R, 0, rfl, h.lt, fun i x hx => by rw [Nat.zero_add]; exact (h.reads i).trans (hc i x hx)⟩⟩
/-- A row of Bools. -/
structure BoolsAt (w : World) (A : Option Addr) (n c : Nat) (l : List Bool) : Prop where
  len : l.length = n
  cap : n ≤ c
  top : c ≤ 9223372036854775807
  at_ : 0 < n → ∃ R o, A = some ⟨R, o, none⟩ ∧ R < w.heap.size ∧ ∀ (i : Nat) (x : Bool), l[i]? = some x → w.cell? ⟨R, o + i, none⟩ = some (.bool x)
theorem BoolsAt.below {w w' : World} {A : Option Addr} {n c : Nat} {l : List Bool} (h : BoolsAt w A n c l) (hg : Below w.heap.size w w') : BoolsAt w' A n c l :=
  ⟨h.len, h.cap, h.top, fun hn => by
    obtain ⟨R, o, e, hR, hc⟩ := h.at_ hn
    exact ⟨R, o, e, Nat.lt_of_lt_of_le hR hg.size, fun i x hx => (hg.cell (p := ⟨R, o + i, none⟩) hR).trans (hc i x hx)⟩⟩
theorem BoolsAt.whole {w : World} {R n : Nat} {T : TypeId} {cs : Array Value} {l : List Bool} (h : Whole w R T cs) (hl : l.length = n) (hn : n ≤ 9223372036854775807) (hc : ∀ (i : Nat) (x : Bool), l[i]? = some x → cs[i]? = some (.bool x)) : BoolsAt w (some ⟨R, 0, none⟩) n n l :=
  ⟨hl, Nat.le_refl _, hn, fun _ => ⟨R, 0, rfl, h.lt, fun i x hx => by rw [Nat.zero_add]; exact (h.reads i).trans (hc i x hx)⟩⟩
set_option maxRecDepth 100000 in
set_option maxHeartbeats 4000000 in
theorem ints_same (A : Option Addr) (n c : Nat) (A2 : Option Addr) (n2 c2 : Nat) (l : List Int) (w : World) (h : IntsAt w A n c l) (h2 : IntsAt w A2 n2 c2 l) :
    Calls Try.prog 19 #[.slice A n c, .slice A2 n2 c2] w fun e w' => e = .returned (.bool true) ∧ ∃ j, w' = w.drewN j := by
  have hl := h.len
  have hl2 := h2.len
  subst hl
  subst hl2
  have hcap := h.cap
  have htop := h.top
  have hcap2 := h2.cap
  have htop2 := h2.top
  have H := Lib.hid h
  have H2 := Lib.hid h2
  clear h h2
  go_enter Try.func19, Try.ntmps19
  go_wp2_with fail
  go_loopw [5] (fun i wr => ∃ k : Nat, k ≤ l.length ∧ i = .int .i64 k ∧ ∃ j, wr = w.drewN j) (fun i _ => l.length - (intOf i).toNat)
  case atStart => exact ⟨0, by omega, rfl, 0, rfl⟩
  case round =>
    obtain ⟨k, hk, rfl, q, rfl⟩ := hrel
    by_cases hlt : k < l.length
    · obtain ⟨x, hx⟩ : ∃ x, l[k]? = some x := ⟨_, List.getElem?_eq_getElem hlt⟩
      obtain ⟨R, o, rfl, hR, hc⟩ := H.out.at_ (by omega)
      obtain ⟨R2, o2, rfl, hR2, hc2⟩ := H2.out.at_ (by omega)
      have g0 : w.cell? ⟨R, o + k, none⟩ = some (.int .i64 x) := hc k x hx
      have g1 : w.cell? ⟨R2, o2 + k, none⟩ = some (.int .i64 x) := hc2 k x hx
      clear hx hc hc2
      have b0 : (0 : Int) ≤ (k : Int) := by omega
      have b1 : (k : Int) < (l.length : Int) := by omega
      go_wp2_with fail
      go_quiet (fail)
      go_wp2_with fail
      refine ⟨⟨k + 1, by omega, by go_num, q + nq, rfl⟩, by simp [intOf]; omega⟩
    · obtain rfl : k = l.length := by omega
      go_wp2
      go_ret
      exact ⟨rfl, _, rfl⟩
set_option maxRecDepth 100000 in
set_option maxHeartbeats 4000000 in
theorem bools_same (A : Option Addr) (n c : Nat) (A2 : Option Addr) (n2 c2 : Nat) (l : List Bool) (w : World) (h : BoolsAt w A n c l) (h2 : BoolsAt w A2 n2 c2 l) :
    Calls Try.prog 24 #[.slice A n c, .slice A2 n2 c2] w fun e w' => e = .returned (.bool true) ∧ ∃ j, w' = w.drewN j := by
  have hl := h.len
  have hl2 := h2.len
  subst hl
  subst hl2
  have hcap := h.cap
  have htop := h.top
  have hcap2 := h2.cap
  have htop2 := h2.top
  have H := Lib.hid h
  have H2 := Lib.hid h2
  clear h h2
  go_enter Try.func24, Try.ntmps24
  go_wp2_with fail
  go_loopw [5] (fun i wr => ∃ k : Nat, k ≤ l.length ∧ i = .int .i64 k ∧ ∃ j, wr = w.drewN j) (fun i _ => l.length - (intOf i).toNat)
  case atStart => exact ⟨0, by omega, rfl, 0, rfl⟩
  case round =>
    obtain ⟨k, hk, rfl, q, rfl⟩ := hrel
    by_cases hlt : k < l.length
    · obtain ⟨x, hx⟩ : ∃ x, l[k]? = some x := ⟨_, List.getElem?_eq_getElem hlt⟩
      obtain ⟨R, o, rfl, hR, hc⟩ := H.out.at_ (by omega)
      obtain ⟨R2, o2, rfl, hR2, hc2⟩ := H2.out.at_ (by omega)
      have g0 : w.cell? ⟨R, o + k, none⟩ = some (.bool x) := hc k x hx
      have g1 : w.cell? ⟨R2, o2 + k, none⟩ = some (.bool x) := hc2 k x hx
      clear hx hc hc2
      have b0 : (0 : Int) ≤ (k : Int) := by omega
      have b1 : (k : Int) < (l.length : Int) := by omega
      go_wp2_with fail
      go_quiet (fail)
      go_wp2_with fail
      refine ⟨⟨k + 1, by omega, by go_num, q + nq, rfl⟩, by simp [intOf]; omega⟩
    · obtain rfl : k = l.length := by omega
      go_wp2
      go_ret
      exact ⟨rfl, _, rfl⟩
end Go.Proofs.Ytmleoagdelgddaa
