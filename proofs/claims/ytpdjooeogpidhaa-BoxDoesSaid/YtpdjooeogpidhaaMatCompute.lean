/- The walk of matrix's compute. -/
import Derived.Test.YtpdjooeogpidhaaMatWalkA
import Derived.Test.YtpdjooeogpidhaaMem
namespace Go.Proofs.Ytpdjooeogpidhaa
open Go.RowKit Dec

/-- An element: what it was made of, what it answers, and where its variables lie. -/
structure El where
  a : DV
  b : DV
  c : DV
  d : DV
  l : DV
  r : DV
  E : Int
  B : Nat
/-- What it answers. -/
def El.Says (x : El) : Prop := x.a.Ok ∧ x.b.Ok ∧ x.c.Ok ∧ x.d.Ok ∧ x.l.Ok ∧ SumIs x.a x.b x.c x.d x.l x.r x.E
/-- It lies in memory. -/
def El.Lies (x : El) (w : World) : Prop := Caught w x.B x.a x.b x.c x.d x.l
theorem El.Says.E' {x : El} (h : x.Says) : x.E = 0 ∨ x.E = 5 := h.2.2.2.2.2.ok.2

theorem el_any (x : El) (w : World) (h : x.Says) (h' : x.Lies w) (E : Int) (hE : x.E = E) :
    Calls Try.prog 45 #[.pointer (some ⟨x.B, 0, none⟩), .pointer (some ⟨x.B + 1, 0, none⟩), .pointer (some ⟨x.B + 2, 0, none⟩), .pointer (some ⟨x.B + 3, 0, none⟩), .pointer (some ⟨x.B + 4, 0, none⟩)] w (IsD x.r E w) := by
  subst hE
  exact elem_any x.B x.a x.b x.c x.d x.l x.r x.E w h' h.1 h.2.1 h.2.2.1 h.2.2.2.1 h.2.2.2.2.1 h.2.2.2.2.2

theorem dec_info : (Try.prog.info? 23).map (fun i => (i.zero, i.size, i.bytes)) = some (some (.agg #[.int .i64 0, .int .i64 0]), 2, 16) := by kernel_rfl
theorem make_decs (n : Nat) (hn : n ≤ 100) : ∃ cs : Array Value, cs.size = n * 2 ∧ ∀ w : World,
    (Instr.makeSlice 52 (.int .i64 (n : Int)) (.int .i64 (n : Int))).run Try.prog w = .ok (.slice (some ⟨w.heap.size, 0, none⟩) n n) (w.alloc (.cells cs 23)) := by
  obtain ⟨i, hi, hz, hs, hy⟩ := info_parts dec_info
  refine ⟨madeCells (Value.agg #[.int .i64 0, .int .i64 0]).cells (n * i.size), by rw [size_madeCells, hs], fun w => ?_⟩
  · have := run_make (P := Try.prog) w 52 23 i _ Try.underlying52 hi hz .i64 .i64 n n (by omega) (by omega) (by rw [hy]; omega) (by omega)
    simp only [Int.toNat_natCast] at this
    exact this

/-- The first k results lie in block L. -/
def Filled (X : Nat → El) (L n k : Nat) (w : World) : Prop :=
  ∃ cs : Array Value, Whole w L 23 cs ∧ cs.size = n * 2 ∧ ∀ i < k, cs[i * 2]? = some (.int .i64 (X i).r.m) ∧ cs[i * 2 + 1]? = some (.int .i64 (X i).r.s)
theorem Filled.begin (X : Nat → El) (w : World) (n : Nat) (cs : Array Value) (h : cs.size = n * 2) : Filled X w.heap.size n 0 (w.alloc (.cells cs 23)) := ⟨cs, Whole.made _ _ _, h, fun i hi => absurd hi (by omega)⟩
theorem Filled.here {X : Nat → El} {L n k : Nat} {w w' : World} (h : Filled X L n k w) (hb : Below w.heap.size w w') : Filled X L n k w' := by
  obtain ⟨cs, h1, h2⟩ := h
  exact ⟨cs, h1.here hb, h2⟩
theorem Filled.lt {X : Nat → El} {L n k : Nat} {w : World} (h : Filled X L n k w) : L < w.heap.size := by
  obtain ⟨cs, h1, h2⟩ := h
  exact h1.lt
theorem Filled.room {X : Nat → El} {L n k : Nat} {w : World} (h : Filled X L n k w) (hk : k < n) :
    (∃ u, w.cell? ⟨L, k * 2, none⟩ = some u) ∧ (∃ u, w.cell? ⟨L, k * 2 + 1, none⟩ = some u) ∧ w.frozen? ⟨L, k * 2, none⟩ = false ∧ w.frozen? ⟨L, k * 2 + 1, none⟩ = false := by
  obtain ⟨cs, h1, h2, -⟩ := h
  refine ⟨⟨cs[k * 2]'(by omega), ?_⟩, ⟨cs[k * 2 + 1]'(by omega), ?_⟩, h1.thawed _, h1.thawed _⟩
  · rw [h1.reads, Array.getElem?_eq_getElem]
  · rw [h1.reads, Array.getElem?_eq_getElem]
theorem Filled.step {X : Nat → El} {L n k : Nat} {w : World} (h : Filled X L n k w) (hk : k < n) (o : Obj) :
    Filled X L n (k + 1) (((w.setCell ⟨L, k * 2, none⟩ (.int .i64 (X k).r.m)).setCell ⟨L, k * 2 + 1, none⟩ (.int .i64 (X k).r.s)).alloc o) := by
  obtain ⟨cs, h1, h2, h3⟩ := h
  refine ⟨_, ((h1.set _ _).set _ _).old _, by simpa using h2, fun i hi => ?_⟩
  rcases Nat.lt_or_ge i k with h | h
  · obtain ⟨a, b⟩ := h3 i h
    constructor
    · rw [Array.getElem?_setIfInBounds_ne (by omega), Array.getElem?_setIfInBounds_ne (by omega), a]
    · rw [Array.getElem?_setIfInBounds_ne (by omega), Array.getElem?_setIfInBounds_ne (by omega), b]
  · obtain rfl : i = k := by omega
    constructor
    · rw [Array.getElem?_setIfInBounds_ne (by omega), Array.getElem?_setIfInBounds_self_of_lt (by omega)]
    · rw [Array.getElem?_setIfInBounds_self_of_lt (by simp; omega)]

/-- What compute hands back. -/
def Computed (X : Nat → El) (n : Nat) (w : World) (e : Ending) (w' : World) : Prop :=
  Below w.heap.size w w' ∧ (((∃ i < n, (X i).E = 5) ∧ e = .returned (.tuple #[.slice none 0 0, .int .i64 5])) ∨
    ((∀ i < n, (X i).E = 0) ∧ ∃ L, e = .returned (.tuple #[.slice (some ⟨L, 0, none⟩) n n, .int .i64 0]) ∧ w.heap.size ≤ L ∧ Filled X L n n w'))

set_option maxHeartbeats 1000000 in
theorem compute_any (n : Nat) (X : Nat → El) (R : Nat) (w : World) (hn : n ≤ 100) (hX : Hid (∀ i < n, w.cell? ⟨R, i, none⟩ = some (elemV (X i).B) ∧ (X i).Lies w)) (hS : Hid (∀ i < n, (X i).Says)) :
    Calls Try.prog 28 #[.slice (some ⟨R, 0, none⟩) n n] w (Computed X n w) := by
  obtain ⟨cs, hcs, hmk⟩ := make_decs n hn
  have HCS := Lib.hid hcs
  clear hcs
  go_enter Try.func28, Try.ntmps28
  go_wp2
  clear hmk
  go_loopw [14] (fun i wr => ∃ k : Nat, k ≤ n ∧ i = .int .i64 k ∧ Hid (∀ i < k, (X i).E = 0) ∧ Below w.heap.size w wr ∧ Filled X w.heap.size n k wr) (fun i _ => n - (intOf i).toNat)
  case atStart => exact ⟨0, Nat.zero_le _, rfl, fun i hi => absurd hi (by omega), (Below.refl _ _).alloc (Nat.le_refl _) _, Filled.begin X w n cs HCS.out⟩
  case round =>
    obtain ⟨k, hk, rfl, hpre, hb, hfill⟩ := hrel
    have HF := Lib.hid hfill
    clear hfill
    by_cases hlt : k < n
    · obtain ⟨hx1, hx2⟩ := hX.out k hlt
      have hcell := cell_later hb hx1
      have HL := Lib.hid (Caught.later hx2 hb)
      clear hx1 hx2
      unfold elemV at hcell
      by_cases hE : (X k).E = 0
      · have HE := Lib.hid hE
        clear hE
        go_wp2_with fail
        refine (el_any (X k) _ (hS.out k hlt) HL.out 0 HE.out).mono ?_
        rintro e w1 ⟨rfl, b1⟩
        have HF1 := Lib.hid (HF.out.here b1)
        have hb1 := hb.trans (b1.mono hb.size)
        clear b1 hcell
        obtain ⟨⟨u0, hu0⟩, ⟨u1, hu1⟩, hf0, hf1⟩ := HF1.out.room hlt
        have hL := HF1.out.lt
        go_wp2
        go_roundw
        case rel => exact ⟨k + 1, by omega, by go_num, pre_succ hpre.out HE.out, ((hb1.setCell (Nat.le_refl _) _).setCell (Nat.le_refl _) _).alloc (by simp; omega) _, HF1.out.step hlt _⟩
        case measure => simp [intOf]; omega
      · have HE := Lib.hid ((hS.out k hlt).E'.resolve_left hE)
        clear hE
        go_wp2_with fail
        refine (el_any (X k) _ (hS.out k hlt) HL.out 5 HE.out).mono ?_
        rintro e w1 ⟨rfl, b1⟩
        have hb1 := hb.trans (b1.mono hb.size)
        clear b1 hcell
        go_wp2
        go_ret2
        exact ⟨hb1.alloc hb1.size _, .inl ⟨⟨k, hlt, HE.out⟩, rfl⟩⟩
    · have hkn : k = n := by omega
      have HK := Lib.hid hkn
      clear hkn
      go_wp2
      go_ret2
      have hkn := HK.out
      subst hkn
      exact ⟨hb, .inr ⟨hpre.out, _, rfl, Nat.le_refl _, HF.out⟩⟩
end Go.Proofs.Ytpdjooeogpidhaa
