/- predict's undoRows: walked. -/
import Derived.Test.YtjligbfijjejmaaPredUa
import Derived.Sort.CutIn
import Derived.Test.YtjligbfijjejmaaPredMath2
import Derived.Test.YtjligbfijjejmaaRegionS
namespace Go.Proofs.Ytjligbfijjejmaa
open Go.RowKit
attribute [local go_sem] Oper.semAt_some

/-- What undoRows answers. -/
def UndoIs (r : Option (List Nat)) (w : World) (e : Ending) (w' : World) : Prop :=
  Below w.heap.size w w' ∧ match r with
    | none => e = .returned (.tuple #[.slice none 0 0, .int .i64 4])
    | some l => ∃ A c, e = .returned (.tuple #[.slice A l.length c, .int .i64 0]) ∧ Bytes w' A l.length c l
theorem undoN_none {h n s : Nat} {b : List Nat} {m : Nat} (hm : undoN h n s b m = none) : ∀ q, m ≤ q → undoN h n s b q = none
  | 0, hq => by obtain rfl : m = 0 := by omega
                exact hm
  | q + 1, hq => by
    rcases Nat.lt_or_ge q m with h1 | h1
    · obtain rfl : m = q + 1 := by omega
      exact hm
    · rw [undoN, undoN_none hm q h1]
/-- Between two rounds. -/
def IU (w : World) (L N q : Nat) (p : PaV) (png : Bool) (Z : Array Value) (bs : List Nat) (m : Nat) (W : World) : Prop :=
  m ≤ q ∧ ∃ v o, UpIs L N p.n m o.length v ∧ undoN (headM png) p.n p.s bs m = some o ∧ o.length = m * p.n ∧ IV w W L N (layV p png) Z v o
/-- A round has said 'no more'. -/
def XU (w : World) (q : Nat) (p : PaV) (png : Bool) (bs : List Nat) (c : Code) (_ : Nat) (W : World) : Prop :=
  c = .ret ∧ undoN (headM png) p.n p.s bs q = none ∧ Boxed W (w.heap.size + 1) 24 (.slice none 0 0) ∧ Boxed W (w.heap.size + 1 + 1) 26 (.int .i64 4) ∧ Below w.heap.size w W
theorem IU.kept {w W W' : World} {L N q m : Nat} {p : PaV} {png : Bool} {Z : Array Value} {bs : List Nat} (h : IU w L N q p png Z bs m W) (k : Kept w.heap.size (fun _ => False) W W') : IU w L N q p png Z bs m W' := by
  obtain ⟨h1, v, o, h2, h3, h4, h5⟩ := h
  exact ⟨h1, v, o, h2, h3, h4, h5.kept k⟩
theorem XU.kept {w W W' : World} {q m : Nat} {p : PaV} {png : Bool} {bs : List Nat} {c : Code} (h : XU w q p png bs c m W) (k : Kept w.heap.size (fun _ => False) W W') : XU w q p png bs c m W' := by
  obtain ⟨h1, h2, h3, h4, h5⟩ := h
  exact ⟨h1, h2, k.boxed h3 (fun e => e), k.boxed h4 (fun e => e), k.below h5 (Nat.le_refl _)⟩
theorem TCh.kept {B1 B2 n₀ : Nat} {A : Option Addr} {c K : Nat} {b : List Nat} {W W' : World} (h : TCh B1 B2 n₀ A c K b W) (k : Kept n₀ (fun _ => False) W W') : TCh B1 B2 n₀ A c K b W' :=
  ⟨k.boxed h.row (fun e => e), k.boxed h.many (fun e => e), ⟨h.bytes.len, h.bytes.cap, h.bytes.top, h.bytes.byte, fun h0 => by
    obtain ⟨R, o, e, hR, hc⟩ := h.bytes.at_ h0
    exact ⟨R, o, e, Nat.lt_of_lt_of_le hR k.size, fun i b hb => (World.cell?_of_block (k.low R (h.low h0 R o e) hR)).trans (hc i b hb)⟩⟩, h.low⟩
theorem YCh.put {n₀ K : Nat} {b : List Nat} {m t : Nat} {vs : Array Value} {W : World} {l : Nat} {o : Obj} (o' : Obj) (h : YCh n₀ K b m vs t W) (hl : W.heap[l]? = some o) (ho : o.isCells = false) : YCh n₀ K b m vs t (W.putObj l o') := by
  obtain ⟨h1, h2, R, k, e, h3, h4, h5, h6⟩ := h
  exact ⟨h1, h2, R, k, e, h3, h4, h5.putObj o' hl ho, h6⟩
theorem boxed_put {W : World} {B D : Nat} {t : TypeId} {v : Value} {o : Obj} (o' : Obj) (h : Boxed W B t v) (hD : W.heap[D]? = some o) (ho : o.isCells = false) : Boxed (W.putObj D o') B t v := by
  refine (World.putObj_heap_other (fun e => ?_)).trans h
  subst e
  rw [show W.heap[B]? = _ from h] at hD
  injection hD with hD
  subst hD
  cases ho
theorem below_put {w V : World} {D : Nat} (o' : Obj) (h : Below w.heap.size w V) (hD : w.heap.size ≤ D) : Below w.heap.size w (V.putObj D o') :=
  h.trans ((Fr.of_grown (grownBy_putObj' V D o')).below h.size (fun j hj e => by injection e with e; omega))
/-- A round says 'no more'. -/
theorem IV.stop {w W : World} {L N q m : Nat} {p : PaV} {png : Bool} {lay zs : Array Value} {v : Value} {o bs : List Nat} (h : IV w W L N lay zs v o) (hq : undoN (headM png) p.n p.s bs q = none) (B : Nat) :
    KeepsFrom B W ((W.setCell ⟨w.heap.size + 1, 0, none⟩ (.slice none 0 0)).setCell ⟨w.heap.size + 1 + 1, 0, none⟩ (.int .i64 4)) ∧ XU w q p png bs .ret m ((W.setCell ⟨w.heap.size + 1, 0, none⟩ (.slice none 0 0)).setCell ⟨w.heap.size + 1 + 1, 0, none⟩ (.int .i64 4)) :=
  ⟨((KeepsOthers.setCell _ _ _).trans (KeepsOthers.setCell _ _ _)).from _, rfl, hq, (h.res.set _).other (by omega) _, (h.err.other (by omega) _).set _,
    (h.below.setCell (p := ⟨w.heap.size + 1, 0, none⟩) (by simp) _).setCell (p := ⟨w.heap.size + 1 + 1, 0, none⟩) (by simp; omega) _⟩
theorem undo_start (w w1 : World) (p : PaV) (png : Bool) (A : Option Addr) (n c : Nat) (bs : List Nat) (Z1 Z2 : Array Value) (h : Bytes w A n c bs) (hZ : (bvs (List.replicate n 0)).toArray = Z1 ∧ (bvs (List.replicate p.n 0)).toArray = Z2) (hn : n ≤ 1048576)
    (hb : Below (((w.alloc (.cells #[.int .i64 p.pr, .int .i64 p.co, .int .i64 p.bi, .int .i64 p.cl] 23)).alloc (.cells #[.slice none 0 0] 24)).alloc (.cells #[.int .i64 0] 26)).heap.size (((w.alloc (.cells #[.int .i64 p.pr, .int .i64 p.co, .int .i64 p.bi, .int .i64 p.cl] 23)).alloc (.cells #[.slice none 0 0] 24)).alloc (.cells #[.int .i64 0] 26)) w1) (q : Nat) :
    ∃ W0, (((((((w1.alloc (.cells (layV p png) 46)).alloc (.cells Z1 5)).alloc (.cells #[.slice (some ⟨w1.heap.size + 1, 0, none⟩) 0 n] 24)).alloc (.cells Z2 5)).alloc (.cells #[.slice (some ⟨w1.heap.size + 1 + 1 + 1, 0, none⟩) p.n p.n] 24)).alloc (.cells #[.slice A n c] 24)).alloc (.cells #[.int .i64 (((headM png : Nat) : Int) + (p.n : Int))] 3)) = W0 ∧
      W0.heap.size = w1.heap.size + 7 ∧ IU w w1.heap.size n q p png Z2 bs 0 W0 ∧ TCh (w1.heap.size + 1 + 1 + 1 + 1 + 1) (w1.heap.size + 1 + 1 + 1 + 1 + 1 + 1) w.heap.size A c (headM png + p.n) bs W0 := by
  obtain ⟨rfl, rfl⟩ := hZ
  have hl := h.len
  subst hl
  have g1 := hb.size
  simp only [World.size_alloc] at g1
  have x1 : Boxed w1 (w.heap.size + 1) 24 (.slice none 0 0) := by
    have := (Boxed.new (w.alloc (.cells #[.int .i64 p.pr, .int .i64 p.co, .int .i64 p.bi, .int .i64 p.cl] 23)) 24 (.slice none 0 0)).alloc (.cells #[.int .i64 0] 26)
    simp only [World.size_alloc] at this
    exact (hb.block _ (by simp)).trans this
  have x2 : Boxed w1 (w.heap.size + 1 + 1) 26 (.int .i64 0) := by
    have := Boxed.new ((w.alloc (.cells #[.int .i64 p.pr, .int .i64 p.co, .int .i64 p.bi, .int .i64 p.cl] 23)).alloc (.cells #[.slice none 0 0] 24)) 26 (.int .i64 0)
    simp only [World.size_alloc] at this
    exact (hb.block _ (by simp)).trans this
  have x3 : Below w.heap.size w w1 := ((((Below.refl _ _).alloc (Nat.le_refl _) _).alloc (by simp) _).alloc (by simp; omega) _).trans (hb.mono (by simp; omega))
  have y0 := Whole.made w1 46 (layV p png)
  have y1 := Whole.made (w1.alloc (.cells (layV p png) 46)) 5 (bvs (List.replicate bs.length 0)).toArray
  generalize hV1 : w1.alloc (.cells (layV p png) 46) = V1 at *
  have s1 : V1.heap.size = w1.heap.size + 1 := by rw [← hV1]; simp
  have b1 : Below w1.heap.size w1 V1 := by rw [← hV1]; exact (Below.refl _ _).alloc (Nat.le_refl _) _
  generalize hV2 : V1.alloc (.cells (bvs (List.replicate bs.length 0)).toArray 5) = V2 at *
  have s2 : V2.heap.size = w1.heap.size + 2 := by rw [← hV2]; simp [s1]
  have b2 : Below V1.heap.size V1 V2 := by rw [← hV2]; exact (Below.refl _ _).alloc (Nat.le_refl _) _
  have y2 := Boxed.new V2 24 (.slice (some ⟨w1.heap.size + 1, 0, none⟩) 0 bs.length)
  generalize hV3 : V2.alloc (.cells #[.slice (some ⟨w1.heap.size + 1, 0, none⟩) 0 bs.length] 24) = V3 at *
  have s3 : V3.heap.size = w1.heap.size + 3 := by rw [← hV3]; simp [s2]
  have b3 : Below V2.heap.size V2 V3 := by rw [← hV3]; exact (Below.refl _ _).alloc (Nat.le_refl _) _
  have y3 := Whole.made V3 5 (bvs (List.replicate p.n 0)).toArray
  generalize hV4 : V3.alloc (.cells (bvs (List.replicate p.n 0)).toArray 5) = V4 at *
  have s4 : V4.heap.size = w1.heap.size + 4 := by rw [← hV4]; simp [s3]
  have b4 : Below V3.heap.size V3 V4 := by rw [← hV4]; exact (Below.refl _ _).alloc (Nat.le_refl _) _
  have y4 := Boxed.new V4 24 (.slice (some ⟨w1.heap.size + 1 + 1 + 1, 0, none⟩) p.n p.n)
  generalize hV5 : V4.alloc (.cells #[.slice (some ⟨w1.heap.size + 1 + 1 + 1, 0, none⟩) p.n p.n] 24) = V5 at *
  have s5 : V5.heap.size = w1.heap.size + 5 := by rw [← hV5]; simp [s4]
  have b5 : Below V4.heap.size V4 V5 := by rw [← hV5]; exact (Below.refl _ _).alloc (Nat.le_refl _) _
  have y5 := Boxed.new V5 24 (.slice A bs.length c)
  generalize hV6 : V5.alloc (.cells #[.slice A bs.length c] 24) = V6 at *
  have s6 : V6.heap.size = w1.heap.size + 6 := by rw [← hV6]; simp [s5]
  have b6 : Below V5.heap.size V5 V6 := by rw [← hV6]; exact (Below.refl _ _).alloc (Nat.le_refl _) _
  have y6 := Boxed.new V6 3 (.int .i64 (((headM png : Nat) : Int) + (p.n : Int)))
  refine ⟨_, rfl, by simp [s6], ?_⟩
  have b7 : Below V6.heap.size V6 (V6.alloc (.cells #[.int .i64 (((headM png : Nat) : Int) + (p.n : Int))] 3)) := (Below.refl _ _).alloc (Nat.le_refl _) _
  generalize V6.alloc (.cells #[.int .i64 (((headM png : Nat) : Int) + (p.n : Int))] 3) = V7 at *
  have c67 := b7
  have c57 : Below V5.heap.size V5 V7 := b6.trans (c67.mono b6.size)
  have c47 : Below V4.heap.size V4 V7 := b5.trans (c57.mono b5.size)
  have c37 : Below V3.heap.size V3 V7 := b4.trans (c47.mono b4.size)
  have c27 : Below V2.heap.size V2 V7 := b3.trans (c37.mono b3.size)
  have c17 : Below V1.heap.size V1 V7 := b2.trans (c27.mono b2.size)
  have c07 : Below w1.heap.size w1 V7 := b1.trans (c17.mono b1.size)
  have bx : ∀ {U V : World} {B : Nat} {t : TypeId} {v : Value}, Below U.heap.size U V → Boxed U B t v → Boxed V B t v := fun hb hx => (hb.block _ hx.lt).trans hx
  have hB : Below w.heap.size w V7 := x3.trans (c07.mono x3.size)
  rw [s1] at y1
  rw [s2] at y2
  rw [s3] at y3
  rw [s4] at y4
  rw [s5] at y5
  rw [s6] at y6
  refine ⟨⟨Nat.zero_le _, _, [], .inl ⟨rfl, rfl⟩, rfl, by simp, by omega, bx c07 x1, bx c07 x2, y0.here c17, bx c37 y2, ⟨rfl, .inr ⟨_, bs.length, _, rfl, by omega, y1.here c27, by simp, by unfold maxLen; omega, by simp [bvs], by simp [bvs]⟩⟩, y3.here c47, bx c57 y4, fun x hx => by simp at hx, hB⟩, bx c67 y5, y6, h.below hB, fun h0 R o e => ?_⟩
  obtain ⟨R', o', e', hR', _⟩ := h.at_ h0
  rw [e] at e'
  injection e' with e'
  injection e' with e1 e2
  omega
set_option maxRecDepth 100000 in
set_option maxHeartbeats 4000000 in
theorem undo_ok (p : PaV) (png : Bool) (A : Option Addr) (n c : Nat) (bs : List Nat) (w : World) (h : Bytes w A n c bs) (hok : p.Ok) (hp : (png = true ∧ decide (10 ≤ p.pr) = true) ∨ (png = false ∧ p.pr = 2)) (hn : n ≤ 1048576) (hmod : n % (headM png + p.n) = 0) :
    Calls Try.prog 18 #[p.val, .slice A n c] w (UndoIs (undoN (headM png) p.n p.s bs (n / (headM png + p.n))) w) := by
  have hs := hok.s_is.2
  have hnn := hok.n_is.2
  obtain ⟨q, hq⟩ : ∃ q, n / (headM png + p.n) = q := ⟨_, rfl⟩
  rw [hq]
  have hqn : n = q * (headM png + p.n) := by
    have := Nat.div_add_mod n (headM png + p.n)
    rw [hmod, hq, Nat.mul_comm] at this
    omega
  have HQ := Lib.hid hqn
  clear hqn hq
  have hH1 : headM png ≤ 1 := by cases png <;> simp [headM]
  have hmz : ((n : Int) % (((headM png : Nat) : Int) + (p.n : Int)) != 0) = false := by
    have : (n : Int) % (((headM png : Nat) : Int) + (p.n : Int)) = 0 := by rw [← Int.natCast_add, ← Int.natCast_emod, hmod]; rfl
    rw [this]; rfl
  obtain ⟨Z1, hZ1⟩ : ∃ Z, (bvs (List.replicate n 0)).toArray = Z := ⟨_, rfl⟩
  obtain ⟨Z2, hZ2⟩ : ∃ Z, (bvs (List.replicate p.n 0)).toArray = Z := ⟨_, rfl⟩
  have hk1 : ∀ W : World, (Instr.makeSlice 24 (.int .i64 0) (.int .i64 (n : Int))).run Try.prog W = .ok (.slice (some ⟨W.heap.size, 0, none⟩) 0 n) (W.alloc (.cells Z1 5)) := fun W => hZ1 ▸ make_bytes 0 n (by omega) (by omega) W
  have hk2 : ∀ W : World, (Instr.makeSlice 24 (.int .i64 (p.n : Int)) (.int .i64 (p.n : Int))).run Try.prog W = .ok (.slice (some ⟨W.heap.size, 0, none⟩) p.n p.n) (W.alloc (.cells Z2 5)) := fun W => hZ2 ▸ make_bytes p.n p.n (by omega) (by omega) W
  refine (callsIn_wide (n := 3)).1 ?_
  refine callsIn_of_wp_marks Try.func18 rfl trivial ?_ rfl
  simp only [Try.ntmps18, List.size_toArray, List.length_cons, List.length_nil, Nat.reduceAdd, Nat.reduceSub, Array.replicate_succ, Array.replicate_zero, List.push_toArray, List.append_toArray, List.nil_append, List.cons_append]
  have OK := Lib.hid hok
  have HP := Lib.hid hp
  have HB := Lib.hid h
  have HM := Lib.hid hmod
  have HZ := Lib.hid (And.intro hZ1 hZ2)
  clear hok hp h hmod hZ1 hZ2
  have hst := tab_store png
  gi_wp2_with (first
    | (refine ⟨trivial, ?_⟩; gi_at_call 26; refine (callsIn_wide.2 (layout_all p png _ OK.out HP.out)).mono ?_; rintro e w1 ⟨rfl, hb1⟩)
    | (refine ⟨trivial, ?_⟩; gi_at_call 27; refine (chunk_call _ open_wide _ _ _ _ (headM png + p.n) _ (by omega)).mono ?_; rintro e w' ⟨rfl, rfl⟩))
  have g1 := hb1.size
  simp only [World.size_alloc] at g1
  obtain ⟨W0, hW0, hsz, hI0, hT0⟩ := undo_start w w1 p png A n c bs Z1 Z2 HB.out HZ.out hn hb1 q
  rw [hW0]
  clear hW0 hb1
  have HLN := Lib.hid HB.out.len
  refine wpIn_iter rfl (by omega) (gf := 33) (lb := #[.pointer (some ⟨w1.heap.size + 1 + 1 + 1 + 1 + 1, 0, none⟩), .pointer (some ⟨w1.heap.size + 1 + 1 + 1 + 1 + 1 + 1, 0, none⟩)]) rfl trivial (enters_of Try.func33 (by kernel_rfl) rfl)
    (chunk_iter (w1.heap.size + 1 + 1 + 1 + 1 + 1) (w1.heap.size + 1 + 1 + 1 + 1 + 1 + 1) w.heap.size 2 A c (headM png + p.n) (by omega) bs (by omega) (by omega) (by have := HLN.out; omega)) ?hS (fun h k => KCh.trans h k) ?hKb ?hps ?hT ?hY
    (IU w w1.heap.size n q p png Z2 bs) (XU w q p png bs) ?hI ?hIx ?hIS ?hIxS ?h0 ?hT0
    (fun vs => { tmps := #[p.val, .slice A n c, .pointer (some ⟨w.heap.size, 0, none⟩), undef, .pointer (some ⟨w.heap.size + 1, 0, none⟩), .pointer (some ⟨w.heap.size + 1 + 1, 0, none⟩), .pointer (some ⟨w1.heap.size, 0, none⟩), .pointer (some ⟨w1.heap.size + 1 + 1, 0, none⟩), .pointer (some ⟨w1.heap.size + 1 + 1 + 1 + 1, 0, none⟩), vs.getD 0 undef, undef, undef, undef,
      p.val, .agg (layV p png), .slice A n c, .int .i64 n, .pointer (some ⟨w1.heap.size, 0, none⟩), .int .i64 (headM png), .pointer (some ⟨w1.heap.size, 1, none⟩), .int .i64 p.n, .int .i64 (((headM png : Nat) : Int) + (p.n : Int)), .int .i64 ((n : Int) % (((headM png : Nat) : Int) + (p.n : Int))), .bool false, .slice A n c, .int .i64 n,
      .slice (some ⟨w1.heap.size + 1, 0, none⟩) 0 n, .pointer (some ⟨w1.heap.size, 1, none⟩), .int .i64 p.n, .slice (some ⟨w1.heap.size + 1 + 1 + 1, 0, none⟩) p.n p.n, .slice A n c, .pointer (some ⟨w1.heap.size, 0, none⟩), .int .i64 (headM png), .pointer (some ⟨w1.heap.size, 1, none⟩), .int .i64 p.n, .int .i64 (((headM png : Nat) : Int) + (p.n : Int)),
      .func (.func 33) #[] #[.pointer (some ⟨w1.heap.size + 1 + 1 + 1 + 1 + 1, 0, none⟩), .pointer (some ⟨w1.heap.size + 1 + 1 + 1 + 1 + 1 + 1, 0, none⟩)], vs.getD 0 undef,
      undef, undef, undef, undef, undef, undef, undef, undef, undef, undef, undef, undef, undef, undef, undef, undef, undef, undef, undef, undef, undef, undef, undef, undef, undef, undef, undef, undef, undef, undef, undef, undef, undef, undef, undef, undef, undef, undef, undef, undef, undef, undef], defers := [] }) ?assign ?body ?done ?stop
  case hS => intro k hk; exact hk.elim
  case hKb => intro W l o o' hl ho _; exact fr_putObj o' ⟨by omega, by omega, by omega⟩
  case hps => rintro s vs t W ⟨_, _, R, o, e, _, rfl, _⟩; rfl
  case hT => intro s W W' row hs hg hr; exact hs.kept (Kept.of_grown hg hr (by omega))
  case hY => intro s vs t W l o o' hy _ hl ho; exact hy.put o' hl ho
  case hI => intro s W W' row hs hg hr; exact hs.kept (Kept.of_grown hg hr (by omega))
  case hIx => intro c s W W' row hs hg hr; exact hs.kept (Kept.of_grown hg hr (by omega))
  case hIS => intro s W W' hs hf _; exact hs.kept (Kept.of_fr hf (fun _ _ e => e))
  case hIxS => intro c s W W' hs hf _; exact hs.kept (Kept.of_fr hf (fun _ _ e => e))
  case h0 => exact hI0
  case hT0 => exact hT0
  case assign =>
    intro l s vs t W K hy hK
    obtain ⟨_, _, R, o, e, he, rfl, _⟩ := hy
    clear he
    gi_wp2
    exact hK
  case body =>
    rintro l m vs t W ⟨hmq, v, o, hu, hun, hol, hi⟩ ht ⟨hmk, rfl, R0, o0, e, he, rfl, hby, hRn⟩
    have hmq2 : m < q := by
      have := HQ.out
      have hl := HLN.out
      rcases Nat.lt_or_ge m q with h1 | h1
      · exact h1
      · have := Nat.mul_le_mul_right (headM png + p.n) h1
        omega
    have hm1 : (m + 1) * (headM png + p.n) ≤ n := by rw [HQ.out]; exact Nat.mul_le_mul_right _ hmq2
    have hm2 : (m + 1) * (headM png + p.n) = m * (headM png + p.n) + (headM png + p.n) := by rw [Nat.add_mul, Nat.one_mul]
    have hel : e = headM png + p.n := by
      rw [he]; unfold rowM; rw [List.length_take, List.length_drop, HLN.out]; omega
    subst hel
    obtain ⟨ch, hch⟩ : ∃ ch, rowM bs (headM png + p.n) m = ch := ⟨_, rfl⟩
    rw [hch] at he hby
    have hoN : o.length + p.n ≤ n := by
      have h1 : (m + 1) * p.n ≤ (m + 1) * (headM png + p.n) := Nat.mul_le_mul_left _ (by omega)
      have h2 : (m + 1) * p.n = m * p.n + p.n := by rw [Nat.add_mul, Nat.one_mul]
      omega
    have HU := Lib.hid (And.intro hu (And.intro hun hol))
    have HE := Lib.hid (And.intro he.symm hch)
    have HI := Lib.hid hi
    have HT := Lib.hid ht
    have HBY := Lib.hid hby
    have cO := hi.out.cell
    have fO := hi.out.frozen
    have cU := hi.up.cell
    have fU := hi.up.frozen
    have cR := hi.res.cell
    have fR := hi.res.frozen
    have cE := hi.err.cell
    have fE := hi.err.frozen
    have rl := hi.lay.reads
    have l0 := hi.lay.lt
    have lp := hi.pos
    clear hi ht hby he hch hu hun hol hm1 hm2 hmk hmq
    obtain ⟨T, hT⟩ : ∃ T, tagM (headM png) ch = T := ⟨_, rfl⟩
    have hpp : (png = true ∧ headM png = 1 ∧ ch.getD 0 0 = T) ∨ (png = false ∧ headM png = 0 ∧ T = 1) := by
      cases png
      · exact .inr ⟨rfl, rfl, by rw [← hT]; rfl⟩
      · exact .inl ⟨rfl, rfl, by rw [← hT]; rfl⟩
    have hT256 : T < 256 := by
      rcases hpp with ⟨_, _, h⟩ | ⟨_, _, h⟩
      · rw [← h]; exact getD_lt HBY.out.byte 0
      · omega
    have HPP := Lib.hid hpp
    have HTT := Lib.hid hT
    clear hT hpp
    obtain ⟨gb, hgb⟩ : ∃ b, decide (0 < headM png) = b := ⟨_, rfl⟩
    gi_upto_if 40 with (fail)
    have HGB := Lib.hid hgb
    clear hgb
    gi_cut [10] from 41 (fun s wx => wx = W ∧ s = .int .i64 ((T : Nat) : Int))
    case first =>
      rcases HPP.out with ⟨hx, hpng, hTv⟩ | ⟨hx, hpng, hTv⟩
      · obtain rfl : true = gb := by rw [← HGB.out]; simp; omega
        have hpos0 : 0 < headM png := by omega
        have cT : W.cell? ⟨R0, o0, none⟩ = some (.int .u8 (T : Nat)) := by
          have := HBY.out.byte_at rfl (i := 0) (by omega)
          rwa [hTv, Nat.add_zero] at this
        have hpos1 : 0 < headM png + p.n := by omega
        clear hTv hpng hx
        gi_wp2
        gi_meet
        exact ⟨rfl, rfl⟩
      · obtain rfl : false = gb := by rw [← HGB.out]; simp; omega
        subst hTv
        clear hpng hx
        gi_wp2
        gi_meet
        exact ⟨rfl, rfl⟩
    case rest =>
      obtain ⟨rfl, rfl⟩ := hcut
      by_cases h5 : 4 < T
      · have g5 : decide (5 ≤ T) = true := by simp; omega
        have g6 : decide ((5 : Int) ≤ ((T : Nat) : Int)) = true := by simp; omega
        have hno : undoN (headM png) p.n p.s bs q = none := by
          refine undoN_none (m := m + 1) ?_ q hmq2
          rw [undoN, HU.out.2.1]
          show (if 4 < tagM (headM png) (rowM bs (headM png + p.n) m) then none else _) = none
          rw [HE.out.2, HTT.out, if_pos h5]
        have hst := HI.out.stop (m := m + 1) hno W0.heap.size
        have HST := Lib.hid hst
        clear hst hno
        gi_wp2
        exact ⟨HST.out.1, HST.out.2⟩
      have hTT : (png = true ∧ T ≤ 4) ∨ (png = false ∧ T = 1) := by
        rcases HPP.out with ⟨h1, _, _⟩ | ⟨h1, _, h2⟩
        · exact .inl ⟨h1, by omega⟩
        · exact .inr ⟨h1, h2⟩
      have HTW := Lib.hid hTT
      have g5 : decide (5 ≤ T) = false := by simp; omega
      have g6 : decide ((5 : Int) ≤ ((T : Nat) : Int)) = false := by simp; omega
      clear hTT
      have hsl := slice_from R0 o0 (headM png + p.n) (headM png + p.n) (headM png) (by omega) (by omega)
      rw [Nat.add_sub_cancel_left] at hsl
      gi_wp2
      refine wpIn_region_still_tail (open_round l) 5 (by kernel_rfl) (by kernel_rfl) ?_
      simp only [List.take_succ_cons, List.take_zero, List.drop_succ_cons, List.drop_zero]
      repeat ((with_reducible refine wpStill_step (fun KK hK => ?_)); go_simp; refine hK _ ?_; clear hK KK)
      refine wpStill_nil ?_
      obtain ⟨r, hr⟩ : ∃ r, ch.drop (headM png) = r := ⟨_, rfl⟩
      have hrl : r.length = p.n := by rw [← hr, List.length_drop, HE.out.1]; omega
      have hrb : Bytes wc (some ⟨R0, o0 + headM png, none⟩) p.n p.n r := by
        have := HBY.out.cut (k := headM png) (by omega) (A' := some ⟨R0, o0 + headM png, none⟩) (fun R' o' e _ => by injection e with e; injection e with e1 e2; subst e1 e2; rfl)
        rw [hr, Nat.add_sub_cancel_left] at this
        exact this
      have HR := Lib.hid (And.intro hrl (And.intro hrb hr))
      clear hrl hrb hr
      obtain ⟨i0, hi0, hz0, hz1, hz2⟩ := info_parts info8
      have hnews : ∀ (j : Nat) (u : Value), (bvs r)[j]? = some u → wc.drew.cell? ((⟨R0, o0 + headM png, none⟩ : Addr).add j) = some u := fun j u hu => by
        obtain ⟨b, hb, rfl⟩ := bvs_at hu
        obtain ⟨R', o', e, _, hc⟩ := HR.out.2.1.at_ (by omega)
        injection e with e
        injection e with e1 e2
        subst e1 e2
        have e2 : ∀ j, (⟨R0, o0 + headM png, none⟩ : Addr).add j = ⟨R0, o0 + headM png + j, none⟩ := fun j => by
          unfold Addr.add; by_cases h0 : j = 0 <;> simp [h0]
        rw [e2]
        exact hc j b hb
      have HNE := Lib.hid hnews
      have hID := HI.out.later ((Below.refl wc.heap.size wc).drew)
      have HID := Lib.hid hID
      have hbl : (bvs r).length = p.n * 1 := by rw [bvs_length, HR.out.1, Nat.mul_one]
      have HBL := Lib.hid hbl
      clear hnews hID hbl
      have hs2 := slice_from (w1.heap.size + 1) 0 (o.length + p.n) n o.length (by omega) (by omega)
      rw [Nat.zero_add, Nat.add_sub_cancel_left] at hs2
      refine wpListIn_append_fits _ rfl (.tmp 47) (.tmp 51) 24 rfl w.heap.size 5 i0 1 Try.underlying24 hi0 hz1 (w1.heap.size + 1) o.length n (bvs o) rfl HID.out.own ⟨R0, o0 + headM png, none⟩ p.n p.n (bvs r) rfl HBL.out HNE.out (bvs_one r) (by omega) ?_
      intro wA hownA hgrowA
      have HP := Lib.hid (HID.out.push (r := r) HR.out.1.symm HR.out.2.1.byte hownA hgrowA)
      have HDA := Lib.hid (And.intro hgrowA HID.out.row)
      have cA := HP.out.1.cell
      have fA := HP.out.1.frozen
      have rl2 := HP.out.2.lay.reads
      have l02 := HP.out.2.lay.lt
      clear hownA hgrowA hk1 hk2 hst
      gi_wp2
      have hIV := HP.out.2
      have hDid : Did w w1.heap.size W0.heap.size wc (wA.setCell ⟨w1.heap.size + 1 + 1, 0, none⟩ (.slice (some ⟨w1.heap.size + 1, 0, none⟩) (o.length + p.n) n)) := by
        obtain ⟨cs, hcs⟩ := HDA.out.2
        exact ((Did.of_below (Below.refl wc.heap.size wc).drew).trans (Did.grown HDA.out.1 hcs (by omega) (by omega) (by omega))).trans (Did.set _ _ (by simp; omega) (by simp) (by simp))
      generalize wA.setCell ⟨w1.heap.size + 1 + 1, 0, none⟩ (.slice (some ⟨w1.heap.size + 1, 0, none⟩) (o.length + p.n) n) = W2 at *
      have HIV := Lib.hid hIV
      have HDD := Lib.hid hDid
      clear hIV hDid cA fA HP HDA HNE hsl hs2 rl2 l02 HID HBL cO fO cU fU cR fR cE fE rl l0 hi0 hz0 hz1 hz2
      gi_loopg [62] p.n (fun g s62 wr => ∃ i : Nat, p.n - i = g ∧ s62 = .int .i64 ((i : Nat) : Int) ∧ i ≤ p.n ∧ IV w wr w1.heap.size n (layV p png) Z2 v (o ++ (uRow T p.s (upU o p.n m) r i ++ r.drop i)) ∧ Did w w1.heap.size W0.heap.size wc wr)
      case atStart => exact ⟨0, by simp, rfl, Nat.zero_le _, HIV.out, HDD.out⟩
      case round =>
        obtain ⟨i, hg, rfl, hile, hiv, hdid⟩ := hrel
        have HG := Lib.hid hg
        have HV := Lib.hid hiv
        have HD := Lib.hid hdid
        clear hg hiv hdid
        by_cases hlt : i < p.n
        · have hml : (o ++ (uRow T p.s (upU o p.n m) r i ++ r.drop i)).length = o.length + p.n := mid_len HR.out.1 hile
          have hvd := HV.out.later ((Below.refl wr.heap.size wr).drew)
          have b1 : Bytes wr.drew (some ⟨w1.heap.size + 1, o.length, none⟩) p.n (n - o.length) (uRow T p.s (upU o p.n m) r i ++ r.drop i) := by
            have := hvd.part o.length p.n (n - o.length) (by omega) (by omega) (by omega)
            rw [List.drop_left, List.take_of_length_le (by rw [List.length_append] at hml; omega)] at this
            exact this
          obtain ⟨Au, cu, U, hv, b2, hU⟩ := hvd.upper HZ.out.2 HU.out.1 (by omega) (by omega) (by omega) (by omega) HU.out.2.2
          subst hv
          have cx := b1.byte_at rfl (i := i) hlt
          rw [mid_getD] at cx
          obtain ⟨x, hx⟩ : ∃ x, r.getD i 0 = x := ⟨_, rfl⟩
          rw [hx] at cx
          have fx : wr.frozen? ⟨w1.heap.size + 1, o.length + i, none⟩ = false := by
            obtain ⟨cs, hcs⟩ := HV.out.row
            exact hcs.thawed _
          have lx : w1.heap.size + 1 < wr.heap.size := by
            obtain ⟨cs, hcs⟩ := HV.out.row
            exact hcs.lt
          have cUp := HV.out.up.cell
          have rl := HV.out.lay.reads
          have r0 := rl 0
          have r1 := rl 1
          have r2 := rl 2
          have r3 := rl 3
          have r4 := rl 4
          have r5 := rl 5
          have r6 := rl 6
          have r7 := rl 7
          have l0 := HV.out.lay.lt
          obtain ⟨f, hf⟩ : ∃ f, foreM T (backM (uRow T p.s (upU o p.n m) r i ++ r.drop i) i p.s) (U.getD i 0) (backM U i p.s) = f := ⟨_, rfl⟩
          have hf256 : f < 256 := by rw [← hf]; exact foreM_lt (backM_lt b1.byte _ _) (getD_lt b2.byte _) (backM_lt b2.byte _ _)
          have hx256 : x < 256 := by rw [← hx]; exact getD_lt HR.out.2.1.byte _
          have hcall := fore_any p png T _ U (some ⟨w1.heap.size + 1, o.length, none⟩) Au p.n (n - o.length) p.n cu i wr.drew HTW.out b1 b2 hlt hlt hs (by omega)
          unfold ForeIs at hcall
          rw [hf] at hcall
          have hz : (((x + f) % 256 : Nat) : Int) = ((x : Int) + (f : Int)) % 256 := by omega
          have HCALL := Lib.hid hcall
          have HF := Lib.hid (And.intro hf (And.intro hx (And.intro hU hz)))
          have HVD := Lib.hid hvd
          clear hcall hf hx hU hvd b1 b2 hz rl
          gi_wp2
          have HC0 := And.intro cx (And.intro r0 (And.intro r1 (And.intro r2 (And.intro r3 (And.intro r4 (And.intro r5 (And.intro r6 (And.intro r7 cUp))))))))
          have hz2 : IntKind.u8.wrap ((x : Int) + (f : Int)) = (((x + f) % 256 : Nat) : Int) := by show _ % 256 = _; omega
          have HZ2 := Lib.hid hz2
          clear r0 r1 r2 r3 r4 r5 r6 r7 cx cUp hz2
          refine region_round_lit l (by kernel_rfl) (by kernel_rfl) ?_
          refine wpAny_of_S (s := 12) (C := fun v => v.cell? ⟨w1.heap.size + 1, o.length + i, none⟩ = some (.int .u8 (x : Nat)) ∧ v.cell? ⟨w1.heap.size, 0, none⟩ = some (.int .i64 (headM png : Nat)) ∧ v.cell? ⟨w1.heap.size, 1, none⟩ = some (.int .i64 p.n) ∧ v.cell? ⟨w1.heap.size, 2, none⟩ = some (.int .i64 p.s) ∧ v.cell? ⟨w1.heap.size, 3, none⟩ = some (tabAt png 0) ∧ v.cell? ⟨w1.heap.size, 4, none⟩ = some (tabAt png 1) ∧ v.cell? ⟨w1.heap.size, 5, none⟩ = some (tabAt png 2) ∧ v.cell? ⟨w1.heap.size, 6, none⟩ = some (tabAt png 3) ∧ v.cell? ⟨w1.heap.size, 7, none⟩ = some (tabAt png 4) ∧ v.cell? ⟨w1.heap.size + 4, 0, none⟩ = some (.slice Au p.n cu)) _ _ _ _ ?_
          refine wpAnyS_takeW (i := 0) (v := ?v1) rfl (by kernel_rfl) (fun _ _ _ h => by cases h.1) (Or.inl ⟨by rfl, ?y1⟩) (fun _ => HC0) ?r1
          case y1 => intro wq _; go_simp; try with_reducible rfl
          try simp only [Act.put, List.setIfInBounds_toArray, List.set_cons_zero, List.set_cons_succ]
          refine wpAnyS_takeW (i := 1) (v := ?v2) rfl (by kernel_rfl) (fun _ _ _ h => by cases h.1) (Or.inl ⟨by rfl, ?y2⟩) (fun _ => HC0) ?r2
          case y2 => intro wq _; go_simp; try with_reducible rfl
          try simp only [Act.put, List.setIfInBounds_toArray, List.set_cons_zero, List.set_cons_succ]
          refine wpAnyS_takeW (i := 2) (v := ?v3) rfl (by kernel_rfl) (fun _ _ _ h => by cases h.1) (Or.inl ⟨by rfl, ?y3⟩) (fun _ => HC0) ?r3
          case y3 => intro wq _; go_simp; try with_reducible rfl
          try simp only [Act.put, List.setIfInBounds_toArray, List.set_cons_zero, List.set_cons_succ]
          refine wpAnyS_takeW (i := 5) (v := ?v4) rfl (by kernel_rfl) (fun _ _ _ h => by cases h.1) (Or.inl ⟨by rfl, ?y4⟩) (fun _ => HC0) ?r4
          case y4 => intro wq _; go_simp; try with_reducible rfl
          try simp only [Act.put, List.setIfInBounds_toArray, List.set_cons_zero, List.set_cons_succ]
          refine wpAnyS_takeW (i := 6) (v := ?v5) rfl (by kernel_rfl) (fun _ _ _ h => by cases h.1) (Or.inl ⟨by rfl, ?y5⟩) (fun _ => HC0) ?r5
          case y5 => intro wq _; go_simp; try with_reducible rfl
          try simp only [Act.put, List.setIfInBounds_toArray, List.set_cons_zero, List.set_cons_succ]
          refine wpAnyS_takeW (i := 8) (v := ?v6) rfl (by kernel_rfl) (fun _ _ _ h => by cases h.1) (Or.inl ⟨by rfl, ?y6⟩) (fun _ => HC0) ?r6
          case y6 => intro wq _; go_simp; try with_reducible rfl
          try simp only [Act.put, List.setIfInBounds_toArray, List.set_cons_zero, List.set_cons_succ]
          refine wpAnyS_take (i := 3) (v := ?v7) rfl (by kernel_rfl) (fun _ _ _ h => by cases h.1) (Or.inl ⟨by rfl, ?y7⟩) HC0 ?r7
          case y7 => intro wq hq; (try dsimp only at hq); go_simp; try with_reducible rfl
          try simp only [Act.put, List.setIfInBounds_toArray, List.set_cons_zero, List.set_cons_succ]
          refine wpAnyS_take (i := 4) (v := ?v8) rfl (by kernel_rfl) (fun _ _ _ h => by cases h.1) (Or.inl ⟨by rfl, ?y8⟩) HC0 ?r8
          case y8 => intro wq hq; (try dsimp only at hq); go_simp; try with_reducible rfl
          try simp only [Act.put, List.setIfInBounds_toArray, List.set_cons_zero, List.set_cons_succ]
          refine wpAnyS_take (i := 7) (v := ?v9) rfl (by kernel_rfl) (fun _ _ _ h => by cases h.1) (Or.inl ⟨by rfl, ?y9⟩) HC0 ?r9
          case y9 => intro wq hq; (try dsimp only at hq); go_simp; try with_reducible rfl
          try simp only [Act.put, List.setIfInBounds_toArray, List.set_cons_zero, List.set_cons_succ]
          refine wpAnyS_one (j := 9) (by kernel_rfl) rfl (fun K hK => ?_)
          go_simp
          go_at_call 28; (with_reducible refine HCALL.out.mono ?_)
          rintro ee w3 ⟨rfl, hb3⟩
          have hv3 := HVD.out.later hb3
          have HV3 := Lib.hid hv3
          have HB3 := Lib.hid hb3
          have rr := hv3.lay.reads
          have cx3 : w3.cell? ⟨w1.heap.size + 1, o.length + i, none⟩ = some (.int .u8 (x : Nat)) := (hb3.cell (p := ⟨w1.heap.size + 1, o.length + i, none⟩) lx).trans HC0.1
          have fx3 : w3.frozen? ⟨w1.heap.size + 1, o.length + i, none⟩ = false := (hb3.frozen (p := ⟨w1.heap.size + 1, o.length + i, none⟩) lx).trans fx
          have lx3 : w1.heap.size + 1 < w3.heap.size := Nat.lt_of_lt_of_le lx hb3.size
          have HC3 := And.intro cx3 (And.intro (rr 0) (And.intro (rr 1) (And.intro (rr 2) (And.intro (rr 3) (And.intro (rr 4) (And.intro (rr 5) (And.intro (rr 6) (And.intro (rr 7) hv3.up.cell))))))))
          clear rr hv3 hb3
          refine hK.out _ _ ⟨fun _ _ => HC3, ?_⟩
          clear hK K
          try simp only [Act.put, List.setIfInBounds_toArray, List.set_cons_zero, List.set_cons_succ]
          refine wpAnyS_one (j := 10) (by kernel_rfl) rfl (fun K hK => ?_)
          go_simp
          refine hK.out _ _ ⟨fun _ _ => HC3, ?_⟩
          clear hK K
          try simp only [Act.put, List.setIfInBounds_toArray, List.set_cons_zero, List.set_cons_succ]
          refine wpAnyS_one (j := 11) (by kernel_rfl) rfl (fun K hK => ?_)
          go_simp
          refine hK.out _ _ ⟨fun _ _ => HC3, ?_⟩
          clear hK K
          try simp only [Act.put, List.setIfInBounds_toArray, List.set_cons_zero, List.set_cons_succ]
          refine wpAnyS_one (j := 12) (by kernel_rfl) rfl (fun K hK => ?_)
          go_simp
          refine hK.out _ _ ⟨fun h => absurd rfl h, ?_⟩
          clear hK K
          try simp only [Act.put, List.setIfInBounds_toArray, List.set_cons_zero, List.set_cons_succ]
          refine wpAnyS_done (by kernel_rfl) ⟨rfl, ?_⟩ _
          rw [HZ2.out]
          gi_wp2
          gi_roundg (p.n - (i + 1))
          case measure => have := HG.out; omega
          case rel =>
            have hs1 := hs.1
            have e := mid_set (T := T) (s := p.s) (up := upU o p.n m) (r := r) (o := o) (i := i) (z := (x + f) % 256) (by rw [HR.out.1]; exact hlt) (by
              have h1 := HF.out.1
              rw [mid_back hs1, HF.out.2.2.1, up_back HF.out.2.2.1] at h1
              rw [h1, HF.out.2.1])
            have hp := HV3.out.put (o.length + i) ((x + f) % 256) (by omega)
            rw [e] at hp
            exact ⟨i + 1, rfl, rfl, hlt, hp, ((HD.out.trans (Did.of_below (Below.refl wr.heap.size wr).drew)).trans (Did.of_below HB3.out)).trans (Did.set _ _ (by simp; omega) (by simp) (by simp))⟩
        · obtain rfl : i = p.n := by omega
          have cUp := HV.out.up.cell
          have fUp := HV.out.up.frozen
          gi_wp2
          have hv := HV.out.top (.slice (some ⟨w1.heap.size + 1, o.length, none⟩) p.n (n - o.length))
          have hd := HD.out.trans (Did.set (L := w1.heap.size) (B0 := W0.heap.size) ⟨w1.heap.size + 4, 0, none⟩ (.slice (some ⟨w1.heap.size + 1, o.length, none⟩) p.n (n - o.length)) (by simp; omega) (by simp) (by simp))
          rw [List.drop_of_length_le (by rw [HR.out.1]; exact Nat.le_refl _), List.append_nil] at hv
          refine ⟨hd.1, hd.2, hmq2, _, _, ?_, ?_, ?_, hv⟩
          · refine .inr ⟨Nat.succ_pos _, ?_, ?_⟩
            · rw [List.length_append, uRow_len, HU.out.2.2, Nat.add_mul, Nat.one_mul]
            · rw [Nat.add_sub_cancel, ← HU.out.2.2]
          · rw [undoN, HU.out.2.1]
            show (if 4 < tagM (headM png) (rowM bs (headM png + p.n) m) then none else _) = _
            rw [HE.out.2, HTT.out, if_neg h5, HR.out.2.2]
          · rw [List.length_append, uRow_len, HU.out.2.2, Nat.add_mul, Nat.one_mul]
  case done =>
    rintro D s W hD hDn ⟨hle, v, o, hu, hun, hol, hi⟩ hK
    have hsq : s = q := by
      have := HQ.out
      have hl := HLN.out
      rcases Nat.lt_or_ge s q with h1 | h1
      · have h2 := Nat.mul_le_mul_right (headM png + p.n) (show s + 1 ≤ q from h1)
        have h3 : (s + 1) * (headM png + p.n) = s * (headM png + p.n) + (headM png + p.n) := by rw [Nat.add_mul, Nat.one_mul]
        have hDn : bs.length ≤ s * (headM png + p.n) := hDn
        omega
      · omega
    subst hsq
    have HUN := Lib.hid hun
    have hcO := hi.out.cell
    have hcR := hi.res.cell
    have hcE := hi.err.cell
    have hfR := hi.res.frozen
    have hfE := hi.err.frozen
    have hpos := hi.pos
    have HI := Lib.hid hi
    clear hi hu hun hol hDn
    gi_wp2
    have hi := HI.out
    have b1 := (hi.res.set (.slice (some ⟨w1.heap.size + 1, 0, none⟩) o.length n)).other (B' := w.heap.size + 1 + 1) (by omega) (.int .i64 0)
    have b2 := (hi.err.other (B' := w.heap.size + 1) (by omega) (.slice (some ⟨w1.heap.size + 1, 0, none⟩) o.length n)).set (.int .i64 0)
    have hK2 : ((W.setCell ⟨w.heap.size + 1, 0, none⟩ (.slice (some ⟨w1.heap.size + 1, 0, none⟩) o.length n)).setCell ⟨w.heap.size + 1 + 1, 0, none⟩ (.int .i64 0)).heap[D]? = some (.deferred (some [])) :=
      ((KeepsOthers.setCell _ _ _).trans (KeepsOthers.setCell _ _ _)).same D _ hK rfl
    have c1 := (boxed_put (.deferred none) b1 hK2 rfl).cell
    have c2 := (boxed_put (.deferred none) b2 hK2 rfl).cell
    have hown : (((W.setCell ⟨w.heap.size + 1, 0, none⟩ (.slice (some ⟨w1.heap.size + 1, 0, none⟩) o.length n)).setCell ⟨w.heap.size + 1 + 1, 0, none⟩ (.int .i64 0)).putObj D (.deferred none)).ownsRow w.heap.size 5 1 (.slice (some ⟨w1.heap.size + 1, 0, none⟩) o.length n) o.length (bvs o) := by
      have h1 := hi.own.kept (grownBy_setCell' W (w.heap.size + 1) (.slice (some ⟨w1.heap.size + 1, 0, none⟩) o.length n)) (.inr (hi.res.not_row (by decide) hi.own).symm)
      have h2 := h1.kept (grownBy_setCell' _ (w.heap.size + 1 + 1) (.int .i64 0)) (.inr ((hi.err.other (B' := w.heap.size + 1) (by omega) (.slice (some ⟨w1.heap.size + 1, 0, none⟩) o.length n)).not_row (by decide) h1).symm)
      exact ownsRow_putObj h2 _ hK2 rfl
    have hbel : Below w.heap.size w (((W.setCell ⟨w.heap.size + 1, 0, none⟩ (.slice (some ⟨w1.heap.size + 1, 0, none⟩) o.length n)).setCell ⟨w.heap.size + 1 + 1, 0, none⟩ (.int .i64 0)).putObj D (.deferred none)) :=
      below_put _ ((hi.below.setCell (p := ⟨w.heap.size + 1, 0, none⟩) (by simp) _).setCell (p := ⟨w.heap.size + 1 + 1, 0, none⟩) (by simp; omega) _) (by omega)
    obtain ⟨A3, c3, R3, e3, _, _, hby⟩ := Row8.of_own hown hi.byte
    injection e3 with e31 e32 e33
    subst e31 e33
    refine ⟨by simp, .inl ⟨_, _, rfl, run_takeDeferred hK2, ?_⟩⟩
    exact ⟨.tuple #[.slice (some ⟨w1.heap.size + 1, 0, none⟩) o.length n, .int .i64 0], by simp [results, Try.results18, go_sem, c1, c2], hbel, by rw [HUN.out]; exact ⟨_, _, rfl, hby.bytes⟩⟩
  case stop =>
    rintro D c s W hD ⟨rfl, hnone, hx1, hx2, hx3⟩ hK
    rw [hnone]
    gi_wp2
    have c1 := (boxed_put (.deferred none) hx1 hK rfl).cell
    have c2 := (boxed_put (.deferred none) hx2 hK rfl).cell
    have hbel := below_put (.deferred none) hx3 (D := D) (by omega)
    refine ⟨by simp, .inl ⟨_, _, rfl, run_takeDeferred hK, ?_⟩⟩
    exact ⟨.tuple #[.slice none 0 0, .int .i64 4], by simp [results, Try.results18, go_sem, c1, c2], hbel, rfl⟩
end Go.Proofs.Ytjligbfijjejmaa
