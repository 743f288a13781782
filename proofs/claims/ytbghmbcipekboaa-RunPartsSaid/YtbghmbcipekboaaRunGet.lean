/- run's Get: walked. -/
import Derived.Test.YtbghmbcipekboaaRunIn
import Derived.Test.YtbghmbcipekboaaKept
import Derived.Maps.AppendAt
namespace Go.Proofs.Ytbghmbcipekboaa
open Go.RowKit
attribute [local go_sem] Oper.semAt_some

theorem partsIn_call (F : Fence) (hF : Open_ F) (n : Nat) (A : Option Addr) (m c : Nat) (w : World) :
    CallsIn F n Try.prog 15 #[.slice A m c] w fun e w' => e = .returned (.func (.func 19) #[] #[.pointer (some ⟨w.heap.size, 0, none⟩)]) ∧ w' = w.alloc (.cells #[.slice A m c] 22) := by
  refine hF.calls ?_
  go_enter Try.func15, Try.ntmps15
  go_wp2
  go_ret
  exact ⟨rfl, rfl⟩
/-- What Get answers. -/
def GetIs (R : Got) (w : World) (e : Ending) (w' : World) : Prop :=
  Below w.heap.size w w' ∧ match R with
    | .more => e = .returned (.tuple #[.slice none 0 0, .int .i64 6])
    | .long => e = .returned (.tuple #[.slice none 0 0, .int .i64 2])
    | .ok l => ∃ A c, e = .returned (.tuple #[.slice A l.length c, .int .i64 0]) ∧ Bytes w' A l.length c l
/-- Between two rounds. -/
structure IGet (w : World) (most : Nat) (R : Got) (s : List Nat) (W : World) (o : List Nat) (v : Value) : Prop where
  row : Boxed W (w.heap.size + 1 + 1 + 1) 22 v
  own : W.ownsRow w.heap.size 5 1 v o.length (bvs o)
  byte : ∀ x ∈ o, x < 256
  got : getM most s o = R
  len : o.length ≤ most
  most : Boxed W w.heap.size 3 (.int .i64 most)
  res : Boxed W (w.heap.size + 1) 22 (.slice none 0 0)
  err : Boxed W (w.heap.size + 1 + 1) 24 (.int .i64 0)
  below : Below w.heap.size w W
/-- A round has said 'no more'. -/
structure XGet (w : World) (R : Got) (W : World) (q : Int) : Prop where
  what : (R = .more ∧ q = 6) ∨ (R = .long ∧ q = 2)
  res : Boxed W (w.heap.size + 1) 22 (.slice none 0 0)
  err : Boxed W (w.heap.size + 1 + 1) 24 (.int .i64 q)
  below : Below w.heap.size w W
theorem own_slice {w : World} {base : Nat} {e : TypeId} {size : Nat} {v : Value} {n : Nat} {xs : List Value} (h : w.ownsRow base e size v n xs) : ∃ a c, v = .slice a n c := by
  rcases h.2 with ⟨rfl, rfl⟩ | ⟨g, cap, cur, rfl, _⟩
  · exact ⟨_, _, rfl⟩
  · exact ⟨_, _, rfl⟩
theorem row_not {W : World} {base n g : Nat} {v u : Value} {xs : List Value} (h : W.ownsRow base 5 1 v n xs) (hb : Boxed W g 22 u) : v.ownBlock ≠ some g := fun e => by
  obtain ⟨_, _, cs, hw⟩ := own_lt h e
  exact hw.apart (T' := 22) (cs' := #[u]) hb (by decide) rfl
theorem IGet.kept {w W W' : World} {most : Nat} {R : Got} {s o : List Nat} {v : Value} {X : Nat → Prop} (h : IGet w most R s W o v) (k : Kept w.heap.size X W W') (hX : ∀ g, X g → w.heap.size + 4 ≤ g ∧ ∃ u, Boxed W g 22 u) : IGet w most R s W' o v :=
  ⟨k.boxed h.row (fun e => by have := (hX _ e).1; omega), k.own h.own (fun g hg e => by obtain ⟨_, u, hb⟩ := hX g e; exact row_not h.own hb hg), h.byte, h.got, h.len,
    k.boxed h.most (fun e => by have := (hX _ e).1; omega), k.boxed h.res (fun e => by have := (hX _ e).1; omega), k.boxed h.err (fun e => by have := (hX _ e).1; omega), k.below h.below (Nat.le_refl _)⟩
theorem XGet.kept {w W W' : World} {R : Got} {q : Int} {X : Nat → Prop} (h : XGet w R W q) (k : Kept w.heap.size X W W') (hX : ∀ g, X g → w.heap.size + 4 ≤ g) : XGet w R W' q :=
  ⟨h.what, k.boxed h.res (fun e => by have := hX _ e; omega), k.boxed h.err (fun e => by have := hX _ e; omega), k.below h.below (Nat.le_refl _)⟩
def IG (w : World) (most : Nat) (R : Got) (s : List Nat × Nat) (W : World) : Prop := s.2 = 0 ∧ ∃ o v, IGet w most R s.1 W o v
def XG (w : World) (R : Got) (c : Code) (_ : List Nat × Nat) (W : World) : Prop := c = .ret ∧ ∃ q, XGet w R W q
theorem BoxIn.kept {B n₀ : Nat} {s : List Nat} {W W' : World} {X : Nat → Prop} (h : BoxIn B n₀ s W) (k : Kept n₀ X W W') (hB : ¬ X B) : BoxIn B n₀ s W' := by
  obtain ⟨A, n, c, hb, hs, hl⟩ := h
  exact ⟨A, n, c, k.boxed hb hB, ⟨hs.len, hs.cap, hs.top, hs.byte, fun h0 => by
    obtain ⟨R, o, e, hR, hc⟩ := hs.at_ h0
    exact ⟨R, o, e, Nat.lt_of_lt_of_le hR k.size, fun i b hb => (World.cell?_of_block (k.low R (hl h0 R o e) hR)).trans (hc i b hb)⟩⟩, hl⟩
theorem YIn.size {s t : List Nat × Nat} {vs : Array Value} {W : World} (h : YIn s vs t W) : vs.size = 2 := by
  rcases h.2.2 with ⟨_, rfl, _⟩ | ⟨_, _, _, _, _, _, rfl, _⟩ <;> rfl
theorem YIn.put {s t : List Nat × Nat} {vs : Array Value} {W : World} {l : Nat} {o : Obj} (o' : Obj) (h : YIn s vs t W) (hl : W.heap[l]? = some o) (ho : o.isCells = false) : YIn s vs t (W.putObj l o') := by
  obtain ⟨h1, h2, h3⟩ := h
  refine ⟨h1, h2, ?_⟩
  rcases h3 with h3 | ⟨p, k, A, c, e1, e2, e3, e4, e5⟩
  · exact .inl h3
  · exact .inr ⟨p, k, A, c, e1, e2, e3, e4.putObj o' hl ho, e5⟩
/-- A result and its error are laid. -/
theorem IGet.stop {w W : World} {most : Nat} {R : Got} {s o : List Nat} {v : Value} {q : Int} (h : IGet w most R s W o v) (hq : (R = .more ∧ q = 6) ∨ (R = .long ∧ q = 2)) (B : Nat) :
    KeepsFrom B W ((W.setCell ⟨w.heap.size + 1, 0, none⟩ (.slice none 0 0)).setCell ⟨w.heap.size + 1 + 1, 0, none⟩ (.int .i64 q)) ∧ XGet w R ((W.setCell ⟨w.heap.size + 1, 0, none⟩ (.slice none 0 0)).setCell ⟨w.heap.size + 1 + 1, 0, none⟩ (.int .i64 q)) q :=
  ⟨((KeepsOthers.setCell _ _ _).trans (KeepsOthers.setCell _ _ _)).from _, hq, (h.res.set _).other (by omega) _, (h.err.other (by omega) _).set _,
    (h.below.setCell (p := ⟨w.heap.size + 1, 0, none⟩) (by simp) _).setCell (p := ⟨w.heap.size + 1 + 1, 0, none⟩) (by simp; omega) _⟩
/-- A part is appended. -/
theorem IGet.push {w W w1 : World} {most B B0 : Nat} {R : Got} {s s' o p : List Nat} {v v' u : Value} (h : IGet w most R s W o v) (hg : getM most s' (o ++ p) = R) (hl : o.length + p.length ≤ most) (hp : ∀ x ∈ p, x < 256)
    (hown : w1.ownsRow w.heap.size 5 1 v' (o.length + p.length) (bvs o ++ bvs p)) (hgrow : W.grownBy w1 v.ownBlock) (hB : Boxed W B 22 u) (hB3 : w.heap.size + 4 ≤ B) :
    Boxed w1 (w.heap.size + 1 + 1 + 1) 22 v ∧ KeepsFrom B0 W (w1.setCell ⟨w.heap.size + 1 + 1 + 1, 0, none⟩ v') ∧ KpIn B w.heap.size W (w1.setCell ⟨w.heap.size + 1 + 1 + 1, 0, none⟩ v') ∧ IGet w most R s' (w1.setCell ⟨w.heap.size + 1 + 1 + 1, 0, none⟩ v') (o ++ p) v' := by
  have hne : ∀ {g : Nat} {t : TypeId} {x : Value}, Boxed W g t x → t ≠ 5 → some g ≠ v.ownBlock := fun hb ht => hb.not_row ht h.own
  have hr1 := h.row.kept hgrow (hne h.row (by decide))
  have hm1 := h.most.kept hgrow (hne h.most (by decide))
  have hs1 := h.res.kept hgrow (hne h.res (by decide))
  have he1 := h.err.kept hgrow (hne h.err (by decide))
  have hrow : ∀ j, v.ownBlock = some j → w.heap.size ≤ j ∧ j ≠ B := fun j hj => ⟨(own_lt h.own hj).1, fun e => row_not h.own hB (e ▸ hj)⟩
  refine ⟨hr1, ?_, ?_, ?_⟩
  · refine ((KeepsOthers.of_grownBy hgrow fun j o ej hj => ?_).trans (KeepsOthers.setCell _ _ _)).from _
    obtain ⟨_, _, cs, hw⟩ := own_lt h.own ej
    have e := hj.symm.trans (show W.heap[j]? = some (.cells cs 5 (0, 0)) from hw)
    injection e with e
    subst e
    rfl
  · have hf : Fr (fun k => w.heap.size ≤ k ∧ k ≠ B) W w1 := (Fr.of_grown hgrow).more (fun j _ e => hrow j e.symm)
    exact hf.set (p := ⟨w.heap.size + 1 + 1 + 1, 0, none⟩) (fun _ => ⟨by simp; omega, by simp; omega⟩) _
  · refine ⟨hr1.set _, ?_, ?_, hg, by rw [List.length_append]; exact hl, hm1.other (by omega) _, hs1.other (by omega) _, he1.other (by omega) _, ?_⟩
    · rw [bvs_append, List.length_append]
      exact hown.kept (grownBy_setCell' w1 _ v') (.inr (hr1.not_row (by decide) hown).symm)
    · intro x hx
      rcases List.mem_append.1 hx with hx | hx
      · exact h.byte x hx
      · exact hp x hx
    · exact (h.below.grown hgrow h.below.size (fun j hj => (hrow j hj).1)).setCell (p := ⟨w.heap.size + 1 + 1 + 1, 0, none⟩) (by simp; omega) _
theorem get_more {most : Nat} {s o : List Nat} {R : Got} (hg : getM most s o = R) (hne : s[0]? ≠ some 128) (hc : cut1 s = none) : R = .more := by
  rw [getM_cut1 _ _ _ hne, hc] at hg
  exact hg.symm
theorem get_long {most k : Nat} {s o p : List Nat} {R : Got} (hg : getM most s o = R) (hne : s[0]? ≠ some 128) (hc : cut1 s = some (p, k)) (hl : most < o.length + p.length) : R = .long := by
  rw [getM_cut1 _ _ _ hne, hc] at hg
  simp only [if_pos hl] at hg
  exact hg.symm
theorem get_next {most k : Nat} {s o p : List Nat} {R : Got} (hg : getM most s o = R) (hne : s[0]? ≠ some 128) (hc : cut1 s = some (p, k)) (hl : ¬ most < o.length + p.length) : getM most (s.drop k) (o ++ p) = R := by
  rw [getM_cut1 _ _ _ hne, hc] at hg
  simp only [if_neg hl] at hg
  exact hg
theorem get_start (w : World) (most : Nat) (R : Got) (bs : List Nat) (A : Option Addr) (n c : Nat) (hR : getM most bs [] = R) (h : Bytes w A n c bs) :
    ∃ W0, (((((w.alloc (.cells #[.int .i64 (most : Int)] 3)).alloc (.cells #[.slice none 0 0] 22)).alloc (.cells #[.int .i64 0] 24)).alloc (.cells #[.slice none 0 0] 22)).alloc (.cells #[.slice A n c] 22)) = W0 ∧
      W0.heap.size = w.heap.size + 5 ∧ IG w most R (bs, 0) W0 ∧ TIn (w.heap.size + 1 + 1 + 1 + 1) w.heap.size (bs, 0) W0 := by
  refine ⟨_, rfl, by simp, ⟨rfl, [], .slice none 0 0, ?_⟩, ?_⟩
  · have b0 := Boxed.new w 3 (.int .i64 (most : Int))
    have b1 := Boxed.new (w.alloc (.cells #[.int .i64 (most : Int)] 3)) 22 (.slice none 0 0)
    have b2 := Boxed.new ((w.alloc (.cells #[.int .i64 (most : Int)] 3)).alloc (.cells #[.slice none 0 0] 22)) 24 (.int .i64 0)
    have b3 := Boxed.new (((w.alloc (.cells #[.int .i64 (most : Int)] 3)).alloc (.cells #[.slice none 0 0] 22)).alloc (.cells #[.int .i64 0] 24)) 22 (.slice none 0 0)
    simp only [World.size_alloc] at b1 b2 b3
    exact ⟨b3.alloc _, World.ownsRow_nil _ _ _ _, fun x hx => by simp at hx, hR, by simp, (((b0.alloc _).alloc _).alloc _).alloc _, ((b1.alloc _).alloc _).alloc _, (b2.alloc _).alloc _,
      (((((Below.refl _ _).alloc (Nat.le_refl _) _).alloc (by simp) _).alloc (by simp; omega) _).alloc (by simp; omega) _).alloc (by simp; omega) _⟩
  · have b4 := Boxed.new ((((w.alloc (.cells #[.int .i64 (most : Int)] 3)).alloc (.cells #[.slice none 0 0] 22)).alloc (.cells #[.int .i64 0] 24)).alloc (.cells #[.slice none 0 0] 22)) 22 (.slice A n c)
    simp only [World.size_alloc] at b4
    have hb : Below w.heap.size w (((((w.alloc (.cells #[.int .i64 (most : Int)] 3)).alloc (.cells #[.slice none 0 0] 22)).alloc (.cells #[.int .i64 0] 24)).alloc (.cells #[.slice none 0 0] 22)).alloc (.cells #[.slice A n c] 22)) :=
      (((((Below.refl _ _).alloc (Nat.le_refl _) _).alloc (by simp) _).alloc (by simp; omega) _).alloc (by simp; omega) _).alloc (by simp; omega) _
    refine ⟨A, n, c, b4, h.below hb, fun h0 R o e => ?_⟩
    obtain ⟨R', o', e', hR', _⟩ := h.at_ h0
    rw [e] at e'
    injection e' with e'
    injection e' with e1 e2
    omega
theorem boxed_put {W : World} {B D : Nat} {t : TypeId} {v : Value} {o : Obj} (o' : Obj) (h : Boxed W B t v) (hD : W.heap[D]? = some o) (ho : o.isCells = false) : Boxed (W.putObj D o') B t v := by
  refine (World.putObj_heap_other (fun e => ?_)).trans h
  subst e
  rw [show W.heap[B]? = _ from h] at hD
  injection hD with hD
  subst hD
  cases ho
theorem below_put {w V : World} {D : Nat} (o' : Obj) (h : Below w.heap.size w V) (hD : w.heap.size ≤ D) : Below w.heap.size w (V.putObj D o') :=
  h.trans ((Fr.of_grown (grownBy_putObj' V D o')).below h.size (fun j hj e => by injection e with e; omega))
/-- What is put of a new row that was filled. -/
theorem own_bytes {W : World} {base : Nat} {v : Value} {n : Nat} {bs : List Nat} (h : W.ownsRow base 5 1 v n (bvs bs)) (hb : ∀ b ∈ bs, b < 256) : ∃ A c, v = .slice A n c ∧ Bytes W A n c bs := by
  obtain ⟨A, c, R, e, _, _, hr⟩ := Row8.of_own h hb
  exact ⟨A, c, e, hr.bytes⟩
set_option maxRecDepth 100000 in
set_option maxHeartbeats 4000000 in
theorem get_ok (A : Option Addr) (n c most : Nat) (bs : List Nat) (w : World) (h : Bytes w A n c bs) (hmost : most ≤ 1048576) :
    Calls Try.prog 10 #[.slice A n c, .int .i64 most] w (GetIs (getM most bs []) w) := by
  obtain ⟨R, hR⟩ : ∃ R, getM most bs [] = R := ⟨_, rfl⟩
  rw [hR]
  refine (callsIn_wide (n := 3)).1 ?_
  refine callsIn_of_wp_marks Try.func10 rfl trivial ?_ rfl
  simp only [Try.ntmps10, List.size_toArray, List.length_cons, List.length_nil, Nat.reduceAdd, Nat.reduceSub, Array.replicate_succ, Array.replicate_zero, List.push_toArray, List.append_toArray, List.nil_append, List.cons_append]
  have hm0 : ¬ ((most : Int) < 0) := by omega
  have hm1 : ¬ ((1048576 : Int) < (most : Int)) := by omega
  have HR := Lib.hid hR
  clear hR
  gi_wp2_with (refine ⟨trivial, ?_⟩; gi_at_call 15; refine (partsIn_call _ open_wide _ _ _ _ _).mono ?_; rintro e w' ⟨rfl, rfl⟩)
  obtain ⟨W0, hW0, hsz, hI0, hT0⟩ := get_start w most R bs A n c HR.out h
  rw [hW0]
  clear hW0
  refine wpIn_iter rfl (by omega) (gf := 19) (lb := #[.pointer (some ⟨w.heap.size + 1 + 1 + 1 + 1, 0, none⟩)]) rfl trivial (enters_of Try.func19 (by kernel_rfl) rfl)
    (partsIn_iter (w.heap.size + 1 + 1 + 1 + 1) w.heap.size 2 (by omega) (by omega) bs) ?hS (fun h k => KpIn.trans h k) ?hKb ?hps ?hT ?hY
    (IG w most R) (XG w R) ?hI ?hIx ?hIS ?hIxS ?h0 ?hT0
    (fun vs => { tmps := #[.slice A n c, .int .i64 most, undef, .pointer (some ⟨w.heap.size, 0, none⟩), .pointer (some ⟨w.heap.size + 1, 0, none⟩), .pointer (some ⟨w.heap.size + 1 + 1, 0, none⟩), .pointer (some ⟨w.heap.size + 1 + 1 + 1, 0, none⟩), vs.getD 0 undef, vs.getD 1 undef,
      .int .i64 most, .bool false, .bool false, .int .i64 most, .bool false, .bool false, .slice A n c, .func (.func 19) #[] #[.pointer (some ⟨w.heap.size + 1 + 1 + 1 + 1, 0, none⟩)], vs.getD 0 undef, vs.getD 1 undef,
      undef, undef, undef, undef, undef, undef, undef, undef, undef, undef, undef, undef, undef, undef], defers := [] }) ?assign ?body ?done ?stop
  case hS => intro k hk; subst hk; rw [hsz]; omega
  case hKb => intro W l o o' hl ho _; exact fr_putObj o' ⟨by omega, by omega⟩
  case hps => intro s vs t W hy; exact hy.size
  case hT => intro s W W' row hs hg hr; exact BoxIn.kept hs (Kept.of_grown hg hr (by omega)) (fun e => e)
  case hY => intro s vs t W l o o' hy _ hl ho; exact hy.put o' hl ho
  case hI => intro s W W' row hs hg hr; obtain ⟨h0, o, v, hi⟩ := hs; exact ⟨h0, o, v, hi.kept (Kept.of_grown hg hr (by omega)) (fun _ e => e.elim)⟩
  case hIx => intro c s W W' row hs hg hr; obtain ⟨h0, q, hi⟩ := hs; exact ⟨h0, q, hi.kept (Kept.of_grown hg hr (by omega)) (fun _ e => e.elim)⟩
  case hIS => intro s W W' hs hf ht; obtain ⟨h0, o, v, hi⟩ := hs; obtain ⟨t, A', n', c', hb, _⟩ := ht; exact ⟨h0, o, v, hi.kept (Kept.of_fr hf (fun k hk e => by omega)) (fun g e => by subst e; exact ⟨by omega, _, hb⟩)⟩
  case hIxS => intro c s W W' hs hf _; obtain ⟨h0, q, hi⟩ := hs; exact ⟨h0, q, hi.kept (Kept.of_fr hf (fun k hk e => by omega)) (fun g e => by omega)⟩
  case h0 => exact hI0
  case hT0 => exact hT0
  case assign =>
    intro l s vs t W K hy hK
    rcases hy.2.2 with ⟨_, rfl, _⟩ | ⟨_, _, _, _, _, _, rfl, _⟩
    · gi_wp2
      exact hK
    · gi_wp2
      exact hK
  case body =>
    rintro l ⟨s, q⟩ vs t W ⟨hq, o, v, hi⟩ ht ⟨-, hne, hor⟩
    have hcM := hi.most.cell
    have hcO := hi.row.cell
    have hcR := hi.res.cell
    have hcE := hi.err.cell
    have hfO := hi.row.frozen
    have hfR := hi.res.frozen
    have hfE := hi.err.frozen
    obtain ⟨a0, cc, rfl⟩ := own_slice hi.own
    have hol := hi.len
    rcases hor with ⟨hcut, rfl, rfl⟩ | ⟨p, k, A', c', hcut, hp1, rfl, hbp, rfl⟩
    · have hmore := get_more hi.got hne hcut
      have hst := hi.stop (.inl ⟨hmore, rfl⟩) (w.heap.size + 5)
      have HST := Lib.hid hst
      have HM := Lib.hid hmore
      clear hst hmore hcut hne ht hi
      gi_wp2
      exact ⟨HST.out.1, rfl, 6, HST.out.2⟩
    · by_cases hlong : most < o.length + p.length
      · have hst := hi.stop (.inr ⟨get_long hi.got hne hcut hlong, rfl⟩) (w.heap.size + 5)
        have HST := Lib.hid hst
        clear hst hcut hne ht hi
        gi_wp2
        exact ⟨HST.out.1, rfl, 2, HST.out.2⟩
      · obtain ⟨A2, n2, c2, hbx, _, _⟩ := ht
        obtain ⟨R', o', hA', hR', hcells⟩ := hbp.at_ (by omega)
        subst hA'
        have hpsh := fun (w1 : World) (v' : Value) (h1 : w1.ownsRow w.heap.size 5 1 v' (o.length + p.length) (bvs o ++ bvs p)) (h2 : W.grownBy w1 _) => hi.push (B0 := w.heap.size + 5) (get_next hi.got hne hcut hlong) (by omega) hbp.byte h1 h2 hbx (by omega)
        have hnews : ∀ (j : Nat) (u : Value), (bvs p)[j]? = some u → W.cell? ((⟨R', o', none⟩ : Addr).add j) = some u := fun j u hu => by
          obtain ⟨b, hb, rfl⟩ := bvs_at hu
          have e2 : (⟨R', o', none⟩ : Addr).add j = ⟨R', o' + j, none⟩ := by
            unfold Addr.add; by_cases h0 : j = 0 <;> simp [h0]
          rw [e2]
          exact hcells j b hb
        have hpl : (bvs p).length = p.length * 1 := by rw [bvs_length, Nat.mul_one]
        have hsz0 := hi.below.size
        have HP := Lib.hid hpsh
        have HO := Lib.hid hi.own
        have HC := Lib.hid hnews
        have HL := Lib.hid hpl
        obtain ⟨i0, hi0, hz0, hz1, hz2⟩ := info_parts info8
        clear hpsh hcut hne hi hnews hpl hbx hcells hbp
        gi_wp2_with (gi_at_builtin; refine wpListIn_append_own _ rfl _ _ 22 rfl w.heap.size 5 i0 (.int .u8 0) 1 1 Try.underlying22 hi0 hz0 hz1 hz2 rfl (by decide) _ _ _ rfl HO.out ⟨R', o', none⟩ p.length c' (bvs p) rfl HL.out HC.out (bvs_one p) (by unfold maxLen; omega) (by omega) (by omega) ?_; intro v' w1 hown' hgrow _; obtain ⟨a1, cc1, rfl⟩ := own_slice hown'; have hps := Lib.hid (HP.out _ _ hown' hgrow); have hcr := hps.out.1.cell; have hfr := hps.out.1.frozen; clear hown' hgrow)
        exact ⟨hps.out.2.1, hps.out.2.2.1, rfl, _, _, hps.out.2.2.2⟩
  case done =>
    rintro D ⟨s, q⟩ W hD hDn ⟨hq, o, v, hi⟩ hK
    have hq : q = 0 := hq
    subst hq
    have hs : s[0]? = some 128 := by
      rcases hDn with h6 | h6
      · cases h6
      · exact h6
    have hRo : R = .ok o := by
      obtain ⟨x, r, rfl⟩ : ∃ x r, s = x :: r := by
        cases s with
        | nil => simp at hs
        | cons x r => exact ⟨x, r, rfl⟩
      obtain rfl : x = 128 := by simpa using hs
      have := hi.got
      rw [getM_end] at this
      exact this.symm
    subst hRo
    have hcO := hi.row.cell
    have hcR := hi.res.cell
    have hcE := hi.err.cell
    have hfR := hi.res.frozen
    have hfE := hi.err.frozen
    obtain ⟨a0, cc, rfl⟩ := own_slice hi.own
    have HI := Lib.hid hi
    clear hi
    gi_wp2
    have hi := HI.out
    have hrow := hi.row
    have b1 := (hi.res.set (.slice a0 o.length cc)).other (B' := w.heap.size + 1 + 1) (by omega) (.int .i64 0)
    have b2 := (hi.err.other (B' := w.heap.size + 1) (by omega) (.slice a0 o.length cc)).set (.int .i64 0)
    have hK2 : ((W.setCell ⟨w.heap.size + 1, 0, none⟩ (.slice a0 o.length cc)).setCell ⟨w.heap.size + 1 + 1, 0, none⟩ (.int .i64 0)).heap[D]? = some (.deferred (some [])) :=
      ((KeepsOthers.setCell _ _ _).trans (KeepsOthers.setCell _ _ _)).same D _ hK rfl
    have c1 := (boxed_put (.deferred none) b1 hK2 rfl).cell
    have c2 := (boxed_put (.deferred none) b2 hK2 rfl).cell
    have hown : (((W.setCell ⟨w.heap.size + 1, 0, none⟩ (.slice a0 o.length cc)).setCell ⟨w.heap.size + 1 + 1, 0, none⟩ (.int .i64 0)).putObj D (.deferred none)).ownsRow w.heap.size 5 1 (.slice a0 o.length cc) o.length (bvs o) := by
      have h1 := hi.own.kept (grownBy_setCell' W (w.heap.size + 1) (.slice a0 o.length cc)) (.inr (hi.res.not_row (by decide) hi.own).symm)
      have h2 := h1.kept (grownBy_setCell' _ (w.heap.size + 1 + 1) (.int .i64 0)) (.inr ((hi.err.other (B' := w.heap.size + 1) (by omega) (.slice a0 o.length cc)).not_row (by decide) h1).symm)
      exact ownsRow_putObj h2 _ hK2 rfl
    have hbel : Below w.heap.size w (((W.setCell ⟨w.heap.size + 1, 0, none⟩ (.slice a0 o.length cc)).setCell ⟨w.heap.size + 1 + 1, 0, none⟩ (.int .i64 0)).putObj D (.deferred none)) :=
      below_put _ ((hi.below.setCell (p := ⟨w.heap.size + 1, 0, none⟩) (by simp) _).setCell (p := ⟨w.heap.size + 1 + 1, 0, none⟩) (by simp; omega) _) (by omega)
    obtain ⟨A3, c3, e3, hby⟩ := own_bytes hown hi.byte
    injection e3 with e31 e32 e33
    subst e31 e33
    refine ⟨by simp, .inl ⟨_, _, rfl, run_takeDeferred hK2, ?_⟩⟩
    exact ⟨.tuple #[.slice a0 o.length cc, .int .i64 0], by simp [results, Try.results10, go_sem, c1, c2], hbel, _, _, rfl, hby⟩
  case stop =>
    rintro D c s W hD ⟨rfl, q, hx⟩ hK
    gi_wp2
    have c1 := (boxed_put (.deferred none) hx.res hK rfl).cell
    have c2 := (boxed_put (.deferred none) hx.err hK rfl).cell
    have hbel := below_put (.deferred none) hx.below (D := D) (by omega)
    refine ⟨by simp, .inl ⟨_, _, rfl, run_takeDeferred hK, ?_⟩⟩
    refine ⟨.tuple #[.slice none 0 0, .int .i64 q], by simp [results, Try.results10, go_sem, c1, c2], hbel, ?_⟩
    rcases hx.what with ⟨rfl, rfl⟩ | ⟨rfl, rfl⟩ <;> rfl
end Go.Proofs.Ytbghmbcipekboaa
