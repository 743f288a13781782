/- run's Put: walked. -/
import Derived.Test.YtbghmbcipekboaaRunOf
import Derived.Test.YtbghmbcipekboaaRoundIn
namespace Go.Proofs.Ytbghmbcipekboaa
open Go.RowKit
attribute [local go_sem] Oper.semAt_some

theorem partsOf_call (F : Fence) (hF : Open_ F) (n : Nat) (A : Option Addr) (m c : Nat) (w : World) :
    CallsIn F n Try.prog 13 #[.slice A m c] w fun e w' => e = .returned (.func (.func 16) #[] #[.pointer (some ⟨w.heap.size, 0, none⟩)]) ∧ w' = w.alloc (.cells #[.slice A m c] 22) := by
  refine hF.calls ?_
  go_enter Try.func13, Try.ntmps13
  go_wp2
  go_ret
  exact ⟨rfl, rfl⟩
/-- What Put answers. -/
def PutIs (bs : List Nat) (w : World) (e : Ending) (w' : World) : Prop :=
  ∃ A c, e = .returned (.tuple #[.slice A ((putM bs).length + 1) c, .int .i64 0]) ∧ Bytes w' A ((putM bs).length + 1) c (putM bs ++ [128]) ∧ Below w.heap.size w w'
/-- What has been put lies in a row of its own, whose slice lies in the box at the heap's old end. -/
structure PP (w W : World) (o : List Nat) (v : Value) : Prop where
  row : Boxed W w.heap.size 22 v
  own : W.ownsRow w.heap.size 5 1 v o.length (bvs o)
  byte : ∀ x ∈ o, x < 256
  below : Below w.heap.size w W
theorem PP.kept {w W W' : World} {o : List Nat} {v : Value} {X : Nat → Prop} (h : PP w W o v) (k : Kept w.heap.size X W W') (hX : ∀ g, X g → w.heap.size + 1 ≤ g ∧ ∃ u, Boxed W g 22 u) : PP w W' o v :=
  ⟨k.boxed h.row (fun e => by have := (hX _ e).1; omega), k.own h.own (fun g hg e => by obtain ⟨_, u, hb⟩ := hX g e; exact row_not h.own hb hg), h.byte, k.below h.below (Nat.le_refl _)⟩
/-- Between two rounds. -/
def IP (w : World) (bs s : List Nat) (W : World) : Prop := s.length ≤ bs.length ∧ ∃ o v, PP w W o v ∧ o ++ putM s = putM bs
/-- What a piece of a round does to the world. -/
def Did (w : World) (B B0 : Nat) (W W' : World) : Prop := KeepsFrom B0 W W' ∧ KpIn B w.heap.size W W'
theorem Did.trans {w a b c : World} {B B0 : Nat} (h : Did w B B0 a b) (k : Did w B B0 b c) : Did w B B0 a c := ⟨h.1.trans k.1, KpIn.trans h.2 k.2⟩
/-- Some bytes are appended, and the slice is laid in its box. -/
theorem PP.push {w W W2 w1 : World} {B B0 : Nat} {o q : List Nat} {v v' u : Value} (h : PP w W o v) (hq : ∀ x ∈ q, x < 256) (hx : Fr (fun _ => False) W W2)
    (hown : w1.ownsRow w.heap.size 5 1 v' (o.length + q.length) (bvs o ++ bvs q)) (hgrow : W2.grownBy w1 v.ownBlock) (hB : Boxed W B 22 u) (hB1 : w.heap.size + 1 ≤ B) :
    Boxed w1 w.heap.size 22 v ∧ Did w B B0 W (w1.setCell ⟨w.heap.size, 0, none⟩ v') ∧ PP w (w1.setCell ⟨w.heap.size, 0, none⟩ v') (o ++ q) v' ∧ Boxed (w1.setCell ⟨w.heap.size, 0, none⟩ v') B 22 u := by
  have old : ∀ {k : Nat} {x : Obj}, W.heap[k]? = some x → W2.heap[k]? = some x := fun hk => (hx.block _ (Array.getElem?_eq_some_iff.1 hk).1 (fun e => e)).trans hk
  have hrow2 : Boxed W2 w.heap.size 22 v := old h.row
  have hB2 : Boxed W2 B 22 u := old hB
  have hown2 : W2.ownsRow w.heap.size 5 1 v o.length (bvs o) := own_frame h.own hx (fun _ _ e => e)
  have hr1 := hrow2.kept hgrow (hrow2.not_row (by decide) hown2)
  have hBw1 := hB2.kept hgrow (hB2.not_row (by decide) hown2)
  have hrow : ∀ j, v.ownBlock = some j → w.heap.size ≤ j ∧ j ≠ B := fun j hj => ⟨(own_lt h.own hj).1, fun e => row_not h.own hB (e ▸ hj)⟩
  have hf : Fr (fun k => w.heap.size ≤ k ∧ k ≠ B) W w1 := (hx.more (fun _ _ e => e.elim)).trans (Fr.of_grown hgrow) (fun j _ e => hrow j e.symm)
  refine ⟨hr1, ⟨?_, hf.set (p := ⟨w.heap.size, 0, none⟩) (fun _ => ⟨Nat.le_refl _, by simp; omega⟩) _⟩, ⟨hr1.set _, ?_, ?_, ?_⟩, hBw1.other (by omega) _⟩
  · refine (KeepsOthers.trans ⟨Nat.le_trans hx.size hgrow.size, fun k x hk hc => ?_⟩ (KeepsOthers.setCell _ _ _)).from _
    refine (hgrow.block k (Array.getElem?_eq_some_iff.1 (old hk)).1 (fun e => ?_)).trans (old hk)
    obtain ⟨_, _, cs, hw⟩ := own_lt h.own e.symm
    have e2 := hk.symm.trans (show W.heap[k]? = some (.cells cs 5 (0, 0)) from hw)
    injection e2 with e2
    subst e2
    cases hc
  · rw [bvs_append, List.length_append]
    exact hown.kept (grownBy_setCell' w1 _ v') (.inr (hr1.not_row (by decide) hown).symm)
  · intro x hx
    rcases List.mem_append.1 hx with hx | hx
    · exact h.byte x hx
    · exact hq x hx
  · exact ((h.below.trans (hx.below h.below.size (fun _ _ e => e))).grown hgrow (Nat.le_trans h.below.size hx.size) (fun j hj => (hrow j hj).1)).setCell (p := ⟨w.heap.size, 0, none⟩) (Nat.le_refl _) _
theorem YOf.size {n₀ : Nat} {s t : List Nat} {vs : Array Value} {W : World} (h : YOf n₀ s vs t W) : vs.size = 2 := by
  obtain ⟨_, _, _, _, _, rfl, _⟩ := h; rfl
theorem YOf.put {n₀ : Nat} {s t : List Nat} {vs : Array Value} {W : World} {l : Nat} {o : Obj} (o' : Obj) (h : YOf n₀ s vs t W) (hl : W.heap[l]? = some o) (ho : o.isCells = false) : YOf n₀ s vs t (W.putObj l o') := by
  obtain ⟨h1, h2, R, k, c, h3, h4, h5⟩ := h
  exact ⟨h1, h2, R, k, c, h3, h4.putObj o' hl ho, h5⟩
theorem put_start (w : World) (bs : List Nat) (A : Option Addr) (n c : Nat) (h : Bytes w A n c bs) :
    ∃ W0, (w.alloc (.cells #[.slice none 0 0] 22)).alloc (.cells #[.slice A n c] 22) = W0 ∧ W0.heap.size = w.heap.size + 2 ∧ IP w bs bs W0 ∧ BoxIn (w.heap.size + 1) w.heap.size bs W0 := by
  have hb : Below w.heap.size w ((w.alloc (.cells #[.slice none 0 0] 22)).alloc (.cells #[.slice A n c] 22)) := ((Below.refl _ _).alloc (Nat.le_refl _) _).alloc (by simp) _
  have b0 := Boxed.new w 22 (.slice none 0 0)
  have b1 := Boxed.new (w.alloc (.cells #[.slice none 0 0] 22)) 22 (.slice A n c)
  simp only [World.size_alloc] at b1
  refine ⟨_, rfl, by simp, ⟨Nat.le_refl _, [], .slice none 0 0, ⟨b0.alloc _, World.ownsRow_nil _ _ _ _, fun x hx => by simp at hx, hb⟩, rfl⟩, A, n, c, b1, h.below hb, fun h0 R o e => ?_⟩
  obtain ⟨R', o', e', hR', _⟩ := h.at_ h0
  rw [e] at e'
  injection e' with e'
  injection e' with e1 e2
  omega
set_option maxRecDepth 100000 in
set_option maxHeartbeats 4000000 in
theorem put_ok (A : Option Addr) (n c : Nat) (bs : List Nat) (w : World) (h : Bytes w A n c bs) (hn : n ≤ 1048576) :
    Calls Try.prog 8 #[.slice A n c] w (PutIs bs w) := by
  refine (callsIn_wide (n := 3)).1 ?_
  refine callsIn_of_wp_marks Try.func8 rfl trivial ?_ rfl
  simp only [Try.ntmps8, List.size_toArray, List.length_cons, List.length_nil, Nat.reduceAdd, Nat.reduceSub, Array.replicate_succ, Array.replicate_zero, List.push_toArray, List.append_toArray, List.nil_append, List.cons_append]
  have hm1 : ¬ ((1048576 : Int) < (n : Int)) := by omega
  gi_wp2_with (refine ⟨trivial, ?_⟩; gi_at_call 13; refine (partsOf_call _ open_wide _ _ _ _ _).mono ?_; rintro e w' ⟨rfl, rfl⟩)
  obtain ⟨W0, hW0, hsz, hI0, hT0⟩ := put_start w bs A n c h
  rw [hW0]
  clear hW0
  refine wpIn_iter rfl (by omega) (gf := 16) (lb := #[.pointer (some ⟨w.heap.size + 1, 0, none⟩)]) rfl trivial (enters_of Try.func16 (by kernel_rfl) rfl)
    (partsOf_iter (w.heap.size + 1) w.heap.size 2 (by omega) (by omega) bs) ?hS (fun h k => KpIn.trans h k) ?hKb ?hps ?hT ?hY
    (IP w bs) (fun _ _ _ => False) ?hI (fun _ _ _ _ _ h _ _ => h) ?hIS (fun _ _ _ _ h _ _ => h) hI0 hT0
    (fun vs => { tmps := #[.slice A n c, undef, .slice none 0 0, .int .i64 0, .pointer (some ⟨w.heap.size, 0, none⟩), vs.getD 0 undef, vs.getD 1 undef, .slice A n c, .int .i64 n, .bool false, .slice A n c,
      .func (.func 16) #[] #[.pointer (some ⟨w.heap.size + 1, 0, none⟩)], vs.getD 0 undef, vs.getD 1 undef, undef, undef, undef, undef, undef, undef, undef, undef, undef, undef, undef, undef, undef, undef, undef, undef, undef, undef, undef, undef, undef, undef, undef, undef], defers := [] }) ?assign ?body ?done (fun _ _ _ _ _ h _ => h.elim)
  case hS => intro k hk; subst hk; rw [hsz]; omega
  case hKb => intro W l o o' hl ho _; exact fr_putObj o' ⟨by omega, by omega⟩
  case hps => intro s vs t W hy; exact hy.size
  case hT => intro s W W' row hs hg hr; exact BoxIn.kept hs (Kept.of_grown hg hr (by omega)) (fun e => e)
  case hY => intro s vs t W l o o' hy _ hl ho; exact hy.put o' hl ho
  case hI => intro s W W' row hs hg hr; obtain ⟨h0, o, v, hi, hp⟩ := hs; exact ⟨h0, o, v, hi.kept (Kept.of_grown hg hr (by omega)) (fun _ e => e.elim), hp⟩
  case hIS => intro s W W' hs hf ht; obtain ⟨h0, o, v, hi, hp⟩ := hs; obtain ⟨t, A', n', c', hb, _⟩ := ht; exact ⟨h0, o, v, hi.kept (Kept.of_fr hf (fun k hk e => by omega)) (fun g e => by subst e; exact ⟨Nat.le_refl _, _, hb⟩), hp⟩
  case assign =>
    intro l s vs t W K hy hK
    obtain ⟨_, _, _, _, _, rfl, _⟩ := hy
    gi_wp2
    exact hK
  case body =>
    rintro l s vs t W ⟨hsl, o, v, hi, hp⟩ ⟨A2, n2, c2, hbx, hby2, _⟩ ⟨hne, rfl, R, k, cc, rfl, hby, hRn⟩
    have hcO := hi.row.cell
    have hfO := hi.row.frozen
    obtain ⟨a0, ca, rfl⟩ := own_slice hi.own
    by_cases hr : rep s < 2
    · have hd : decide (2 ≤ rep s) = false := by simp; omega
      rw [hd]
      have hps : psz s = sgl s := if_pos hr
      have hpl := sgl_le s
      have hpp := sgl_pos hne hr
      rw [hps] at hby ⊢
      have hq1 : bvs [sgl s - 1] = [.int .u8 ((sgl s : Int) - 1)] := by simp [bvs]; omega
      have hput : (o ++ [sgl s - 1]) ++ s.take (sgl s) ++ putM (s.drop (sgl s)) = putM bs := by
        rw [← hp, putM_step hne, enc1, if_pos hr, hps]
        simp
      have hlen : o.length + 1 + sgl s ≤ 2 * n := by
        have h1 := congrArg List.length hput
        simp only [List.length_append, List.length_cons, List.length_nil, List.length_take] at h1
        have h2 := putM_len bs
        have := h.len
        omega
      have hp1 : ∀ (v1 : Value) (w1 : World), w1.ownsRow w.heap.size 5 1 v1 (o.length + 1) (bvs o ++ [.int .u8 ((sgl s : Int) - 1)]) → (W.alloc (.cells #[.int .u8 ((sgl s : Int) - 1)] 5)).grownBy w1 (Value.slice a0 o.length ca).ownBlock → _ :=
        fun v1 w1 h1 h2 => hi.push (B0 := w.heap.size + 2) (fun x hx => by simp at hx; omega) ((Fr.refl _ _).alloc _) (q := [sgl s - 1]) (by rw [hq1]; exact h1) h2 hbx (Nat.le_refl _)
      have HP1 := Lib.hid hp1
      have HI := Lib.hid hi
      have HPS := Lib.hid hps
      have HPUT := Lib.hid hput
      have hsz0 := hi.below.size
      obtain ⟨i0, hi0, hz0, hz1, hz2⟩ := info_parts info8
      clear hp1 hi hps hput hd hq1 hbx hby2 hp
      have hql : (s.take (sgl s)).length = sgl s := by rw [List.length_take]; omega
      have hc2 : ∀ W', Did w (w.heap.size + 1) (w.heap.size + 2) W W' → ∀ (j : Nat) (u : Value), (bvs (s.take (sgl s)))[j]? = some u → W'.cell? ((⟨R, k, none⟩ : Addr).add j) = some u := fun W' hd j u hu => by
        obtain ⟨b, hb, rfl⟩ := bvs_at hu
        obtain ⟨R', k', e, _, hc⟩ := (hby.fr hd.2 (fun _ R' o' e _ e2 => by injection e with e; injection e with e1 _; omega)).at_ (by omega)
        injection e with e
        injection e with e1 e2
        subst e1 e2
        have e2 : (⟨R, k, none⟩ : Addr).add j = ⟨R, k + j, none⟩ := by
          unfold Addr.add; by_cases h0 : j = 0 <;> simp [h0]
        rw [e2]
        exact hc j b hb
      have hbl : (bvs (s.take (sgl s))).length = sgl s * 1 := by rw [bvs_length, Nat.mul_one, hql]
      have hol : (o ++ [sgl s - 1]).length = o.length + 1 := by simp
      have HC2 := Lib.hid hc2
      have HBL := Lib.hid hbl
      have HQL := Lib.hid hql
      have HOL := Lib.hid hol
      have hqb : ∀ x ∈ s.take (sgl s), x < 256 := hby.byte
      clear hc2 hbl hql hol hby
      gi_wp2_with (first
        | (refine wpListIn_append_own (o := ⟨some 31, _, _, _, _, _⟩) _ rfl _ _ 22 rfl w.heap.size 5 i0 (.int .u8 0) 1 1 Try.underlying22 hi0 hz0 hz1 hz2 rfl (by decide) _ _ _ rfl (HI.out.own.alloc _) ⟨W.heap.size, 0, none⟩ 1 1 [.int .u8 ((sgl s : Int) - 1)] rfl rfl (cell_one_new _ _ _) (by simp [Value.oneCell']) (by unfold maxLen; omega) (by omega) (by simp; omega) ?_; intro v1 w1 hown1 hgrow1 _; obtain ⟨a1, cc1, rfl⟩ := own_slice hown1; have H1 := Lib.hid (HP1.out _ _ hown1 hgrow1); have hcr := H1.out.1.cell; have hfr := H1.out.1.frozen; clear hown1 hgrow1)
        | (refine wpListIn_append_own (o := ⟨some 34, _, _, _, _, _⟩) _ rfl _ _ 22 rfl w.heap.size 5 i0 (.int .u8 0) 1 1 Try.underlying22 hi0 hz0 hz1 hz2 rfl (by decide) _ _ _ rfl H1.out.2.2.1.own ⟨R, k, none⟩ (sgl s) cc (bvs (s.take (sgl s))) rfl HBL.out (HC2.out _ H1.out.2.1) (bvs_one _) (by rw [HOL.out]; unfold maxLen; omega) (by rw [HOL.out]; omega) H1.out.2.2.1.below.size ?_; intro v2 w2 hown2 hgrow2 _; obtain ⟨a2, cc2, rfl⟩ := own_slice hown2; have H2 := Lib.hid (H1.out.2.2.1.push (B0 := w.heap.size + 2) hqb (Fr.refl _ _) (by rw [HQL.out]; exact hown2) hgrow2 H1.out.2.2.2 (Nat.le_refl _)); have hcr2 := H2.out.1.cell; have hfr2 := H2.out.1.frozen; clear hown2 hgrow2))
      have hd := H1.out.2.1.trans H2.out.2.1
      have h2 := H2.out.2.2.1
      rw [HOL.out] at hd h2
      rw [hsz]
      exact ⟨hd.1, hd.2, by rw [List.length_drop]; omega, _, _, h2, HPUT.out⟩
    · have hd : decide (2 ≤ rep s) = true := by simp; omega
      rw [hd]
      have hps : psz s = rep s := if_neg hr
      have hpl := rep_le s
      obtain ⟨x, r, rfl⟩ : ∃ x r, s = x :: r := by
        cases s with
        | nil => exact absurd rfl hne
        | cons x r => exact ⟨x, r, rfl⟩
      generalize hs0 : x :: r = s at *
      have hx : s[0]? = some x := by rw [← hs0]; rfl
      have hhd : s.headD 0 = x := by rw [← hs0]; rfl
      clear hs0
      rw [hps] at hby ⊢
      have hx2 : x < 256 := hby.byte x (List.mem_of_getElem? (i := 0) (by rw [List.getElem?_take, if_pos (by omega)]; exact hx))
      have hq1 : bvs [257 - rep s, x] = [.int .u8 (257 - (rep s : Int)), .int .u8 (x : Int)] := by simp [bvs]; omega
      have hput : (o ++ [257 - rep s, x]) ++ putM (s.drop (rep s)) = putM bs := by
        rw [← hp, putM_step hne, enc1, if_neg hr, hps, hhd]
        simp
      have hlen : o.length + 2 ≤ 2 * n := by
        have h1 := congrArg List.length hput
        simp only [List.length_append, List.length_cons, List.length_nil] at h1
        have h2 := putM_len bs
        have := h.len
        omega
      have hp1 : ∀ (v1 : Value) (w1 : World), w1.ownsRow w.heap.size 5 1 v1 (o.length + 2) (bvs o ++ [.int .u8 (257 - (rep s : Int)), .int .u8 (x : Int)]) → ((W.alloc (.cells #[.int .u8 (257 - (rep s : Int)), .int .u8 (x : Int)] 5)).drew).grownBy w1 (Value.slice a0 o.length ca).ownBlock → _ :=
        fun v1 w1 h1 h2 => hi.push (B0 := w.heap.size + 2) (fun y hy => by simp at hy; omega) (((Fr.refl _ _).alloc _).drew) (q := [257 - rep s, x]) (by rw [hq1]; exact h1) h2 hbx (Nat.le_refl _)
      have hcx : W.cell? ⟨R, k, none⟩ = some (.int .u8 (x : Int)) := by
        obtain ⟨R', k', e, _, hc⟩ := hby.at_ (by omega)
        injection e with e
        injection e with e1 e2
        subst e1 e2
        have := hc 0 x (by rw [List.getElem?_take, if_pos (by omega)]; exact hx)
        rwa [Nat.add_zero] at this
      have HP1 := Lib.hid hp1
      have HI := Lib.hid hi
      have HPUT := Lib.hid hput
      have hsz0 := hi.below.size
      obtain ⟨i0, hi0, hz0, hz1, hz2⟩ := info_parts info8
      have b1 : (2 : Int) ≤ (rep s : Int) := by omega
      have b2 : (rep s : Int) ≤ 128 := by omega
      have hcA : (W.alloc (.cells #[.int .u8 (257 - (rep s : Int)), .int .u8 (x : Int)] 5)).cell? ⟨w.heap.size, 0, none⟩ = some (.slice a0 o.length ca) := by rw [World.cell?_alloc_lt _ _ _ (HI.out.row.lt)]; exact hcO
      have b0 : ¬ (rep s = 0) := by omega
      clear hp1 hi hps hput hd hq1 hbx hby2 hp hby hx hhd
      gi_wp2_with fail
      have wr1 : IntKind.i64.wrap (257 - (rep s : Int)) = 257 - (rep s : Int) := IntWalk.i64_in _ (by omega)
      have wr2 : IntKind.u8.wrap (257 - (rep s : Int)) = 257 - (rep s : Int) := by show _ % 256 = _; omega
      refine region_round_lit l (by kernel_rfl) (by kernel_rfl) ?_
      refine wpAny_take (i := 1) (v := .slice (some ⟨R, k, none⟩) (rep s) cc) rfl (by kernel_rfl) (by kernel_rfl) (by kernel_rfl) (fun _ _ _ h => by cases h.1) (Or.inl ⟨by rfl, ?_⟩) ?_
      · intro w; go_simp
      refine wpAny_take (i := 2) (v := .int .i64 (rep s : Int)) rfl (by kernel_rfl) (by kernel_rfl) (by kernel_rfl) (fun _ _ _ h => by cases h.1) (Or.inl ⟨by rfl, ?_⟩) ?_
      · intro w; go_simp
      refine wpAny_take (i := 3) (v := .int .i64 (257 - (rep s : Int))) rfl (by kernel_rfl) (by kernel_rfl) (by kernel_rfl) (fun _ _ _ h => by cases h.1) (Or.inl ⟨by rfl, ?_⟩) ?_
      · intro w; go_simp
      refine wpAny_take (i := 4) (v := .int .u8 (257 - (rep s : Int))) rfl (by kernel_rfl) (by kernel_rfl) (by kernel_rfl) (fun _ _ _ h => by cases h.1) (Or.inl ⟨by rfl, ?_⟩) ?_
      · intro w; go_simp
      refine wpAny_take (i := 5) (v := .slice (some ⟨R, k, none⟩) (rep s) cc) rfl (by kernel_rfl) (by kernel_rfl) (by kernel_rfl) (fun _ _ _ h => by cases h.1) (Or.inl ⟨by rfl, ?_⟩) ?_
      · intro w; go_simp
      refine wpAny_take (i := 6) (v := .pointer (some ⟨R, k, none⟩)) rfl (by kernel_rfl) (by kernel_rfl) (by kernel_rfl) (fun _ _ _ h => by cases h.1) (Or.inl ⟨by rfl, ?_⟩) ?_
      · intro w; go_simp
      refine wpAny_ready (rs := [0, 7]) (by kernel_rfl) (by simp) (AllReady.cons rfl (fun K hK => ?_) (AllReady.cons rfl (fun K hK => ?_) AllReady.nil))
      · go_simp
        refine hK _ _ ?_
        clear hK K
        refine wpAny_ready (rs := [7]) (by kernel_rfl) (by simp) (AllReady.cons rfl (fun K hK => ?_) AllReady.nil)
        go_simp
        refine hK _ _ ?_
        clear hK K
        refine wpAny_ready (rs := [8]) (by kernel_rfl) (by simp) (AllReady.cons rfl (fun K hK => ?_) AllReady.nil)
        go_simp
        refine hK _ _ ?_
        clear hK K
        refine wpAny_ready (rs := [9]) (by kernel_rfl) (by simp) (AllReady.cons rfl (fun K hK => ?_) AllReady.nil)
        refine step_append_lies _ (by rfl) _ _ _ (by rfl) w.heap.size 5 i0 (.int .u8 0) 1 1 Try.underlying22 hi0 hz0 hz1 hz2 rfl (by omega) (.slice a0 o.length ca) o.length (bvs o) (by go_simp) ((HI.out.own.alloc _).drew) ⟨W.heap.size, 0, none⟩ 2 2 [.int .u8 (257 - (rep s : Int)), .int .u8 (x : Int)] (by go_simp) (by rfl) (World.news_of_block (cs := #[.int .u8 (257 - (rep s : Int)), .int .u8 (x : Int)]) (t := 5) (fr := (0, 0)) (heap_alloc_new W _)) (by simp [Value.oneCell']) (by omega) (by unfold maxLen; omega) (by omega) (by simp; omega) (W.heap.size + 1) (by simp) ?_
        intro g cap w1 hown1 hgrow1 _ _
        have H1 := Lib.hid (HP1.out _ _ hown1 hgrow1)
        have hcr := H1.out.1.cell
        have hfr := H1.out.1.frozen
        clear hown1 hgrow1
        refine hK _ _ ?_
        clear hK K
        refine wpAny_ready (rs := [10]) (by kernel_rfl) (by simp) (AllReady.cons rfl (fun K hK => ?_) AllReady.nil)
        go_simp
        refine hK _ _ ?_
        clear hK K
        refine wpAny_done (by kernel_rfl) ⟨rfl, ?_⟩ _
        gi_wp2
        rw [hsz]
        exact ⟨H1.out.2.1.1, H1.out.2.1.2, by rw [List.length_drop]; omega, _, _, H1.out.2.2.1, HPUT.out⟩
      · go_simp
        refine hK _ _ ?_
        clear hK K
        refine wpAny_ready (rs := [0, 8]) (by kernel_rfl) (by simp) (AllReady.cons rfl (fun K hK => ?_) (AllReady.cons rfl (fun K hK => ?_) AllReady.nil))
        · go_simp
          refine hK _ _ ?_
          clear hK K
          refine wpAny_ready (rs := [8]) (by kernel_rfl) (by simp) (AllReady.cons rfl (fun K hK => ?_) AllReady.nil)
          go_simp
          refine hK _ _ ?_
          clear hK K
          refine wpAny_ready (rs := [9]) (by kernel_rfl) (by simp) (AllReady.cons rfl (fun K hK => ?_) AllReady.nil)
          refine step_append_lies _ (by rfl) _ _ _ (by rfl) w.heap.size 5 i0 (.int .u8 0) 1 1 Try.underlying22 hi0 hz0 hz1 hz2 rfl (by omega) (.slice a0 o.length ca) o.length (bvs o) (by go_simp) ((HI.out.own.alloc _).drew) ⟨W.heap.size, 0, none⟩ 2 2 [.int .u8 (257 - (rep s : Int)), .int .u8 (x : Int)] (by go_simp) (by rfl) (World.news_of_block (cs := #[.int .u8 (257 - (rep s : Int)), .int .u8 (x : Int)]) (t := 5) (fr := (0, 0)) (heap_alloc_new W _)) (by simp [Value.oneCell']) (by omega) (by unfold maxLen; omega) (by omega) (by simp; omega) (W.heap.size + 1) (by simp) ?_
          intro g cap w1 hown1 hgrow1 _ _
          have H1 := Lib.hid (HP1.out _ _ hown1 hgrow1)
          have hcr := H1.out.1.cell
          have hfr := H1.out.1.frozen
          clear hown1 hgrow1
          refine hK _ _ ?_
          clear hK K
          refine wpAny_ready (rs := [10]) (by kernel_rfl) (by simp) (AllReady.cons rfl (fun K hK => ?_) AllReady.nil)
          go_simp
          refine hK _ _ ?_
          clear hK K
          refine wpAny_done (by kernel_rfl) ⟨rfl, ?_⟩ _
          gi_wp2
          rw [hsz]
          exact ⟨H1.out.2.1.1, H1.out.2.1.2, by rw [List.length_drop]; omega, _, _, H1.out.2.2.1, HPUT.out⟩
        · go_simp
          refine hK _ _ ?_
          clear hK K
          refine wpAny_ready (rs := [0]) (by kernel_rfl) (by simp) (AllReady.cons rfl (fun K hK => ?_) AllReady.nil)
          go_simp
          refine hK _ _ ?_
          clear hK K
          refine wpAny_ready (rs := [9]) (by kernel_rfl) (by simp) (AllReady.cons rfl (fun K hK => ?_) AllReady.nil)
          refine step_append_lies _ (by rfl) _ _ _ (by rfl) w.heap.size 5 i0 (.int .u8 0) 1 1 Try.underlying22 hi0 hz0 hz1 hz2 rfl (by omega) (.slice a0 o.length ca) o.length (bvs o) (by go_simp) ((HI.out.own.alloc _).drew) ⟨W.heap.size, 0, none⟩ 2 2 [.int .u8 (257 - (rep s : Int)), .int .u8 (x : Int)] (by go_simp) (by rfl) (World.news_of_block (cs := #[.int .u8 (257 - (rep s : Int)), .int .u8 (x : Int)]) (t := 5) (fr := (0, 0)) (heap_alloc_new W _)) (by simp [Value.oneCell']) (by omega) (by unfold maxLen; omega) (by omega) (by simp; omega) (W.heap.size + 1) (by simp) ?_
          intro g cap w1 hown1 hgrow1 _ _
          have H1 := Lib.hid (HP1.out _ _ hown1 hgrow1)
          have hcr := H1.out.1.cell
          have hfr := H1.out.1.frozen
          clear hown1 hgrow1
          refine hK _ _ ?_
          clear hK K
          refine wpAny_ready (rs := [10]) (by kernel_rfl) (by simp) (AllReady.cons rfl (fun K hK => ?_) AllReady.nil)
          go_simp
          refine hK _ _ ?_
          clear hK K
          refine wpAny_done (by kernel_rfl) ⟨rfl, ?_⟩ _
          gi_wp2
          rw [hsz]
          exact ⟨H1.out.2.1.1, H1.out.2.1.2, by rw [List.length_drop]; omega, _, _, H1.out.2.2.1, HPUT.out⟩
  case done =>
    rintro D s W hD rfl ⟨h0, o, v, hi, hp⟩ hK
    rw [putM_nil, List.append_nil] at hp
    subst hp
    have hcO := hi.row.cell
    obtain ⟨a0, ca, rfl⟩ := own_slice hi.own
    have hsz0 := hi.below.size
    have hlen : (putM bs).length ≤ 2 * n := by
      have h2 := putM_len bs
      have := h.len
      omega
    obtain ⟨i0, hi0, hz0, hz1, hz2⟩ := info_parts info8
    have HI := Lib.hid hi
    have HK := Lib.hid hK
    clear hi hK
    gi_wp2_with (refine wpListIn_append_own (o := ⟨some 37, _, _, _, _, _⟩) _ rfl _ _ 22 rfl w.heap.size 5 i0 (.int .u8 0) 1 1 Try.underlying22 hi0 hz0 hz1 hz2 rfl (by decide) _ _ _ rfl (HI.out.own.alloc _) ⟨W.heap.size, 0, none⟩ 1 1 [.int .u8 128] rfl rfl (cell_one_new _ _ _) (by simp [Value.oneCell']) (by unfold maxLen; omega) (by omega) (by simp; omega) ?_; intro v1 w1 hown1 hgrow1 _; obtain ⟨a1, cc1, rfl⟩ := own_slice hown1; have HO := Lib.hid hown1; have HG := Lib.hid hgrow1; clear hown1 hgrow1)
    have hi := HI.out
    have hK1 : w1.heap[D]? = some (.deferred (some [])) := by
      have hD1 := (Array.getElem?_eq_some_iff.1 HK.out).1
      refine (HG.out.block D (by simp; omega) (fun e => ?_)).trans ((Below.heap_alloc W _ D hD1).trans HK.out)
      obtain ⟨_, _, cs, hw⟩ := own_lt hi.own e.symm
      have e2 := HK.out.symm.trans (show W.heap[D]? = some (.cells cs 5 (0, 0)) from hw)
      cases e2
    have hbel : Below w.heap.size w (w1.putObj D (.deferred none)) :=
      below_put _ (hi.below.trans (((Below.refl _ _).alloc hsz0 _).grown HG.out (by simp; omega) (fun j hj => (own_lt hi.own hj).1))) (by omega)
    have hown2 := ownsRow_putObj HO.out (.deferred none) hK1 rfl
    rw [show bvs (putM bs) ++ [Value.int .u8 128] = bvs (putM bs ++ [128]) by rw [bvs_append]; rfl] at hown2
    obtain ⟨A3, c3, e3, hby⟩ := own_bytes hown2 (fun x hx => by
      rcases List.mem_append.1 hx with hx | hx
      · exact hi.byte x hx
      · simp at hx; omega)
    injection e3 with e31 e32 e33
    subst e31 e33
    refine ⟨by simp, .inl ⟨_, _, rfl, run_takeDeferred hK1, ?_⟩⟩
    exact ⟨.tuple #[.slice a1 ((putM bs).length + 1) cc1, .int .i64 0], by simp [results, Try.results8, go_sem], _, _, rfl, hby, hbel⟩
end Go.Proofs.Ytbghmbcipekboaa
