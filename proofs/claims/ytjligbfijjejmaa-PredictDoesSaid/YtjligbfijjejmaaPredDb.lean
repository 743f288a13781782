/- predict's doRows: walked. -/
import Derived.Test.YtjligbfijjejmaaPredDa
import Derived.Test.YtjligbfijjejmaaPredUb
import Derived.Test.YtjligbfijjejmaaRegionS
import Derived.Sort.CutIn
namespace Go.Proofs.Ytjligbfijjejmaa
open Go.RowKit
attribute [local go_sem] Oper.semAt_some

/-- What doRows answers. -/
def DoIs (l : List Nat) (w : World) (e : Ending) (w' : World) : Prop :=
  ∃ A c, e = .returned (.tuple #[.slice A l.length c, .int .i64 0]) ∧ Bytes w' A l.length c l ∧ Below w.heap.size w w'
/-- Between two rounds. -/
def ID (w : World) (L q : Nat) (p : PaV) (png : Bool) (T : Nat) (Z : Array Value) (bs : List Nat) (m : Nat) (W : World) : Prop :=
  m ≤ q ∧ ∃ v ov, UpD w L p.n m bs v ∧ JV w W L T (layV p png) Z v ov (doN (headM png) p.n p.s T bs m)
theorem ID.kept {w W W' : World} {L q m T : Nat} {p : PaV} {png : Bool} {Z : Array Value} {bs : List Nat} (h : ID w L q p png T Z bs m W) (k : Kept w.heap.size (fun _ => False) W W') : ID w L q p png T Z bs m W' := by
  obtain ⟨h1, v, ov, h2, h3⟩ := h
  exact ⟨h1, v, ov, h2, h3.kept k⟩
theorem do_start (w Wt : World) (L T : Nat) (p : PaV) (png : Bool) (A : Option Addr) (n c : Nat) (bs : List Nat) (Z2 : Array Value) (h : Bytes w A n c bs) (hZ : (bvs (List.replicate p.n 0)).toArray = Z2) (hL : Wt.heap.size = L + 1) (hpos : w.heap.size + 2 ≤ L)
    (x1 : Boxed Wt (w.heap.size + 1) 3 (.int .i64 (T : Int))) (y0 : Whole Wt L 46 (layV p png)) (x3 : Below w.heap.size w Wt) (q : Nat) :
    ∃ W0, (((((Wt.alloc (.cells #[.slice none 0 0] 24)).alloc (.cells Z2 5)).alloc (.cells #[.slice (some ⟨L + 1 + 1, 0, none⟩) p.n p.n] 24)).alloc (.cells #[.slice A n c] 24)).alloc (.cells #[.int .i64 (p.n : Int)] 3)) = W0 ∧
      W0.heap.size = L + 6 ∧ ID w L q p png T Z2 bs 0 W0 ∧ TCh (L + 4) (L + 5) w.heap.size A c p.n bs W0 := by
  subst hZ
  have hl := h.len
  subst hl
  have y1 := Boxed.new Wt 24 (.slice none 0 0)
  generalize hV2 : Wt.alloc (.cells #[.slice none 0 0] 24) = V2 at *
  have s2 : V2.heap.size = L + 2 := by rw [← hV2]; simp [hL]
  have b2 : Below Wt.heap.size Wt V2 := by rw [← hV2]; exact (Below.refl _ _).alloc (Nat.le_refl _) _
  have y2 := Whole.made V2 5 (bvs (List.replicate p.n 0)).toArray
  generalize hV3 : V2.alloc (.cells (bvs (List.replicate p.n 0)).toArray 5) = V3 at *
  have s3 : V3.heap.size = L + 3 := by rw [← hV3]; simp [s2]
  have b3 : Below V2.heap.size V2 V3 := by rw [← hV3]; exact (Below.refl _ _).alloc (Nat.le_refl _) _
  have y3 := Boxed.new V3 24 (.slice (some ⟨L + 2, 0, none⟩) p.n p.n)
  generalize hV4 : V3.alloc (.cells #[.slice (some ⟨L + 2, 0, none⟩) p.n p.n] 24) = V4 at *
  have s4 : V4.heap.size = L + 4 := by rw [← hV4]; simp [s3]
  have b4 : Below V3.heap.size V3 V4 := by rw [← hV4]; exact (Below.refl _ _).alloc (Nat.le_refl _) _
  have y4 := Boxed.new V4 24 (.slice A bs.length c)
  generalize hV5 : V4.alloc (.cells #[.slice A bs.length c] 24) = V5 at *
  have s5 : V5.heap.size = L + 5 := by rw [← hV5]; simp [s4]
  have b5 : Below V4.heap.size V4 V5 := by rw [← hV5]; exact (Below.refl _ _).alloc (Nat.le_refl _) _
  have y5 := Boxed.new V5 3 (.int .i64 (p.n : Int))
  refine ⟨_, rfl, by simp [s5], ?_⟩
  have b6 : Below V5.heap.size V5 (V5.alloc (.cells #[.int .i64 (p.n : Int)] 3)) := (Below.refl _ _).alloc (Nat.le_refl _) _
  generalize V5.alloc (.cells #[.int .i64 (p.n : Int)] 3) = V6 at *
  have c56 := b6
  have c46 : Below V4.heap.size V4 V6 := b5.trans (c56.mono b5.size)
  have c36 : Below V3.heap.size V3 V6 := b4.trans (c46.mono b4.size)
  have c26 : Below V2.heap.size V2 V6 := b3.trans (c36.mono b3.size)
  have c16 : Below Wt.heap.size Wt V6 := b2.trans (c26.mono b2.size)
  have bx : ∀ {U V : World} {B : Nat} {t : TypeId} {v : Value}, Below U.heap.size U V → Boxed U B t v → Boxed V B t v := fun hb hx => (hb.block _ hx.lt).trans hx
  have hB : Below w.heap.size w V6 := x3.trans (c16.mono x3.size)
  rw [hL] at y1
  rw [s2] at y2
  rw [s3] at y3
  rw [s4] at y4
  rw [s5] at y5
  refine ⟨⟨Nat.zero_le _, _, .slice none 0 0, .inl ⟨rfl, rfl⟩, hpos, bx c16 x1, y0.here c16, bx c26 y1, World.ownsRow_nil _ _ _ _, y2.here c36, bx c46 y3, fun x hx => by simp [doN] at hx, hB⟩, bx c56 y4, y5, h.below hB, fun h0 R o e => ?_⟩
  obtain ⟨R', o', e', hR', _⟩ := h.at_ h0
  rw [e] at e'
  injection e' with e'
  injection e' with e1 e2
  omega
set_option maxRecDepth 100000 in
set_option maxHeartbeats 4000000 in
theorem do_ok (p : PaV) (png : Bool) (A : Option Addr) (n c tag : Nat) (bs : List Nat) (w : World) (h : Bytes w A n c bs) (hok : p.Ok) (hp : (png = true ∧ decide (10 ≤ p.pr) = true) ∨ (png = false ∧ p.pr = 2)) (hn : n ≤ 1048576) (ht4 : tag ≤ 4) (hmod : n % p.n = 0) :
    Calls Try.prog 22 #[p.val, .int .i64 tag, .slice A n c] w (DoIs (doN (headM png) p.n p.s (if png then tag else 1) bs (n / p.n)) w) := by
  have hs := hok.s_is.2
  have hnn := hok.n_is.2
  obtain ⟨q, hq⟩ : ∃ q, n / p.n = q := ⟨_, rfl⟩
  obtain ⟨T, hT⟩ : ∃ T, (if png then tag else 1) = T := ⟨_, rfl⟩
  rw [hq, hT]
  have hqn : n = q * p.n := by
    have := Nat.div_add_mod n p.n
    rw [hmod, hq, Nat.mul_comm] at this
    omega
  have HQ := Lib.hid hqn
  clear hqn hq
  have hH1 : headM png ≤ 1 := by cases png <;> simp [headM]
  have hmz : ((n : Int) % (p.n : Int) != 0) = false := by
    have : (n : Int) % (p.n : Int) = 0 := by rw [← Int.natCast_emod, hmod]; rfl
    rw [this]; rfl
  obtain ⟨Z2, hZ2⟩ : ∃ Z, (bvs (List.replicate p.n 0)).toArray = Z := ⟨_, rfl⟩
  have hk2 : ∀ W : World, (Instr.makeSlice 24 (.int .i64 (p.n : Int)) (.int .i64 (p.n : Int))).run Try.prog W = .ok (.slice (some ⟨W.heap.size, 0, none⟩) p.n p.n) (W.alloc (.cells Z2 5)) := fun W => hZ2 ▸ make_bytes p.n p.n (by omega) (by omega) W
  have hTT : (png = true ∧ T ≤ 4) ∨ (png = false ∧ T = 1) := by
    cases png
    · exact .inr ⟨rfl, hT.symm⟩
    · exact .inl ⟨rfl, by have h : tag = T := hT; omega⟩
  have HTW := Lib.hid hTT
  have HT := Lib.hid hT
  refine (callsIn_wide (n := 3)).1 ?_
  refine callsIn_of_wp_marks Try.func22 rfl trivial ?_ rfl
  simp only [Try.ntmps22, List.size_toArray, List.length_cons, List.length_nil, Nat.reduceAdd, Nat.reduceSub, Array.replicate_succ, Array.replicate_zero, List.push_toArray, List.append_toArray, List.nil_append, List.cons_append]
  have OK := Lib.hid hok
  have HP := Lib.hid hp
  have HB := Lib.hid h
  have HM := Lib.hid hmod
  have HZ := Lib.hid hZ2
  clear hok hp h hmod hZ2 hTT hT
  have hst := tab_store png
  obtain ⟨gb, hgb⟩ : ∃ b, ((headM png : Int) == 0) = b := ⟨_, rfl⟩
  gi_upto_if 24 with (refine ⟨trivial, ?_⟩; gi_at_call 26; refine (callsIn_wide.2 (layout_all p png _ OK.out HP.out)).mono ?_; rintro e w1 ⟨rfl, hb1⟩; have HB1 := Lib.hid hb1; clear hb1)
  have HGB := Lib.hid hgb
  clear hgb
  have hb1 := HB1.out
  have g1 := hb1.size
  simp only [World.size_alloc] at g1
  have x1 : Boxed w1 (w.heap.size + 1) 3 (.int .i64 (tag : Int)) := by
    have := Boxed.new (w.alloc (.cells #[.int .i64 p.pr, .int .i64 p.co, .int .i64 p.bi, .int .i64 p.cl] 23)) 3 (.int .i64 (tag : Int))
    simp only [World.size_alloc] at this
    exact (hb1.block _ (by simp)).trans this
  have x3 : Below w.heap.size w w1 := (((Below.refl _ _).alloc (Nat.le_refl _) _).alloc (by simp) _).trans (hb1.mono (by simp; omega))
  have y0 := Whole.made w1 46 (layV p png)
  have b1 : Below w1.heap.size w1 (w1.alloc (.cells (layV p png) 46)) := (Below.refl _ _).alloc (Nat.le_refl _) _
  have s1 : (w1.alloc (.cells (layV p png) 46)).heap.size = w1.heap.size + 1 := by simp
  obtain ⟨L, hL⟩ : ∃ L, w1.heap.size = L := ⟨_, rfl⟩
  generalize hV1 : w1.alloc (.cells (layV p png) 46) = V1 at *
  have x1' : Boxed V1 (w.heap.size + 1) 3 (.int .i64 (tag : Int)) := (b1.block _ x1.lt).trans x1
  have cT := x1'.cell
  have fT := x1'.frozen
  have lT := x1'.lt
  have x3' : Below w.heap.size w V1 := x3.trans (b1.mono x3.size)
  have HX := Lib.hid (And.intro x1' (And.intro x3' (And.intro y0 s1)))
  clear x1 x1' x3 x3' y0 b1 s1 hV1 HB1 hb1
  rw [hL] at HX g1 ⊢
  clear hL
  gi_cut [24] from 24 (fun _ wx => Hid (wx.heap.size = L + 1 ∧ Boxed wx (w.heap.size + 1) 3 (.int .i64 (T : Int)) ∧ Whole wx L 46 (layV p png) ∧ Below w.heap.size w wx))
  case first =>
    rcases HTW.out with ⟨hpng, _⟩ | ⟨hpng, h1⟩
    · have hTt : tag = T := by have h := HT.out; rw [hpng] at h; exact h
      obtain rfl : false = gb := by rw [← HGB.out, hpng]; rfl
      clear hpng
      gi_wp2
      gi_meet
      exact Lib.hid ⟨HX.out.2.2.2, hTt ▸ HX.out.1, HX.out.2.2.1, HX.out.2.1⟩
    · obtain rfl : true = gb := by rw [← HGB.out, hpng]; rfl
      subst h1
      clear hpng
      gi_wp2
      gi_meet
      have hf : Fr (fun j => j = w.heap.size + 1) V1 (V1.setCell ⟨w.heap.size + 1, 0, none⟩ (.int .i64 1)) := (Fr.refl _ V1).setB 0 _
      exact Lib.hid ⟨by have := HX.out.2.2.2; simpa [World.setCell] using this, HX.out.1.set _, HX.out.2.2.1.frame hf (by omega), HX.out.2.1.setCell (p := ⟨w.heap.size + 1, 0, none⟩) (by simp) _⟩
  case rest =>
    clear cT fT lT HX
    have HX := Lib.hid hcut.out
    clear hcut
    have hsz := HX.out.1
    have rl := HX.out.2.2.1.reads
    have ll := HX.out.2.2.1.lt
    gi_wp2_with (refine ⟨trivial, ?_⟩; gi_at_call 27; refine (chunk_call _ open_wide _ _ _ _ p.n _ (by omega)).mono ?_; rintro e w' ⟨rfl, rfl⟩)
    obtain ⟨W0, hW0, hsz0, hI0, hT0⟩ := do_start w wc L T p png A n c bs Z2 HB.out HZ.out HX.out.1 (by omega) HX.out.2.1 HX.out.2.2.1 HX.out.2.2.2 q
    rw [hW0]
    clear hW0 rl ll hsz
    have HLN := Lib.hid HB.out.len
    refine wpIn_iter rfl (by omega) (gf := 33) (lb := #[.pointer (some ⟨L + 4, 0, none⟩), .pointer (some ⟨L + 5, 0, none⟩)]) rfl trivial (enters_of Try.func33 (by kernel_rfl) rfl)
      (chunk_iter (L + 4) (L + 5) w.heap.size 2 A c p.n (by omega) bs (by omega) (by omega) (by have := HLN.out; omega)) ?hS (fun h k => KCh.trans h k) ?hKb ?hps ?hT ?hY
      (ID w L q p png T Z2 bs) (fun _ _ _ => False) ?hI ?hIx ?hIS ?hIxS ?h0 ?hT0
      (fun vs => { tmps := #[p.val, .int .i64 tag, .slice A n c, .pointer (some ⟨w.heap.size, 0, none⟩), .pointer (some ⟨w.heap.size + 1, 0, none⟩), undef, .slice none 0 0, .int .i64 0, .pointer (some ⟨L, 0, none⟩), .pointer (some ⟨L + 1, 0, none⟩), .pointer (some ⟨L + 3, 0, none⟩), vs.getD 0 undef, undef, undef,
        p.val, .agg (layV p png), .slice A n c, .int .i64 n, .pointer (some ⟨L, 1, none⟩), .int .i64 p.n, .int .i64 ((n : Int) % (p.n : Int)), .bool false, .pointer (some ⟨L, 0, none⟩), .int .i64 (headM png), u24, .pointer (some ⟨L, 1, none⟩), .int .i64 p.n, .slice (some ⟨L + 2, 0, none⟩) p.n p.n, .slice A n c, .pointer (some ⟨L, 1, none⟩), .int .i64 p.n,
        .func (.func 33) #[] #[.pointer (some ⟨L + 4, 0, none⟩), .pointer (some ⟨L + 5, 0, none⟩)], vs.getD 0 undef, u33, u34, u35, u36, u37, u38, u39, u40, u41, u42, u43, u44, u45, u46, u47, u48, u49, u50, u51, u52, u53, u54, u55, u56, u57, u58, u59, u60, u61], defers := [] }) ?assign ?body ?done (fun _ _ _ _ _ h _ => h.elim)
    case hS => intro k hk; exact hk.elim
    case hKb => intro W l o o' hl ho _; exact fr_putObj o' ⟨by have := g1; omega, by omega, by omega⟩
    case hps => rintro s vs t W ⟨_, _, R, o, e, _, rfl, _⟩; rfl
    case hT => intro s W W' row hs hg hr; exact hs.kept (Kept.of_grown hg hr (by have := g1; omega))
    case hY => intro s vs t W l o o' hy _ hl ho; exact hy.put o' hl ho
    case hI => intro s W W' row hs hg hr; exact hs.kept (Kept.of_grown hg hr (by have := g1; omega))
    case hIx => intro c s W W' row hs hg hr; exact hs.elim
    case hIS => intro s W W' hs hf _; exact hs.kept (Kept.of_fr hf (fun _ _ e => e))
    case hIxS => intro c s W W' hs hf _; exact hs.elim
    case h0 => exact hI0
    case hT0 => exact hT0
    case assign =>
      intro l s vs t W K hy hK
      obtain ⟨_, _, R, o, e, he, rfl, _⟩ := hy
      clear he
      gi_wp2
      exact hK
    case body =>
      rintro l m vs t W ⟨hmq, v, ov, hu, hi⟩ ht ⟨hmk, rfl, R0, o0, e, he, rfl, hby, hRn⟩
      have hmq2 : m < q := by
        have := HQ.out
        have hl := HLN.out
        rcases Nat.lt_or_ge m q with h1 | h1
        · exact h1
        · have := Nat.mul_le_mul_right p.n h1
          omega
      have hm1 : (m + 1) * p.n ≤ n := by rw [HQ.out]; exact Nat.mul_le_mul_right _ hmq2
      have hm2 : (m + 1) * p.n = m * p.n + p.n := by rw [Nat.add_mul, Nat.one_mul]
      have hel : e = p.n := by
        rw [he]; unfold rowM; rw [List.length_take, List.length_drop, HLN.out]; omega
      subst hel
      obtain ⟨ch, hch⟩ : ∃ ch, rowM bs p.n m = ch := ⟨_, rfl⟩
      rw [hch] at he hby
      obtain ⟨o, ho⟩ : ∃ o, doN (headM png) p.n p.s T bs m = o := ⟨_, rfl⟩
      rw [ho] at hi
      have hol : o.length = m * (headM png + p.n) := by rw [← ho]; exact doN_len _ _ _ _ _ _
      have hob : o.length + (headM png + p.n) ≤ 3000000 := by
        have h1 : (m + 1) * (headM png + p.n) ≤ (m + 1) * (2 * p.n) := Nat.mul_le_mul_left _ (by omega)
        have h2 : (m + 1) * (2 * p.n) = 2 * ((m + 1) * p.n) := by rw [Nat.mul_left_comm]
        have h3 : (m + 1) * (headM png + p.n) = m * (headM png + p.n) + (headM png + p.n) := by rw [Nat.add_mul, Nat.one_mul]
        omega
      have HU := Lib.hid (And.intro hu ho)
      have HE := Lib.hid (And.intro he.symm hch)
      have HI := Lib.hid hi
      have HTC := Lib.hid ht
      have HBY := Lib.hid hby
      have HBW := Lib.hid (hby.back hi.below (fun _ R o e => by injection e with e; injection e with e1 _; omega))
      obtain ⟨a0, ca, rfl⟩ := own_slice hi.own
      have cO := hi.out.cell
      have fO := hi.out.frozen
      have cG := hi.tag.cell
      have rl := hi.lay.reads
      have l0 := hi.lay.lt
      have lp := hi.pos
      clear hi ht hby he hch hu ho hol hm1 hm2 hmk hmq
      obtain ⟨gh, hgh⟩ : ∃ b, decide (0 < headM png) = b := ⟨_, rfl⟩
      gi_upto_if 35 with (fail)
      have HGH := Lib.hid hgh
      clear hgh
      have hT4 : T ≤ 4 := by rcases HTW.out with ⟨_, h⟩ | ⟨_, h⟩ <;> omega
      obtain ⟨i0, hi0, hz0, hz1, hz2⟩ := info_parts info8
      have hsz0' : W.heap.size ≥ L + 4 := by have := HI.out.up.lt; omega
      gi_cut [35] from 36 (fun _ wx => Hid (∃ ov', JV w wx L T (layV p png) Z2 v ov' (o ++ List.replicate (headM png) T) ∧ DidJ w L W0.heap.size W wx))
      case first =>
        rcases HTW.out with ⟨hpng, _⟩ | ⟨hpng, _⟩
        · obtain rfl : true = gh := by rw [← HGH.out, hpng]; rfl
          have hh : headM png = 1 := by rw [hpng]; rfl
          have hpsh := fun (v1 : Value) (w1 : World) (h1 : w1.ownsRow (L + 3) 5 1 v1 (o.length + 1) (bvs o ++ bvs [T])) (h2 : (W.alloc (.cells #[.int .u8 (T : Int)] 5)).grownBy w1 (Value.slice a0 o.length ca).ownBlock) => HI.out.push (B0 := W0.heap.size) ((Below.refl _ _).alloc (Nat.le_refl _) _) (r := [T]) (m := 1) rfl (fun x hx => by simp at hx; omega) h1 h2 ⟨_, HTC.out.row⟩ ⟨_, HTC.out.many⟩
          have HPS := Lib.hid hpsh
          have HH := Lib.hid hh
          have hown0 := HI.out.own.alloc (.cells #[.int .u8 (T : Int)] 5)
          have HO0 := Lib.hid hown0
          have hlg : cG = cG := rfl
          clear hpsh hh hpng hown0 hlg
          gi_wp2_with ((with_reducible refine wpListIn_here (o := ⟨some 40, _, _, _, _, _⟩) ?_); refine wpListIn_append_own _ rfl _ _ 24 rfl (L + 3) 5 i0 (.int .u8 0) 1 1 Try.underlying24 hi0 hz0 hz1 hz2 rfl (by decide) _ _ _ rfl HO0.out ⟨W.heap.size, 0, none⟩ 1 1 [.int .u8 (T : Int)] rfl rfl (cell_one_new _ _ _) (by simp [Value.oneCell']) (by unfold maxLen; omega) (by omega) (by simp; omega) ?_; intro v1 w1 hown1 hgrow1 _; obtain ⟨a1, cc1, rfl⟩ := own_slice hown1; have H1 := Lib.hid (HPS.out _ w1 hown1 hgrow1); have hcr := H1.out.1.cell; have hfr := H1.out.1.frozen; clear hown1 hgrow1)
          gi_meet
          have e : List.replicate (headM png) T = [T] := by rw [HH.out]; rfl
          exact Lib.hid ⟨_, e ▸ H1.out.2.1, H1.out.2.2.1⟩
        · obtain rfl : false = gh := by rw [← HGH.out, hpng]; rfl
          have hh : headM png = 0 := by rw [hpng]; rfl
          have HH := Lib.hid hh
          clear hh hpng
          gi_wp2
          gi_meet
          have e : o ++ List.replicate (headM png) T = o := by rw [HH.out]; simp
          exact Lib.hid ⟨_, by rw [e]; exact HI.out, DidJ.refl _ _ _ _⟩
      case rest =>
        clear cO fO cG rl l0
        have HJ := Lib.hid hcut.out
        clear hcut
        gi_wp2
        gi_loopg [43] p.n (fun g s43 wr => ∃ (i : Nat) (ov' : Value), p.n - i = g ∧ s43 = .int .i64 ((i : Nat) : Int) ∧ i ≤ p.n ∧ JV w wr L T (layV p png) Z2 v ov' (o ++ List.replicate (headM png) T ++ dRow T p.s (upD bs p.n m) ch i) ∧ DidJ w L W0.heap.size W wr)
        case atStart =>
          obtain ⟨ov', h1, h2⟩ := HJ.out
          exact ⟨0, ov', by simp, rfl, Nat.zero_le _, by simpa [dRow] using h1, h2⟩
        case round =>
        obtain ⟨i, ov', hg, rfl, hile, hjv, hdid⟩ := hrel
        have HG := Lib.hid hg
        obtain ⟨ln, hln⟩ : ∃ ln, (o ++ List.replicate (headM png) T ++ dRow T p.s (upD bs p.n m) ch i).length = ln := ⟨_, rfl⟩
        have hown := hjv.own
        rw [hln] at hown
        obtain ⟨a1, c1, rfl⟩ := own_slice hown
        have HLN2 := Lib.hid hln
        have HV := Lib.hid hjv
        have HD := Lib.hid hdid
        clear hown hln
        clear hg hjv hdid
        by_cases hlt : i < p.n
        · have hml : ln = o.length + headM png + i := by
            rw [← HLN2.out, List.length_append, List.length_append, List.length_replicate, dRow_len]
          have hvd := HV.out.later ((Below.refl wr.heap.size wr).drew)
          have b1 : Bytes wr.drew (some ⟨R0, o0, none⟩) p.n p.n ch := HBW.out.below hvd.below
          obtain ⟨Au, cu, U, hv, b2, hU⟩ := hvd.upper HZ.out HU.out.1 (by omega)
          subst hv
          have cx := b1.byte_at rfl (i := i) hlt
          obtain ⟨x, hx⟩ : ∃ x, ch.getD i 0 = x := ⟨_, rfl⟩
          rw [hx] at cx
          have cx0 : wr.cell? ⟨R0, o0 + i, none⟩ = some (.int .u8 (x : Nat)) := cx
          have cOut := HV.out.out.cell
          have fOut := HV.out.out.frozen
          have lOut := HV.out.out.lt
          have cTag := HV.out.tag.cell
          have cUp := HV.out.up.cell
          have rl := HV.out.lay.reads
          obtain ⟨f, hf⟩ : ∃ f, foreM T (backM ch i p.s) (U.getD i 0) (backM U i p.s) = f := ⟨_, rfl⟩
          have hf256 : f < 256 := by rw [← hf]; exact foreM_lt (backM_lt b1.byte _ _) (getD_lt b2.byte _) (backM_lt b2.byte _ _)
          have hx256 : x < 256 := by rw [← hx]; exact getD_lt b1.byte _
          have hcall := fore_any p png T ch U (some ⟨R0, o0, none⟩) Au p.n p.n p.n cu i wr.drew HTW.out b1 b2 hlt hlt hs (by omega)
          unfold ForeIs at hcall
          rw [hf] at hcall
          have HCALL := Lib.hid hcall
          have HF := Lib.hid (And.intro hf (And.intro hx hU))
          have HVD := Lib.hid hvd
          have HC0 := And.intro (cOut) (And.intro (rl 0) (And.intro (rl 1) (And.intro (rl 2) (And.intro (rl 3) (And.intro (rl 4) (And.intro (rl 5) (And.intro (rl 6) (And.intro (rl 7) (And.intro (cTag) (cUp))))))))))
          obtain ⟨z, hz⟩ : ∃ z, (x + 256 - f) % 256 = z := ⟨_, rfl⟩
          have hz256 : z < 256 := by omega
          have hz2' : IntKind.u8.wrap ((x : Int) - (f : Int)) = (z : Int) := by show _ % 256 = _; omega
          have HZ2 := Lib.hid hz2'
          have HZZ := Lib.hid hz
          have HML := Lib.hid hml
          clear hcall hf hx hU hvd b1 b2 cx rl cOut cTag cUp hz2' hz hml
          gi_wp2
          clear cx0
          refine region_round_lit l (by kernel_rfl) (by kernel_rfl) ?_
          refine wpAny_of_S (s := 11) (C := fun v => v.cell? ⟨L + 1, 0, none⟩ = some (.slice a1 ln c1) ∧ v.cell? ⟨L, 0, none⟩ = some (.int .i64 (headM png : Nat)) ∧ v.cell? ⟨L, 1, none⟩ = some (.int .i64 p.n) ∧ v.cell? ⟨L, 2, none⟩ = some (.int .i64 p.s) ∧ v.cell? ⟨L, 3, none⟩ = some (tabAt png 0) ∧ v.cell? ⟨L, 4, none⟩ = some (tabAt png 1) ∧ v.cell? ⟨L, 5, none⟩ = some (tabAt png 2) ∧ v.cell? ⟨L, 6, none⟩ = some (tabAt png 3) ∧ v.cell? ⟨L, 7, none⟩ = some (tabAt png 4) ∧ v.cell? ⟨w.heap.size + 1, 0, none⟩ = some (.int .i64 (T : Nat)) ∧ v.cell? ⟨L + 3, 0, none⟩ = some (.slice Au p.n cu)) _ _ _ _ ?_
          refine wpAnyS_takeW (i := 1) (v := ?v1) rfl (by kernel_rfl) (fun _ _ _ h => by cases h.1) (Or.inl ⟨by rfl, ?y1⟩) (fun _ => HC0) ?r1
          case y1 => intro wq _; go_simp; try with_reducible rfl
          try simp only [Act.put, List.setIfInBounds_toArray, List.set_cons_zero, List.set_cons_succ]
          refine wpAnyS_takeW (i := 4) (v := ?v2) rfl (by kernel_rfl) (fun _ _ _ h => by cases h.1) (Or.inl ⟨by rfl, ?y2⟩) (fun _ => HC0) ?r2
          case y2 => intro wq _; go_simp; try with_reducible rfl
          try simp only [Act.put, List.setIfInBounds_toArray, List.set_cons_zero, List.set_cons_succ]
          refine wpAnyS_takeW (i := 6) (v := ?v3) rfl (by kernel_rfl) (fun _ _ _ h => by cases h.1) (Or.inl ⟨by rfl, ?y3⟩) (fun _ => HC0) ?r3
          case y3 => intro wq _; go_simp; try with_reducible rfl
          try simp only [Act.put, List.setIfInBounds_toArray, List.set_cons_zero, List.set_cons_succ]
          refine wpAnyS_take (i := 0) (v := ?v4) rfl (by kernel_rfl) (fun _ _ _ h => by cases h.1) (Or.inl ⟨by rfl, ?y4⟩) HC0 ?r4
          case y4 => intro wq hq; (try dsimp only at hq); go_simp; try with_reducible rfl
          try simp only [Act.put, List.setIfInBounds_toArray, List.set_cons_zero, List.set_cons_succ]
          refine wpAnyS_take (i := 2) (v := ?v5) rfl (by kernel_rfl) (fun _ _ _ h => by cases h.1) (Or.inl ⟨by rfl, ?y5⟩) HC0 ?r5
          case y5 => intro wq hq; (try dsimp only at hq); go_simp; try with_reducible rfl
          try simp only [Act.put, List.setIfInBounds_toArray, List.set_cons_zero, List.set_cons_succ]
          refine wpAnyS_take (i := 3) (v := ?v6) rfl (by kernel_rfl) (fun _ _ _ h => by cases h.1) (Or.inl ⟨by rfl, ?y6⟩) HC0 ?r6
          case y6 => intro wq hq; (try dsimp only at hq); go_simp; try with_reducible rfl
          try simp only [Act.put, List.setIfInBounds_toArray, List.set_cons_zero, List.set_cons_succ]
          refine wpAnyS_take (i := 5) (v := ?v7) rfl (by kernel_rfl) (fun _ _ _ h => by cases h.1) (Or.inl ⟨by rfl, ?y7⟩) HC0 ?r7
          case y7 => intro wq hq; (try dsimp only at hq); go_simp; try with_reducible rfl
          try simp only [Act.put, List.setIfInBounds_toArray, List.set_cons_zero, List.set_cons_succ]
          refine wpAnyS_one (j := 7) (by kernel_rfl) rfl (fun K hK => ?_)
          go_simp
          go_at_call 28; (with_reducible refine HCALL.out.mono ?_)
          rintro ee w3 ⟨rfl, hb3⟩
          have hv3 := HVD.out.later hb3
          have HV3 := Lib.hid hv3
          have HB3 := Lib.hid hb3
          have rr := hv3.lay.reads
          have HC3 := And.intro (hv3.out.cell) (And.intro (rr 0) (And.intro (rr 1) (And.intro (rr 2) (And.intro (rr 3) (And.intro (rr 4) (And.intro (rr 5) (And.intro (rr 6) (And.intro (rr 7) (And.intro (hv3.tag.cell) (hv3.up.cell))))))))))
          clear rr hv3 hb3
          refine hK.out _ _ ⟨fun _ _ => HC3, ?_⟩
          clear hK K
          try simp only [Act.put, List.setIfInBounds_toArray, List.set_cons_zero, List.set_cons_succ]
          refine wpAnyS_one (j := 8) (by kernel_rfl) rfl (fun K hK => ?_)
          go_simp
          refine hK.out _ _ ⟨fun _ _ => HC3, ?_⟩
          clear hK K
          rw [HZ2.out]
          try simp only [Act.put, List.setIfInBounds_toArray, List.set_cons_zero, List.set_cons_succ]
          refine wpAnyS_one (j := 9) (by kernel_rfl) rfl (fun K hK => ?_)
          go_simp
          refine hK.out _ _ ⟨fun _ _ => ⟨(World.cell?_alloc_lt _ _ _ (World.block_lt_of_cell? _ _ HC3.1)).trans HC3.1, (World.cell?_alloc_lt _ _ _ (World.block_lt_of_cell? _ _ HC3.2.1)).trans HC3.2.1, (World.cell?_alloc_lt _ _ _ (World.block_lt_of_cell? _ _ HC3.2.2.1)).trans HC3.2.2.1, (World.cell?_alloc_lt _ _ _ (World.block_lt_of_cell? _ _ HC3.2.2.2.1)).trans HC3.2.2.2.1, (World.cell?_alloc_lt _ _ _ (World.block_lt_of_cell? _ _ HC3.2.2.2.2.1)).trans HC3.2.2.2.2.1, (World.cell?_alloc_lt _ _ _ (World.block_lt_of_cell? _ _ HC3.2.2.2.2.2.1)).trans HC3.2.2.2.2.2.1, (World.cell?_alloc_lt _ _ _ (World.block_lt_of_cell? _ _ HC3.2.2.2.2.2.2.1)).trans HC3.2.2.2.2.2.2.1, (World.cell?_alloc_lt _ _ _ (World.block_lt_of_cell? _ _ HC3.2.2.2.2.2.2.2.1)).trans HC3.2.2.2.2.2.2.2.1, (World.cell?_alloc_lt _ _ _ (World.block_lt_of_cell? _ _ HC3.2.2.2.2.2.2.2.2.1)).trans HC3.2.2.2.2.2.2.2.2.1, (World.cell?_alloc_lt _ _ _ (World.block_lt_of_cell? _ _ HC3.2.2.2.2.2.2.2.2.2.1)).trans HC3.2.2.2.2.2.2.2.2.2.1, (World.cell?_alloc_lt _ _ _ (World.block_lt_of_cell? _ _ HC3.2.2.2.2.2.2.2.2.2.2)).trans HC3.2.2.2.2.2.2.2.2.2.2⟩, ?_⟩
          clear hK K
          try simp only [Act.put, List.setIfInBounds_toArray, List.set_cons_zero, List.set_cons_succ]
          refine wpAnyS_one (j := 10) (by kernel_rfl) rfl (fun K hK => ?_)
          rw [if_pos (by rfl)]
          have hl3 := HV3.out.up.lt
          have ho3 := HV3.out.own
          rw [HLN2.out] at ho3
          have HO3 := Lib.hid ho3
          clear ho3
          refine wp_append_own _ (.tmp 48) (.tmp 57) 24 rfl (L + 3) 5 i0 (.int .u8 0) 1 1 Try.underlying24 hi0 hz0 hz1 hz2 rfl (by decide) (.slice a1 ln c1) ln _ rfl (HO3.out.alloc _) ⟨w3.heap.size, 0, none⟩ 1 1 [.int .u8 (z : Int)] rfl rfl (cell_one_new _ _ _) (by simp [Value.oneCell']) (by rw [HML.out]; unfold maxLen; omega) (by rw [HML.out]; omega) (by simp; omega) ?_
          intro v4 w4 hown4 hgrow4 _
          have hD3 : DidJ w L W0.heap.size wr w3 := (DidJ.of_below (Below.refl wr.heap.size wr).drew).trans (DidJ.of_below HB3.out)
          have y4 : Boxed wr (L + 4) 24 (.slice A bs.length c) := (HD.out.2.block _ HTC.out.row.lt (by omega)).trans HTC.out.row
          have y5 : Boxed wr (L + 5) 3 (.int .i64 (p.n : Int)) := (HD.out.2.block _ HTC.out.many.lt (by omega)).trans HTC.out.many
          have hk3 : ∃ x, Boxed w3 (L + 4) 24 x := ⟨_, (hD3.2.block _ y4.lt (by omega)).trans y4⟩
          have hk4 : ∃ x, Boxed w3 (L + 5) 3 x := ⟨_, (hD3.2.block _ y5.lt (by omega)).trans y5⟩
          obtain ⟨a4, c4, rfl⟩ := own_slice hown4
          have hps4 := HV3.out.push (B0 := W0.heap.size) ((Below.refl _ _).alloc (Nat.le_refl _) _) (r := [z]) (m := 1) rfl (fun x hx => by simp at hx; omega) (by rw [HLN2.out]; exact hown4) hgrow4 hk3 hk4
          have r4 := hps4.2.2.2.2.1.reads
          have HC4 := And.intro hps4.1.cell (And.intro (r4 0) (And.intro (r4 1) (And.intro (r4 2) (And.intro (r4 3) (And.intro (r4 4) (And.intro (r4 5) (And.intro (r4 6) (And.intro (r4 7) (And.intro hps4.2.2.2.1.cell hps4.2.2.2.2.2.cell)))))))))
          have f4 := hps4.1.frozen
          have l4 := hps4.1.lt
          have HP4 := Lib.hid (And.intro hps4.2.1 (HD.out.trans (hD3.trans hps4.2.2.1)))
          clear r4 hps4 hown4 hgrow4 hk3 hk4 hD3
          refine hK.out _ _ ⟨fun _ _ => HC4, ?_⟩
          clear hK K
          try simp only [Act.put, List.setIfInBounds_toArray, List.set_cons_zero, List.set_cons_succ]
          refine wpAnyS_one (j := 11) (by kernel_rfl) rfl (fun K hK => ?_)
          go_simp
          refine hK.out _ _ ⟨fun h => absurd rfl h, ?_⟩
          clear hK K
          try simp only [Act.put, List.setIfInBounds_toArray, List.set_cons_zero, List.set_cons_succ]
          refine wpAnyS_done (by kernel_rfl) ⟨rfl, ?_⟩ _
          gi_wp2
          gi_roundg (p.n - (i + 1))
          case measure => have := HG.out; omega
          case rel =>
            have hj := HP4.out.1
            have e : o ++ List.replicate (headM png) T ++ dRow T p.s (upD bs p.n m) ch i ++ [z] = o ++ List.replicate (headM png) T ++ dRow T p.s (upD bs p.n m) ch (i + 1) := by
              have h1 := HF.out.1
              rw [HF.out.2.2, up_back HF.out.2.2] at h1
              rw [List.append_assoc, dRow, h1, HF.out.2.1, HZZ.out]
            rw [e] at hj
            exact ⟨i + 1, _, rfl, rfl, hlt, hj, HP4.out.2⟩
        · obtain rfl : i = p.n := by omega
          have cUp := HV.out.up.cell
          have fUp := HV.out.up.frozen
          gi_wp2
          have hv := HV.out.top (.slice (some ⟨R0, o0, none⟩) p.n p.n)
          have hd := HD.out.trans (DidJ.set (L := L) (B0 := W0.heap.size) ⟨L + 3, 0, none⟩ (.slice (some ⟨R0, o0, none⟩) p.n p.n) (by simp; omega) (by simp) (by simp))
          refine ⟨hd.1, hd.2, hmq2, _, .slice a1 ln c1, .inr ⟨m, _, _, rfl, rfl, by rw [HE.out.2]; exact HBW.out⟩, ?_⟩
          have e : doN (headM png) p.n p.s T bs (m + 1) = o ++ List.replicate (headM png) T ++ dRow T p.s (upD bs p.n m) ch p.n := by
            rw [doN, HU.out.2, HE.out.2, List.append_assoc]
          rw [e]
          exact hv
    case done =>
      rintro D s W hD hDn ⟨hle, v, ov, hu, hi⟩ hK
      have hsq : s = q := by
        have := HQ.out
        have hl := HLN.out
        rcases Nat.lt_or_ge s q with h1 | h1
        · have h2 := Nat.mul_le_mul_right p.n (show s + 1 ≤ q from h1)
          have h3 : (s + 1) * p.n = s * p.n + p.n := by rw [Nat.add_mul, Nat.one_mul]
          have hDn : bs.length ≤ s * p.n := hDn
          omega
        · omega
      subst hsq
      obtain ⟨a0, ca, rfl⟩ := own_slice hi.own
      have hcO := hi.out.cell
      have hpos := hi.pos
      have HI := Lib.hid hi
      clear hi hu hDn
      gi_wp2
      have hi := HI.out
      have hbel := below_put (.deferred none) hi.below (D := D) (by omega)
      have hown2 := ownsRow_putObj hi.own (.deferred none) hK rfl
      obtain ⟨A3, c3, R3, e3, _, _, hby⟩ := Row8.of_own hown2 hi.byte
      injection e3 with e31 e32 e33
      subst e31 e33
      refine ⟨by simp, .inl ⟨_, _, rfl, run_takeDeferred hK, ?_⟩⟩
      exact ⟨.tuple #[.slice a0 (doN (headM png) p.n p.s T bs s).length ca, .int .i64 0], by simp [results, Try.results22, go_sem], _, _, rfl, hby.bytes, hbel⟩
end Go.Proofs.Ytjligbfijjejmaa
