/- Unhex: its pairs. -/
import Derived.Test.YtbbckpdpahkfkaaAscD
namespace Go.Proofs.Ytbbckpdpahkfkaa
open Go.RowKit
attribute [local go_sem] Oper.semAt_some

/-- Bytes and an error's number are answered. -/
def AnsIs (r : Int × List Nat) (w : World) (e : Ending) (w' : World) : Prop :=
  ∃ A c, e = .returned (.tuple #[.slice A r.2.length c, .int .i64 r.1]) ∧ Bytes w' A r.2.length c r.2 ∧ Below w.heap.size w w'
theorem AnsIs.err {w w' : World} {E : Int} (hb : Below w.heap.size w w') : AnsIs (E, []) w (.returned (.tuple #[.slice none 0 0, .int .i64 E])) w' := ⟨none, 0, rfl, bytes_none w', hb⟩
def pairN (ds : List Nat) : Nat → List Nat
  | 0 => []
  | m + 1 => pairN ds m ++ [ds.getD (2 * m) 0 * 16 + ds.getD (2 * m + 1) 0]
theorem pairN_len (ds : List Nat) : ∀ m, (pairN ds m).length = m
  | 0 => rfl
  | m + 1 => by rw [pairN, List.length_append, pairN_len ds m]; rfl
theorem pairN_cons (a b : Nat) (r : List Nat) : ∀ m, pairN (a :: b :: r) (m + 1) = (a * 16 + b) :: pairN r m
  | 0 => rfl
  | m + 1 => by
    rw [pairN, pairN_cons a b r m, pairN]
    have e1 : (a :: b :: r).getD (2 * (m + 1)) 0 = r.getD (2 * m) 0 := by
      rw [show 2 * (m + 1) = 2 * m + 1 + 1 by omega, List.getD_cons_succ, List.getD_cons_succ]
    have e2 : (a :: b :: r).getD (2 * (m + 1) + 1) 0 = r.getD (2 * m + 1) 0 := by
      rw [show 2 * (m + 1) + 1 = 2 * m + 1 + 1 + 1 by omega, List.getD_cons_succ, List.getD_cons_succ]
    rw [e1, e2]
    rfl
theorem pairUp_even : ∀ (ds : List Nat) (q : Nat), ds.length = 2 * q → pairUp ds = pairN ds q
  | [], q, h => by obtain rfl : q = 0 := by simp at h; omega
                   rfl
  | [a], q, h => by simp at h; omega
  | a :: b :: r, q, h => by
    obtain ⟨k, rfl⟩ : ∃ k, q = k + 1 := ⟨q - 1, by simp at h; omega⟩
    rw [pairUp, pairN_cons, pairUp_even r k (by simp at h; omega)]
theorem pairUp_pad : ∀ (ds : List Nat), ds.length % 2 = 1 → pairUp (ds ++ [0]) = pairUp ds
  | [], h => by simp at h
  | [a], h => by show [a * 16 + 0] = [a * 16]; rfl
  | a :: b :: r, h => by
    show (a * 16 + b) :: pairUp (r ++ [0]) = (a * 16 + b) :: pairUp r
    rw [pairUp_pad r (by simp at h; omega)]
theorem hexV_lt : ∀ (t ds : List Nat), hexV t = some ds → ∀ d ∈ ds, d < 16
  | [], ds, h => by injection h with h; subst h; simp
  | c :: r, ds, h => by
    rw [hexV] at h
    split at h
    · exact hexV_lt r ds h
    · cases hd : digM c with
      | none => rw [hd] at h; cases h
      | some x =>
        rw [hd] at h
        cases hr : hexV r with
        | none => rw [hr] at h; cases h
        | some q =>
          rw [hr] at h
          injection h with h
          subst h
          have hx : x < 16 := by
            unfold digM at hd
            split at hd
            · injection hd with hd; omega
            · split at hd
              · injection hd with hd; omega
              · split at hd
                · injection hd with hd; omega
                · cases hd
          intro d hm
          rcases List.mem_cons.1 hm with rfl | hm
          · exact hx
          · exact hexV_lt r q hr d hm
theorem hexV_len : ∀ (t ds : List Nat), hexV t = some ds → ds.length ≤ t.length
  | [], ds, h => by injection h with h; subst h; exact Nat.le_refl _
  | c :: r, ds, h => by
    rw [hexV] at h
    split at h
    · have := hexV_len r ds h; simp; omega
    · cases hd : digM c with
      | none => rw [hd] at h; cases h
      | some x =>
        rw [hd] at h
        cases hr : hexV r with
        | none => rw [hr] at h; cases h
        | some q =>
          rw [hr] at h
          injection h with h
          subst h
          have := hexV_len r q hr
          simp; omega
theorem pairN_byte {ds : List Nat} (h : ∀ d ∈ ds, d < 16) : ∀ m, ∀ x ∈ pairN ds m, x < 256
  | 0, x, hx => by simp [pairN] at hx
  | m + 1, x, hx => by
    rw [pairN] at hx
    rcases List.mem_append.1 hx with h1 | h1
    · exact pairN_byte h m x h1
    · obtain rfl := List.mem_singleton.1 h1
      have key : ∀ k, ds.getD k 0 < 16 := fun k => by
        rw [List.getD_eq_getElem?_getD]
        cases e : ds[k]? with
        | none => simp
        | some x => exact h x (List.mem_of_getElem? e)
      have := key (2 * m)
      have := key (2 * m + 1)
      omega
theorem io_start (w w2 : World) (A : Option Addr) (c K : Nat) (bs : List Nat) (hB : Bytes w2 A bs.length c bs) (hb : Below w.heap.size w w2) :
    ∃ W0, (((w2.alloc (.cells #[.slice none 0 0] 22)).alloc (.cells #[.slice A bs.length c] 22)).alloc (.cells #[.int .i64 (K : Int)] 3)) = W0 ∧ W0.heap.size = w2.heap.size + 3 ∧
      IO w w2.heap.size [] W0 (.slice none 0 0) ∧ TCh (w2.heap.size + 1) (w2.heap.size + 2) w2.heap.size A c K bs W0 := by
  have hs2 := hb.size
  refine ⟨_, rfl, by simp, ⟨?_, World.ownsRow_nil _ _ _ _, fun x hx => by simp at hx, ?_, by simp⟩, ?_⟩
  · exact ((Boxed.new w2 22 (.slice none 0 0)).alloc _).alloc _
  · exact ((hb.alloc hs2 _).alloc (by simp; omega) _).alloc (by simp; omega) _
  · have b1 := (Boxed.new (w2.alloc (.cells #[.slice none 0 0] 22)) 22 (.slice A bs.length c)).alloc (.cells #[.int .i64 (K : Int)] 3)
    have b2 := Boxed.new ((w2.alloc (.cells #[.slice none 0 0] 22)).alloc (.cells #[.slice A bs.length c] 22)) 3 (.int .i64 (K : Int))
    simp only [World.size_alloc] at b1 b2
    refine ⟨b1, b2, hB.below ((((Below.refl w2.heap.size w2).alloc (Nat.le_refl _) _).alloc (by simp) _).alloc (by simp; omega) _), fun h0 R o e => ?_⟩
    obtain ⟨R', o', e', hR', _⟩ := hB.at_ h0
    rw [e] at e'
    injection e' with e'
    injection e' with e1 e2
    omega
theorem YCh.put {n₀ K : Nat} {b : List Nat} {s : Nat} {vs : Array Value} {t : Nat} {W : World} {l : Nat} {o : Obj} (o' : Obj) (h : YCh n₀ K b s vs t W) (hl : W.heap[l]? = some o) (ho : o.isCells = false) : YCh n₀ K b s vs t (W.putObj l o') := by
  obtain ⟨h1, h2, R, o2, e, he, hv, hb, hR⟩ := h
  exact ⟨h1, h2, R, o2, e, he, hv, hb.putObj o' hl ho, hR⟩
theorem TCh.kept {B1 B2 n₀ : Nat} {A : Option Addr} {c K : Nat} {b : List Nat} {W W' : World} (h : TCh B1 B2 n₀ A c K b W) (k : Kept n₀ (fun _ => False) W W') : TCh B1 B2 n₀ A c K b W' :=
  ⟨k.boxed h.row (fun e => e), k.boxed h.many (fun e => e), ⟨h.bytes.len, h.bytes.cap, h.bytes.top, h.bytes.byte, fun h0 => by
    obtain ⟨R, o, e, hR, hc⟩ := h.bytes.at_ h0
    exact ⟨R, o, e, Nat.lt_of_lt_of_le hR k.size, fun i b hb => (World.cell?_of_block (k.low R (h.low h0 R o e) hR)).trans (hc i b hb)⟩⟩, h.low⟩
theorem below_put {w V : World} {D : Nat} (o' : Obj) (h : Below w.heap.size w V) (hD : w.heap.size ≤ D) : Below w.heap.size w (V.putObj D o') := below_putObj h hD
theorem two_byte {w : World} {R o e c : Nat} {l : List Nat} (h : Bytes w (some ⟨R, o, none⟩) e c l) {i x : Nat} (hx : l[i]? = some x) : w.cell? ⟨R, o + i, none⟩ = some (.int .u8 (x : Nat)) := by
  have hi := (List.getElem?_eq_some_iff.1 hx).1
  have hl := h.len
  obtain ⟨R', o', e', hR, hc⟩ := h.at_ (by omega)
  injection e' with e'
  injection e' with e1 e2
  subst e1 e2
  exact hc i x hx
set_option maxRecDepth 100000 in
set_option maxHeartbeats 4000000 in
set_option pp.deepTerms true in
set_option pp.maxSteps 1000000 in
theorem unhex_even (t body ds : List Nat) (most : Int) (q : Nat) (w : World) (hb : ∀ x ∈ t, x < 256) (hl : t.length ≤ 100000) (hM : MX w) (h0 : 0 ≤ most) (h1 : most ≤ 1048576)
    (hc : cut1 t = some body) (hv : hexV body = some ds) (hq : ds.length = 2 * q) (hm : (q : Int) ≤ most) :
    Calls Try.prog 14 #[.string (strB t), .int .i64 most] w (AnsIs (0, pairN ds q) w) := by
  have hbl : body.length ≤ 100000 := by
    rw [cut1_take t body hc, List.length_take]; omega
  have hbb : ∀ x ∈ body, x < 256 := fun x hx => hb x (by rw [cut1_take t body hc] at hx; exact List.mem_of_mem_take hx)
  have hvals := fun w => values_any body w hbb hbl
  have hcut := fun w hM => cutone_any t w hb hl hM
  rw [hv] at hvals
  rw [hc] at hcut
  have HV := Lib.hid hvals
  have HC := Lib.hid hcut
  have HM := Lib.hid hM
  have HD := Lib.hid (hexV_lt body ds hv)
  have hd16 : ∀ x ∈ ds, x < 256 := fun x hx => by have := hexV_lt body ds hv x hx; omega
  have HDL := Lib.hid (Nat.le_trans (hexV_len body ds hv) hbl)
  have HD2 := Lib.hid hd16
  clear hvals hcut hM hv hc hbb hb hd16
  have HQ := Lib.hid hq
  clear hq
  refine (callsIn_wide (n := 3)).1 ?_
  refine callsIn_of_wp_marks Try.func14 rfl trivial ?_ rfl
  simp only [Try.ntmps14, List.size_toArray, List.length_cons, List.length_nil, Nat.reduceAdd, Nat.reduceSub, Array.replicate_succ, Array.replicate_zero, List.push_toArray, List.append_toArray, List.nil_append, List.cons_append]
  have hrem : (((ds.length : Nat) : Int) % 2 != 0) = false := by rw [HQ.out]; simp
  have hquo : ((ds.length : Nat) : Int) / 2 = (q : Int) := by rw [HQ.out]; omega
  have hgt : decide (most < (q : Int)) = false := by simp; omega
  gi_wp2_with (refine ⟨trivial, ?_⟩; first
    | (gi_at_call 22; refine (callsIn_wide.2 (allowed_any most true _ (decide_eq_true ⟨h0, h1⟩))).mono ?_; rintro e w' ⟨rfl, rfl⟩)
    | (gi_at_call 23; refine (callsIn_wide.2 (HC.out _ HM.out)).mono ?_; rintro e w1 ⟨hb1, u1, rfl⟩; have HB1 := Lib.hid hb1; clear hb1)
    | (gi_at_call 24; refine (callsIn_wide.2 (HV.out _)).mono ?_; rintro e w2 ⟨hb2, v2, rfl, hown2⟩; obtain ⟨a2, c2, rfl⟩ := own_slice hown2; have HB2 := Lib.hid (And.intro hb2 hown2); clear hb2 hown2)
    | (gi_at_call 18; refine (chunk_call _ open_wide _ _ _ _ 2 _ (by omega)).mono ?_; rintro e w' ⟨rfl, rfl⟩))
  have hba2 : Bytes w2 a2 ds.length c2 ds := own_read HB2.out.2 HD2.out
  have hbw : Below w.heap.size w w2 := HB1.out.trans (HB2.out.1.mono HB1.out.size)
  obtain ⟨W0, hW0, hsz0, hI0, hT0⟩ := io_start w w2 a2 c2 2 ds hba2 hbw
  rw [show ((2 : Nat) : Int) = 2 from rfl] at hW0
  rw [hW0]
  have hlw := hbw.size
  have hdl : ds.length ≤ 200000 := by have := HDL.out; omega
  clear hW0
  refine wpIn_iter rfl (by omega) (gf := 32) (lb := #[.pointer (some ⟨w2.heap.size + 1, 0, none⟩), .pointer (some ⟨w2.heap.size + 1 + 1, 0, none⟩)]) rfl trivial (enters_of Try.func32 (by kernel_rfl) rfl)
    (chunk_iter (w2.heap.size + 1) (w2.heap.size + 2) w2.heap.size 2 a2 c2 2 (by omega) ds (by omega) (by omega) (by omega)) ?hS (fun h k => KCh.trans h k) ?hKb ?hps ?hT ?hY
    (fun m W => m ≤ q ∧ ∃ v, IO w w2.heap.size (pairN ds m) W v) (fun _ _ _ => False) ?hI ?hIx ?hIS ?hIxS ?h0 ?hT0
    (fun vs => { tmps := #[.string (strB t), .int .i64 most, undef, undef, .slice none 0 0, .int .i64 0, .string (strB body), .string u1, .bool true, .slice a2 ds.length c2, .int .i64 0, .pointer (some ⟨w2.heap.size, 0, none⟩), vs.getD 0 undef, .int .i64 most, .bool true, .bool false, .tuple #[.string (strB body), .string u1, .bool true], .string (strB t), .tuple #[.string (strB body), .string u1, .bool true], .string (strB body), .string u1, .bool true, .bool true, .bool false, .tuple #[.slice a2 ds.length c2, .int .i64 0], .string (strB body), .tuple #[.slice a2 ds.length c2, .int .i64 0], .slice a2 ds.length c2, .int .i64 0, .int .i64 0, .bool false, undef, .slice a2 ds.length c2, .int .i64 ds.length, .int .i64 ((ds.length : Int) % 2), .bool false, undef, undef, undef, .slice a2 ds.length c2, .int .i64 ds.length, .int .i64 q, .int .i64 most, .bool false, .slice a2 ds.length c2, .func (.func 32) #[] #[.pointer (some ⟨w2.heap.size + 1, 0, none⟩), .pointer (some ⟨w2.heap.size + 1 + 1, 0, none⟩)], vs.getD 0 undef, undef, undef, undef, undef, undef, undef, undef, undef, undef, undef, undef, undef], defers := [] }) ?assign ?body ?done (fun _ _ _ _ _ h _ => h.elim)
  case hS => intro k hk; exact hk.elim
  case hKb => intro W l o o' hl ho _; exact fr_putObj o' ⟨by omega, by omega, by omega⟩
  case hps => rintro s vs t W ⟨_, _, R, o, e, _, rfl, _⟩; rfl
  case hT => intro s W W' row hs hg hr; exact hs.kept (Kept.of_grown hg hr (by omega))
  case hY => intro s vs t W l o o' hy _ hl ho; exact hy.put o' hl ho
  case hI => intro s W W' row hs hg hr; obtain ⟨h0, v, hi⟩ := hs; exact ⟨h0, v, hi.kept (Kept.of_grown hg hr (by omega)) (fun _ e => e.elim)⟩
  case hIx => intro c s W W' row hs hg hr; exact hs.elim
  case hIS => intro s W W' hs hf _; obtain ⟨h0, v, hi⟩ := hs; exact ⟨h0, v, hi.kept (Kept.of_fr hf (fun _ _ e => e)) (fun _ e => e.elim)⟩
  case hIxS => intro c s W W' hs hf _; exact hs.elim
  case h0 => exact ⟨Nat.zero_le _, _, hI0⟩
  case hT0 => exact hT0
  case assign =>
    intro l s vs t W K hy hK
    obtain ⟨_, _, R, o, e, he, rfl, _⟩ := hy
    clear he
    gi_wp2
    exact hK
  case body =>
    rintro l m vs t W ⟨hmq, v, hi⟩ ht ⟨hmk, rfl, R, o, e, he, rfl, hby, hRn⟩
    have hm2 : m < q := by have := HQ.out; omega
    have hel : e = 2 := by rw [he]; unfold rowM; rw [List.length_take, List.length_drop, HQ.out]; omega
    subst hel
    obtain ⟨x0, hx0⟩ : ∃ x, ds.getD (2 * m) 0 = x := ⟨_, rfl⟩
    obtain ⟨x1, hx1⟩ : ∃ x, ds.getD (2 * m + 1) 0 = x := ⟨_, rfl⟩
    have key : ∀ k, k < ds.length → ds[k]? = some (ds.getD k 0) := fun k hk => by rw [List.getD_eq_getElem?_getD, List.getElem?_eq_getElem hk]; rfl
    have r0 : (rowM ds 2 m)[0]? = some x0 := by
      unfold rowM
      rw [List.getElem?_take_of_lt (by omega), List.getElem?_drop, Nat.add_zero, Nat.mul_comm, key _ (by have := HQ.out; omega), hx0]
    have r1 : (rowM ds 2 m)[1]? = some x1 := by
      unfold rowM
      rw [List.getElem?_take_of_lt (by omega), List.getElem?_drop, Nat.mul_comm, key _ (by have := HQ.out; omega), hx1]
    have c0 := two_byte hby r0
    have c1 := two_byte hby r1
    rw [Nat.add_zero] at c0
    have b0 : x0 < 16 := HD.out x0 (List.mem_of_getElem? ((key (2 * m) (by have := HQ.out; omega)).trans (by rw [hx0])))
    have b1 : x1 < 16 := HD.out x1 (List.mem_of_getElem? ((key (2 * m + 1) (by have := HQ.out; omega)).trans (by rw [hx1])))
    obtain ⟨z, hz⟩ : ∃ z, x0 * 16 + x1 = z := ⟨_, rfl⟩
    have HPZ := Lib.hid (show pairN ds (m + 1) = pairN ds m ++ [z] by rw [pairN, hx0, hx1, hz])
    have hz9 : IntKind.u8.wrap (IntKind.u8.wrap ((x0 : Int) * 16) + (x1 : Int)) = (z : Int) := by
      rw [show IntKind.u8.wrap ((x0 : Int) * 16) = (x0 : Int) * 16 from by show _ % 256 = _; omega]
      show _ % 256 = _
      omega
    have HZ9 := Lib.hid hz9
    obtain ⟨a0, ca, rfl⟩ := own_slice hi.own
    have HPL := Lib.hid (pairN_len ds m)
    have hpl : (pairN ds m).length ≤ 200000 := by rw [pairN_len]; omega
    have cO := hi.row.cell
    have HI := Lib.hid hi
    have lO := hi.row.lt
    have hsW := hi.size
    obtain ⟨i0, hi0, hz0, hz1, hz2⟩ := info_parts info8
    have HC0 := And.intro cO (And.intro c0 c1)
    have lR := World.block_lt_of_cell? _ _ c0
    have HP := Lib.hid (fun (v1 : Value) (w1 : World) (h1 : w1.ownsRow (w2.heap.size + 3) 5 1 v1 ((pairN ds m).length + 1) (bvs (pairN ds m) ++ bvs [z])) (h2 : (W.alloc (.cells #[.int .u8 (z : Int)] 5)).drew.grownBy w1 (Value.slice a0 (pairN ds m).length ca).ownBlock) => hi.push (B0 := W0.heap.size) (((Below.refl W.heap.size W).alloc (Nat.le_refl _) _).drew) (r := [z]) rfl (fun x hx => by simp at hx; omega) hlw h1 h2 (⟨((KeepsOthers.alloc W _).from W0.heap.size).size, ((KeepsOthers.alloc W _).from W0.heap.size).2⟩))
    have hz16 : z < 256 := by omega
    clear hx0 hx1 key r0 r1 hi ht hby hz hz9 he
    gi_wp2
    refine region_round_lit l (by kernel_rfl) (by kernel_rfl) ?_
    refine wpAny_of_S (s := 10) (C := fun v => v.cell? ⟨w2.heap.size, 0, none⟩ = some (.slice a0 (pairN ds m).length ca) ∧ v.cell? ⟨R, o, none⟩ = some (.int .u8 (x0 : Nat)) ∧ v.cell? ⟨R, o + 1, none⟩ = some (.int .u8 (x1 : Nat))) _ _ _ _ ?_
    refine wpAnyS_takeD (i := 1) (v := ?v0) rfl (by kernel_rfl) (fun _ _ _ h => by cases h.1) (Or.inl ⟨by rfl, ?y0⟩) HC0 ?r0
    case y0 => intro wq hq; (try dsimp only at hq); go_simp; try with_reducible rfl
    try simp only [Act.put, List.setIfInBounds_toArray, List.set_cons_zero, List.set_cons_succ]
    refine wpAnyS_takeD (i := 5) (v := ?v1) rfl (by kernel_rfl) (fun _ _ _ h => by cases h.1) (Or.inl ⟨by rfl, ?y1⟩) HC0 ?r1
    case y1 => intro wq hq; (try dsimp only at hq); go_simp; try with_reducible rfl
    try simp only [Act.put, List.setIfInBounds_toArray, List.set_cons_zero, List.set_cons_succ]
    refine wpAnyS_takeD (i := 2) (v := ?v2) rfl (by kernel_rfl) (fun _ _ _ h => by cases h.1) (Or.inl ⟨by rfl, ?y2⟩) HC0 ?r2
    case y2 => intro wq hq; (try dsimp only at hq); go_simp; try with_reducible rfl
    try simp only [Act.put, List.setIfInBounds_toArray, List.set_cons_zero, List.set_cons_succ]
    refine wpAnyS_takeD (i := 6) (v := ?v3) rfl (by kernel_rfl) (fun _ _ _ h => by cases h.1) (Or.inl ⟨by rfl, ?y3⟩) HC0 ?r3
    case y3 => intro wq hq; (try dsimp only at hq); go_simp; try with_reducible rfl
    try simp only [Act.put, List.setIfInBounds_toArray, List.set_cons_zero, List.set_cons_succ]
    refine wpAnyS_takeD (i := 0) (v := ?v4) rfl (by kernel_rfl) (fun _ _ _ h => by cases h.1) (Or.inl ⟨by rfl, ?y4⟩) HC0 ?r4
    case y4 => intro wq hq; (try dsimp only at hq); go_simp; try with_reducible rfl
    try simp only [Act.put, List.setIfInBounds_toArray, List.set_cons_zero, List.set_cons_succ]
    refine wpAnyS_takeD (i := 3) (v := ?v5) rfl (by kernel_rfl) (fun _ _ _ h => by cases h.1) (Or.inl ⟨by rfl, ?y5⟩) HC0 ?r5
    case y5 => intro wq hq; (try dsimp only at hq); go_simp; try with_reducible rfl
    try simp only [Act.put, List.setIfInBounds_toArray, List.set_cons_zero, List.set_cons_succ]
    refine wpAnyS_takeD (i := 7) (v := ?v6) rfl (by kernel_rfl) (fun _ _ _ h => by cases h.1) (Or.inl ⟨by rfl, ?y6⟩) HC0 ?r6
    case y6 => intro wq hq; (try dsimp only at hq); go_simp; try with_reducible rfl
    try simp only [Act.put, List.setIfInBounds_toArray, List.set_cons_zero, List.set_cons_succ]
    refine wpAnyS_takeD (i := 4) (v := ?v7) rfl (by kernel_rfl) (fun _ _ _ h => by cases h.1) (Or.inl ⟨by rfl, ?y7⟩) HC0 ?r7
    case y7 => intro wq hq; (try dsimp only at hq); go_simp; try with_reducible rfl
    try simp only [Act.put, List.setIfInBounds_toArray, List.set_cons_zero, List.set_cons_succ]
    refine wpAnyS_takeD (i := 8) (v := ?v8) rfl (by kernel_rfl) (fun _ _ _ h => by cases h.1) (Or.inl ⟨by rfl, ?y8⟩) HC0 ?r8
    case y8 => intro wq hq; (try dsimp only at hq); go_simp; try with_reducible rfl
    try simp only [Act.put, List.setIfInBounds_toArray, List.set_cons_zero, List.set_cons_succ]
    refine wpAnyS_one (j := 9) (by kernel_rfl) rfl (fun K hK => ?_)
    go_simp
    refine hK.out _ _ ⟨fun _ _ => ⟨(World.cell?_alloc_lt _ _ _ lO).trans cO, (World.cell?_alloc_lt _ _ _ lR).trans c0, (World.cell?_alloc_lt _ _ _ lR).trans c1⟩, ?_⟩
    clear hK K
    try simp only [Act.put, List.setIfInBounds_toArray, List.set_cons_zero, List.set_cons_succ]
    rw [HZ9.out]
    refine wpAnyS_one (j := 10) (by kernel_rfl) rfl (fun K hK => ?_)
    rw [if_pos (by rfl)]
    refine wp_append_own _ (.tmp 47) (.tmp 56) 22 rfl (w2.heap.size + 3) 5 i0 (.int .u8 0) 1 1 Try.underlying22 hi0 hz0 hz1 hz2 rfl (by decide) (.slice a0 (pairN ds m).length ca) (pairN ds m).length _ rfl ((HI.out.own.alloc _).drew) ⟨W.heap.size, 0, none⟩ 1 1 [.int .u8 (z : Int)] rfl rfl (cell_one_new _ _ _) (by simp [Value.oneCell']) (by unfold maxLen; omega) (by omega) (by simp; omega) ?_
    intro v4 w4 hown4 hgrow4 _
    obtain ⟨a4, c4, rfl⟩ := own_slice hown4
    have H4 := Lib.hid (HP.out _ w4 hown4 hgrow4)
    have hcr := H4.out.1.cell
    have hfr := H4.out.1.frozen
    clear hown4 hgrow4
    refine hK.out _ _ ⟨fun h => absurd rfl h, ?_⟩
    clear hK K
    try simp only [Act.put, List.setIfInBounds_toArray, List.set_cons_zero, List.set_cons_succ]
    refine wpAnyS_one (j := 11) (by kernel_rfl) rfl (fun K hK => ?_)
    go_simp
    refine hK.out _ _ ⟨(fun _ h => by cases h), ?_⟩
    clear hK K
    try simp only [Act.put, List.setIfInBounds_toArray, List.set_cons_zero, List.set_cons_succ]
    refine wpAnyS_done (by kernel_rfl) ⟨rfl, ?_⟩ _
    gi_wp2
    have h5 := H4.out.2.2.2
    rw [← HPZ.out] at h5
    exact ⟨H4.out.2.1, H4.out.2.2.1, by omega, _, h5⟩
  case done =>
    rintro D s W hD hDn ⟨hle, v, hi⟩ hK
    have hsq : s = q := by
      have hDn : ds.length ≤ s * 2 := hDn
      have := HQ.out
      omega
    subst hsq
    obtain ⟨a0, ca, rfl⟩ := own_slice hi.own
    have hcO := hi.row.cell
    have hlO := hi.row.lt
    have HI := Lib.hid hi
    clear hi hDn
    gi_wp2
    have hi := HI.out
    have hbel := below_put (.deferred none) hi.below (D := D) (by omega)
    have hown2 := ownsRow_putObj hi.own (.deferred none) hK rfl
    have hby := own_read hown2 hi.byte
    refine ⟨by simp, .inl ⟨_, _, rfl, run_takeDeferred hK, ?_⟩⟩
    exact ⟨.tuple #[.slice a0 (pairN ds s).length ca, .int .i64 0], by simp [results, Try.results14, go_sem], _, _, rfl, hby, hbel⟩
end Go.Proofs.Ytbbckpdpahkfkaa
