/- Put: walked. -/
import Derived.Test.YtbbckpdpahkfkaaAscH
namespace Go.Proofs.Ytbbckpdpahkfkaa
open Go.RowKit
attribute [local go_sem] Oper.semAt_some

theorem putG_len (g : List Nat) : (putG g).length ≤ 5 := by
  unfold putG; split
  · simp
  · rw [List.length_take]; simp [fiveD]; omega
theorem putN_len (bs : List Nat) : ∀ m, (putN bs m).length ≤ 5 * m
  | 0 => by simp [putN]
  | m + 1 => by
    have h1 := putN_len bs m
    have h2 := putG_len (rowM bs 4 m)
    rw [putN, List.length_append]
    omega
theorem keeps_below {B : Nat} {W V : World} (h : Below W.heap.size W V) : KeepsFrom B W V :=
  ⟨h.size, fun i _ _ ho _ => (h.block i (Array.getElem?_eq_some_iff.1 ho).1).trans ho⟩
theorem IO.later {w W V : World} {L : Nat} {o : List Nat} {v : Value} (h : IO w L o W v) (hb : Below W.heap.size W V) : IO w L o V v :=
  ⟨(hb.block L h.row.lt).trans h.row, own_frame h.own (Fr.of_below hb) (fun g e => by have := (own_lt h.own e).2.1; omega), h.byte, h.below.trans (hb.mono h.below.size), Nat.le_trans h.size hb.size⟩
theorem slice5 (D k : Nat) (hk : k ≤ 5) (W : World) : (Instr.sliceAt 38 (.pointer (some ⟨D, 0, none⟩)) none (some (.int .i64 (k : Int))) none).run Try.prog W = .ok (.slice (some ⟨D, 0, none⟩) k 5) W := by
  have U : Try.prog.underlying 38 = some (.array (Try.prog.arrayLen 38) (Try.prog.elem 38)) := by kernel_rfl
  have S : (sizeOf (Try.prog.elem 38)).run Try.prog W = .ok 1 W := by kernel_rfl
  have E : Try.prog.arrayLen 38 = 5 := by kernel_rfl
  rw [run_sliceAt_array_h (ht := U) (h0 := by omega) (h2 := by rw [E]; omega), S, E]
  simp [Result.andThen, slicedAt, Addr.add]
theorem news_take {w : World} {ad : Addr} {l : List Value} (h : ∀ j u, l[j]? = some u → w.cell? (ad.add j) = some u) (k : Nat) : ∀ j u, (l.take k)[j]? = some u → w.cell? (ad.add j) = some u := fun j u hu => by
  refine h j u ?_
  rw [List.getElem?_take] at hu
  split at hu
  · exact hu
  · cases hu
theorem five_parts (n : Nat) : ∃ d0 d1 d2 d3 d4 : Nat, fiveD n = [d0, d1, d2, d3, d4] ∧ d0 < 256 ∧ d1 < 256 ∧ d2 < 256 ∧ d3 < 256 ∧ d4 < 256 := by
  refine ⟨_, _, _, _, _, rfl, ?_, ?_, ?_, ?_, ?_⟩ <;> omega
set_option maxRecDepth 100000 in
set_option maxHeartbeats 4000000 in
set_option pp.deepTerms true in
set_option pp.maxSteps 1000000 in
theorem put_any (A : Option Addr) (n c : Nat) (bs : List Nat) (w : World) (h : Bytes w A n c bs) (hn : n ≤ 100000) :
    Calls Try.prog 12 #[.slice A n c] w fun e w' => e = .returned (.string (strB (putS bs ++ [126, 62]))) ∧ Below w.heap.size w w' := by
  obtain rfl := h.len
  have HB := Lib.hid h
  clear h
  obtain ⟨q, hq⟩ : ∃ q, (bs.length + 3) / 4 = q := ⟨_, rfl⟩
  have HQ := Lib.hid hq
  clear hq
  refine (callsIn_wide (n := 3)).1 ?_
  refine callsIn_of_wp_marks Try.func12 rfl trivial ?_ rfl
  simp only [Try.ntmps12, List.size_toArray, List.length_cons, List.length_nil, Nat.reduceAdd, Nat.reduceSub, Array.replicate_succ, Array.replicate_zero, List.push_toArray, List.append_toArray, List.nil_append, List.cons_append]
  gi_wp2_with (refine ⟨trivial, ?_⟩; gi_at_call 18; refine (chunk_call _ open_wide _ _ _ _ 4 _ (by omega)).mono ?_; rintro e w' ⟨rfl, rfl⟩)
  obtain ⟨W0, hW0, hsz0, hI0, hT0⟩ := io_start w w A c 4 bs HB.out (Below.refl _ _)
  rw [show ((4 : Nat) : Int) = 4 from rfl] at hW0
  rw [hW0]
  clear hW0
  refine wpIn_iter rfl (by omega) (gf := 32) (lb := #[.pointer (some ⟨w.heap.size + 1, 0, none⟩), .pointer (some ⟨w.heap.size + 1 + 1, 0, none⟩)]) rfl trivial (enters_of Try.func32 (by kernel_rfl) rfl)
    (chunk_iter (w.heap.size + 1) (w.heap.size + 2) w.heap.size 2 A c 4 (by omega) bs (by omega) (by omega) (by omega)) ?hS (fun h k => KCh.trans h k) ?hKb ?hps ?hT ?hY
    (fun m W => m ≤ q ∧ ∃ v, IO w w.heap.size (putN bs m) W v) (fun _ _ _ => False) ?hI ?hIx ?hIS ?hIxS ?h0 ?hT0
    (fun vs => { tmps := #[.slice A bs.length c, undef, .string ⟨#[]⟩, .pointer (some ⟨w.heap.size, 0, none⟩), vs.getD 0 undef, undef, undef, .slice A bs.length c, .func (.func 32) #[] #[.pointer (some ⟨w.heap.size + 1, 0, none⟩), .pointer (some ⟨w.heap.size + 1 + 1, 0, none⟩)], vs.getD 0 undef, undef, undef, undef, undef, undef, undef, undef, undef, undef, undef, undef, undef, undef, undef, undef, undef, undef, undef, undef, undef, undef, undef, undef], defers := [] }) ?assign ?body ?done (fun _ _ _ _ _ h _ => h.elim)
  case hS => intro k hk; exact hk.elim
  case hKb => intro W l o o' hl ho _; exact fr_putObj o' ⟨by omega, by omega, by omega⟩
  case hps => rintro s vs t W ⟨_, _, R, o, e, _, rfl, _⟩; rfl
  case hT => intro s W W' row hs hg hr; exact hs.kept (Kept.of_grown hg hr (by omega))
  case hY => intro s vs t W l o o' hy _ hl ho; exact hy.put o' hl ho
  case hI => intro s W W' row hs hg hr; obtain ⟨h0, v, hi⟩ := hs; exact ⟨h0, v, hi.kept (Kept.of_grown hg hr (by omega)) (fun _ e => e.elim)⟩
  case hIx => intro c s W W' row hs hg hr; exact hs.elim
  case hIS => intro s W W' hs hf _; obtain ⟨h0, v, hi⟩ := hs; exact ⟨h0, v, hi.kept (Kept.of_fr hf (fun _ _ e => e)) (fun _ e => e.elim)⟩
  case hIxS => intro c s W W' hs hf _; exact hs.elim
  case h0 => exact ⟨Nat.zero_le _, _, hI0⟩
  case hT0 => exact hT0
  case assign =>
    intro l s vs t W K hy hK
    obtain ⟨_, _, R, o, e, he, rfl, _⟩ := hy
    clear he
    gi_wp2
    exact hK
  case body =>
    rintro l m vs t W ⟨hmq, v, hi⟩ ht ⟨hmk, rfl, R, o, e, he, rfl, hby, hRn⟩
    have hm2 : m < q := by have := HQ.out; omega
    obtain ⟨g, hg⟩ : ∃ g, rowM bs 4 m = g := ⟨_, rfl⟩
    rw [hg] at he hby
    have he14 : 1 ≤ e ∧ e ≤ 4 := by
      rw [he, ← hg]; unfold rowM; rw [List.length_take, List.length_drop]; omega
    have hpl := putN_len bs m
    obtain ⟨P, hP⟩ : ∃ P, putN bs m = P := ⟨_, rfl⟩
    rw [hP] at hpl hi
    have HPN := Lib.hid (show putN bs (m + 1) = P ++ putG g by rw [putN, hP, hg])
    have hPl : P.length ≤ 500000 := by have := HQ.out; omega
    obtain ⟨a0, ca, rfl⟩ := own_slice hi.own
    have cO := hi.row.cell
    have fO := hi.row.frozen
    have lO := hi.row.lt
    have hsW := hi.size
    have HI := Lib.hid hi
    obtain ⟨i0, hi0, hz0, hz1, hz2⟩ := info_parts info8
    have hbig := big_any R o e e g W hby he14.1 he14.2
    have hnl := num4_lt hby.byte
    have HG := Lib.hid (show num4 g = 0 ∧ e = 4 ∧ putG g = [122] ∨ ¬ (num4 g = 0 ∧ e = 4) ∧ putG g = (fiveD (num4 g)).take (e + 1) from by
      unfold putG
      rw [← he]
      by_cases h : num4 g = 0 ∧ e = 4
      · exact .inl ⟨h.1, h.2, if_pos h⟩
      · exact .inr ⟨h, if_neg h⟩)
    obtain ⟨N, hN⟩ : ∃ N, num4 g = N := ⟨_, rfl⟩
    rw [hN] at hbig hnl HG
    have HBIG := Lib.hid hbig
    clear hbig hi ht hby hg hP he hN hmk
    rcases HG.out with ⟨rfl, rfl, hG⟩ | ⟨hne, hG⟩
    · have HPG := Lib.hid hG
      have HP := Lib.hid (fun (v1 : Value) (w1 : World) (h1 : w1.ownsRow (w.heap.size + 3) 5 1 v1 (P.length + 1) (bvs P ++ bvs [122])) (h2 : (W.alloc (.cells #[.int .u8 122] 5)).grownBy w1 (Value.slice a0 P.length ca).ownBlock) => HI.out.push (B0 := W0.heap.size) ((Below.refl W.heap.size W).alloc (Nat.le_refl _) _) (r := [122]) rfl (fun x hx => by simp at hx; omega) (Nat.le_refl _) h1 h2 ((KeepsOthers.alloc W _).from W0.heap.size))
      clear hG HG
      gi_wp2_with (first
        | (refine ⟨trivial, ?_⟩; gi_at_call 19; refine ((open_round l).calls HBIG.out).mono ?_; rintro e w' ⟨rfl, rfl⟩)
        | (gi_at_builtin; refine wpListIn_append_own _ rfl _ _ 22 rfl (w.heap.size + 3) 5 i0 (.int .u8 0) 1 1 Try.underlying22 hi0 hz0 hz1 hz2 rfl (by decide) _ _ _ rfl (HI.out.own.alloc _) ⟨W.heap.size, 0, none⟩ 1 1 [.int .u8 122] rfl rfl (cell_one_new _ _ _) (by simp [Value.oneCell']) (by unfold maxLen; omega) (by omega) (by simp; omega) ?_; intro v4 w4 hown4 hgrow4 _; obtain ⟨a4, c4, rfl⟩ := own_slice hown4; have H4 := Lib.hid (HP.out _ w4 hown4 hgrow4); have hcr := H4.out.1.cell; have hfr := H4.out.1.frozen; clear hown4 hgrow4))
      have h5 := H4.out.2.2.2
      rw [← HPG.out, ← HPN.out] at h5
      exact ⟨H4.out.2.1, H4.out.2.2.1, by omega, _, h5⟩
    · obtain ⟨d0, d1, d2, d3, d4, hd, hd0, hd1, hd2, hd3, hd4⟩ := five_parts N
      have hgd : (((N : Int) == 0) = true ∧ ((e : Int) == 4) = false) ∨ ((N : Int) == 0) = false := by simp; omega
      have hdig := digits_any N
      rw [hd] at hG hdig
      have HDIG := Lib.hid (show ∀ V, Calls Try.prog 20 #[.int .i64 (N : Nat)] V fun e w' => e = .returned (.agg #[.int .u8 (d0 : Int), .int .u8 (d1 : Int), .int .u8 (d2 : Int), .int .u8 (d3 : Int), .int .u8 (d4 : Int)]) ∧ Below V.heap.size V w' from fun V => hdig V hnl)
      have HPG := Lib.hid hG
      have HP := Lib.hid (fun (k : Nat) (r : List Nat) (V1 : World) (hV1 : Below W.heap.size W V1) (v1 : Value) (w1 : World) (hk : k = r.length) (hr : ∀ x ∈ r, x < 256) (h1 : w1.ownsRow (w.heap.size + 3) 5 1 v1 (P.length + k) (bvs P ++ bvs r)) (h2 : V1.grownBy w1 (Value.slice a0 P.length ca).ownBlock) => HI.out.push (B0 := W0.heap.size) hV1 hk hr (Nat.le_refl _) h1 h2 (keeps_below hV1))
      clear hG HG hdig hd hne
      rcases hgd with ⟨hg1, hg2⟩ | hg1
      · gi_wp2_with (first
          | (refine ⟨trivial, ?_⟩; gi_at_call 19; refine ((open_round l).calls HBIG.out).mono ?_; rintro e w' ⟨rfl, rfl⟩)
          | (refine ⟨trivial, ?_⟩; gi_at_call 20; refine ((open_round l).calls (HDIG.out _)).mono ?_; rintro e V ⟨rfl, hbV⟩; have HBV := Lib.hid hbV; clear hbV))
        have hb1 : Below W.heap.size W (V.alloc (.cells (bvs [d0, d1, d2, d3, d4]).toArray 38)) := HBV.out.alloc HBV.out.size _
        obtain ⟨V1, hV1⟩ : ∃ V1, V.alloc (.cells (bvs [d0, d1, d2, d3, d4]).toArray 38) = V1 := ⟨_, rfl⟩
        have hV1' : V.alloc (.cells #[.int .u8 (d0 : Int), .int .u8 (d1 : Int), .int .u8 (d2 : Int), .int .u8 (d3 : Int), .int .u8 (d4 : Int)] 38) = V1 := hV1
        have hnw := World.news_of_block (hV1 ▸ heap_alloc_new V (.cells (bvs [d0, d1, d2, d3, d4]).toArray 38))
        rw [hV1] at hb1
        rw [hV1']
        have hIV := HI.out.later hb1
        have cV := hIV.row.cell
        have fV := hIV.row.frozen
        have lV := hIV.row.lt
        have HIV := Lib.hid hIV
        have HNW := Lib.hid hnw
        have HB1 := Lib.hid hb1
        have hsl : ∀ X : World, (Instr.sliceAt 38 (.pointer (some ⟨V.heap.size, 0, none⟩)) none (some (.int .i64 (IntKind.i64.wrap ((e : Int) + 1)))) none).run Try.prog X = .ok (.slice (some ⟨V.heap.size, 0, none⟩) (e + 1) 5) X := fun X => by
          rw [show IntKind.i64.wrap ((e : Int) + 1) = ((e + 1 : Nat) : Int) from by rw [IntWalk.i64_in _ (by omega)]; omega]
          exact slice5 _ _ (by omega) X
        clear hV1 hV1' hb1 hIV hnw cO fO lO
        refine region_round_lit l (by kernel_rfl) (by kernel_rfl) ?_
        refine wpAny_of_S (s := 5) (C := fun v => v.cell? ⟨w.heap.size, 0, none⟩ = some (.slice a0 P.length ca)) _ _ _ _ ?_
        refine wpAnyS_takeD (i := 1) (v := ?v10) rfl (by kernel_rfl) (fun _ _ _ h => by cases h.1) (Or.inl ⟨by rfl, ?y10⟩) cV ?r10
        case y10 => intro wq hq; (try dsimp only at hq); go_simp; try with_reducible rfl
        try simp only [Act.put, List.setIfInBounds_toArray, List.set_cons_zero, List.set_cons_succ]
        refine wpAnyS_takeD (i := 2) (v := ?v11) rfl (by kernel_rfl) (fun _ _ _ h => by cases h.1) (Or.inl ⟨by rfl, ?y11⟩) cV ?r11
        case y11 => intro wq hq; (try dsimp only at hq); go_simp; try with_reducible rfl
        try simp only [Act.put, List.setIfInBounds_toArray, List.set_cons_zero, List.set_cons_succ]
        refine wpAnyS_takeD (i := 3) (v := ?v12) rfl (by kernel_rfl) (fun _ _ _ h => by cases h.1) (Or.inl ⟨by rfl, ?y12⟩) cV ?r12
        case y12 => intro wq hq; (try dsimp only at hq); go_simp; try with_reducible rfl
        try simp only [Act.put, List.setIfInBounds_toArray, List.set_cons_zero, List.set_cons_succ]
        refine wpAnyS_takeD (i := 4) (v := ?v13) rfl (by kernel_rfl) (fun _ _ _ h => by cases h.1) (Or.inl ⟨by rfl, ?y13⟩) cV ?r13
        case y13 => intro wq hq; (try dsimp only at hq); go_simp; try with_reducible rfl
        try simp only [Act.put, List.setIfInBounds_toArray, List.set_cons_zero, List.set_cons_succ]
        refine wpAnyS_takeD (i := 0) (v := ?v14) rfl (by kernel_rfl) (fun _ _ _ h => by cases h.1) (Or.inl ⟨by rfl, ?y14⟩) cV ?r14
        case y14 => intro wq hq; (try dsimp only at hq); go_simp; try with_reducible rfl
        try simp only [Act.put, List.setIfInBounds_toArray, List.set_cons_zero, List.set_cons_succ]
        refine wpAnyS_one (j := 5) (by kernel_rfl) rfl (fun K hK => ?_)
        rw [if_pos (by rfl)]
        refine wp_append_own _ (.tmp 24) (.tmp 28) 22 rfl (w.heap.size + 3) 5 i0 (.int .u8 0) 1 1 Try.underlying22 hi0 hz0 hz1 hz2 rfl (by decide) (.slice a0 P.length ca) P.length _ rfl HIV.out.own.drew ⟨V.heap.size, 0, none⟩ (e + 1) 5 ((bvs [d0, d1, d2, d3, d4]).take (e + 1)) rfl (by rw [List.length_take, bvs_length]; simp; omega) (news_take HNW.out (e + 1)) (fun u hu => bvs_one _ u (List.mem_of_mem_take hu)) (by unfold maxLen; omega) (by omega) (by have := HIV.out.size; simpa using this) ?_
        intro v4 w4 hown4 hgrow4 _
        rw [show (bvs [d0, d1, d2, d3, d4]).take (e + 1) = bvs ([d0, d1, d2, d3, d4].take (e + 1)) from by unfold bvs; rw [List.map_take]] at hown4
        obtain ⟨a4, c4, rfl⟩ := own_slice hown4
        have H4 := Lib.hid (HP.out (e + 1) _ V1.drew HB1.out.drew _ w4 (by rw [List.length_take]; simp; omega) (fun x hx => by have := List.mem_of_mem_take hx; simp at this; omega) hown4 hgrow4)
        have hcr := H4.out.1.cell
        have hfr := H4.out.1.frozen
        clear hown4 hgrow4
        refine hK.out _ _ ⟨fun h => absurd rfl h, ?_⟩
        clear hK K
        try simp only [Act.put, List.setIfInBounds_toArray, List.set_cons_zero, List.set_cons_succ]
        refine wpAnyS_one (j := 6) (by kernel_rfl) rfl (fun K hK => ?_)
        go_simp
        refine hK.out _ _ ⟨(fun _ h => by cases h), ?_⟩
        clear hK K
        try simp only [Act.put, List.setIfInBounds_toArray, List.set_cons_zero, List.set_cons_succ]
        refine wpAnyS_done (by kernel_rfl) ⟨rfl, ?_⟩ _
        gi_wp2
        have h5 := H4.out.2.2.2
        rw [← HPG.out, ← HPN.out] at h5
        exact ⟨(by first | exact H4.out.2.1 | (rw [← hsz0]; exact H4.out.2.1)), H4.out.2.2.1, by omega, _, h5⟩
      · gi_wp2_with (first
          | (refine ⟨trivial, ?_⟩; gi_at_call 19; refine ((open_round l).calls HBIG.out).mono ?_; rintro e w' ⟨rfl, rfl⟩)
          | (refine ⟨trivial, ?_⟩; gi_at_call 20; refine ((open_round l).calls (HDIG.out _)).mono ?_; rintro e V ⟨rfl, hbV⟩; have HBV := Lib.hid hbV; clear hbV))
        have hb1 : Below W.heap.size W (V.alloc (.cells (bvs [d0, d1, d2, d3, d4]).toArray 38)) := HBV.out.alloc HBV.out.size _
        obtain ⟨V1, hV1⟩ : ∃ V1, V.alloc (.cells (bvs [d0, d1, d2, d3, d4]).toArray 38) = V1 := ⟨_, rfl⟩
        have hV1' : V.alloc (.cells #[.int .u8 (d0 : Int), .int .u8 (d1 : Int), .int .u8 (d2 : Int), .int .u8 (d3 : Int), .int .u8 (d4 : Int)] 38) = V1 := hV1
        have hnw := World.news_of_block (hV1 ▸ heap_alloc_new V (.cells (bvs [d0, d1, d2, d3, d4]).toArray 38))
        rw [hV1] at hb1
        rw [hV1']
        have hIV := HI.out.later hb1
        have cV := hIV.row.cell
        have fV := hIV.row.frozen
        have lV := hIV.row.lt
        have HIV := Lib.hid hIV
        have HNW := Lib.hid hnw
        have HB1 := Lib.hid hb1
        have hsl : ∀ X : World, (Instr.sliceAt 38 (.pointer (some ⟨V.heap.size, 0, none⟩)) none (some (.int .i64 (IntKind.i64.wrap ((e : Int) + 1)))) none).run Try.prog X = .ok (.slice (some ⟨V.heap.size, 0, none⟩) (e + 1) 5) X := fun X => by
          rw [show IntKind.i64.wrap ((e : Int) + 1) = ((e + 1 : Nat) : Int) from by rw [IntWalk.i64_in _ (by omega)]; omega]
          exact slice5 _ _ (by omega) X
        clear hV1 hV1' hb1 hIV hnw cO fO lO
        refine region_round_lit l (by kernel_rfl) (by kernel_rfl) ?_
        refine wpAny_of_S (s := 5) (C := fun v => v.cell? ⟨w.heap.size, 0, none⟩ = some (.slice a0 P.length ca)) _ _ _ _ ?_
        refine wpAnyS_takeD (i := 1) (v := ?v20) rfl (by kernel_rfl) (fun _ _ _ h => by cases h.1) (Or.inl ⟨by rfl, ?y20⟩) cV ?r20
        case y20 => intro wq hq; (try dsimp only at hq); go_simp; try with_reducible rfl
        try simp only [Act.put, List.setIfInBounds_toArray, List.set_cons_zero, List.set_cons_succ]
        refine wpAnyS_takeD (i := 2) (v := ?v21) rfl (by kernel_rfl) (fun _ _ _ h => by cases h.1) (Or.inl ⟨by rfl, ?y21⟩) cV ?r21
        case y21 => intro wq hq; (try dsimp only at hq); go_simp; try with_reducible rfl
        try simp only [Act.put, List.setIfInBounds_toArray, List.set_cons_zero, List.set_cons_succ]
        refine wpAnyS_takeD (i := 3) (v := ?v22) rfl (by kernel_rfl) (fun _ _ _ h => by cases h.1) (Or.inl ⟨by rfl, ?y22⟩) cV ?r22
        case y22 => intro wq hq; (try dsimp only at hq); go_simp; try with_reducible rfl
        try simp only [Act.put, List.setIfInBounds_toArray, List.set_cons_zero, List.set_cons_succ]
        refine wpAnyS_takeD (i := 4) (v := ?v23) rfl (by kernel_rfl) (fun _ _ _ h => by cases h.1) (Or.inl ⟨by rfl, ?y23⟩) cV ?r23
        case y23 => intro wq hq; (try dsimp only at hq); go_simp; try with_reducible rfl
        try simp only [Act.put, List.setIfInBounds_toArray, List.set_cons_zero, List.set_cons_succ]
        refine wpAnyS_takeD (i := 0) (v := ?v24) rfl (by kernel_rfl) (fun _ _ _ h => by cases h.1) (Or.inl ⟨by rfl, ?y24⟩) cV ?r24
        case y24 => intro wq hq; (try dsimp only at hq); go_simp; try with_reducible rfl
        try simp only [Act.put, List.setIfInBounds_toArray, List.set_cons_zero, List.set_cons_succ]
        refine wpAnyS_one (j := 5) (by kernel_rfl) rfl (fun K hK => ?_)
        rw [if_pos (by rfl)]
        refine wp_append_own _ (.tmp 24) (.tmp 28) 22 rfl (w.heap.size + 3) 5 i0 (.int .u8 0) 1 1 Try.underlying22 hi0 hz0 hz1 hz2 rfl (by decide) (.slice a0 P.length ca) P.length _ rfl HIV.out.own.drew ⟨V.heap.size, 0, none⟩ (e + 1) 5 ((bvs [d0, d1, d2, d3, d4]).take (e + 1)) rfl (by rw [List.length_take, bvs_length]; simp; omega) (news_take HNW.out (e + 1)) (fun u hu => bvs_one _ u (List.mem_of_mem_take hu)) (by unfold maxLen; omega) (by omega) (by have := HIV.out.size; simpa using this) ?_
        intro v4 w4 hown4 hgrow4 _
        rw [show (bvs [d0, d1, d2, d3, d4]).take (e + 1) = bvs ([d0, d1, d2, d3, d4].take (e + 1)) from by unfold bvs; rw [List.map_take]] at hown4
        obtain ⟨a4, c4, rfl⟩ := own_slice hown4
        have H4 := Lib.hid (HP.out (e + 1) _ V1.drew HB1.out.drew _ w4 (by rw [List.length_take]; simp; omega) (fun x hx => by have := List.mem_of_mem_take hx; simp at this; omega) hown4 hgrow4)
        have hcr := H4.out.1.cell
        have hfr := H4.out.1.frozen
        clear hown4 hgrow4
        refine hK.out _ _ ⟨fun h => absurd rfl h, ?_⟩
        clear hK K
        try simp only [Act.put, List.setIfInBounds_toArray, List.set_cons_zero, List.set_cons_succ]
        refine wpAnyS_one (j := 6) (by kernel_rfl) rfl (fun K hK => ?_)
        go_simp
        refine hK.out _ _ ⟨(fun _ h => by cases h), ?_⟩
        clear hK K
        try simp only [Act.put, List.setIfInBounds_toArray, List.set_cons_zero, List.set_cons_succ]
        refine wpAnyS_done (by kernel_rfl) ⟨rfl, ?_⟩ _
        gi_wp2
        have h5 := H4.out.2.2.2
        rw [← HPG.out, ← HPN.out] at h5
        exact ⟨(by first | exact H4.out.2.1 | (rw [← hsz0]; exact H4.out.2.1)), H4.out.2.2.1, by omega, _, h5⟩
  case done =>
    rintro D s W hD hDn ⟨hle, v, hi⟩ hK
    have hsq : s = q := by
      have hDn : bs.length ≤ s * 4 := hDn
      have := HQ.out
      omega
    subst hsq
    obtain ⟨a0, ca, rfl⟩ := own_slice hi.own
    have hcO := hi.row.cell
    have hlO := hi.row.lt
    have hpl := putN_len bs s
    have hs9 : s ≤ 30000 := by have := HQ.out; omega
    have hsz : (strB (putN bs s)).size ≤ 200000 := by rw [strB_size]; omega
    have hbel := below_put (.deferred none) hi.below (D := D) (by omega)
    have hown2 := ownsRow_putObj hi.own (.deferred none) hK rfl
    have hst := (own_read hi.own hi.byte).str
    have HF := Lib.hid (And.intro hbel (show putS bs = putN bs s by unfold putS; rw [HQ.out]))
    clear hi hDn hbel hown2
    gi_wp2
    refine ⟨by simp, .inl ⟨_, _, rfl, run_takeDeferred hK, ?_⟩⟩
    exact ⟨.string (strB (putN bs s) ++ ⟨#[126, 62]⟩), by simp [results, Try.results12, go_sem], by rw [HF.out.2, show (⟨#[126, 62]⟩ : ByteArray) = strB [126, 62] from rfl, strB_app], HF.out.1⟩
end Go.Proofs.Ytbbckpdpahkfkaa
