/- The writer's filled and Bytes once more: the writer is as it was; its Align. -/
import Derived.Test.YtpcofdhhnfichaaHBoolRow
import Derived.Deep.RegionLawGrows
namespace Go.Proofs.Ytpcofdhhnfichaa
open Go.RowKit

/-- A byte behind the bytes of a row, in its own block. -/
theorem row_put {w : World} {g cap base : Nat} {cur : Array Value} {bs : List Nat} {x : Nat} (hc : Whole w g 5 cur) (hb : base ≤ g) (hcs : cur.size = cap * 1) (htk : cur.toList.take (bs.length * 1) = bvs bs) (hroom : bs.length + 1 ≤ cap) (hm : cap ≤ maxLen)
    {w1 : World} {o : Obj} {y : Int} (hw1 : w1 = ((w.alloc o).drew).setCell ⟨g, bs.length, none⟩ (.int .u8 y)) (hy : y = (x : Int)) :
    w1.ownsRow base 5 1 (.slice (some ⟨g, 0, none⟩) bs.length cap) bs.length (bvs bs) ∧ w1.ownsRow base 5 1 (.slice (some ⟨g, 0, none⟩) (bs.length + 1) cap) (bs.length + 1) (bvs (bs ++ [x])) ∧ Fr (fun k => some k = some g) w w1 := by
  subst hw1 hy
  have h1 : Whole (((w.alloc o).drew).setCell ⟨g, bs.length, none⟩ (.int .u8 (x : Int))) g 5 (cur.setIfInBounds bs.length (.int .u8 (x : Int))) := ((hc.old _).drawn1).set _ _
  rw [Nat.mul_one] at htk hcs
  have hl : bs.length < cur.toList.length := by
    have e0 : cur.toList.length = cur.size := Array.length_toList
    omega
  have e1 : (cur.setIfInBounds bs.length (.int .u8 (x : Int))).toList.take bs.length = bvs bs := by
    rw [Array.toList_setIfInBounds, List.take_set_of_le (Nat.le_refl _), htk]
  have e2 : (cur.setIfInBounds bs.length (.int .u8 (x : Int))).toList.take (bs.length + 1) = bvs (bs ++ [x]) := by
    rw [List.take_succ_eq_append_getElem (by rw [Array.toList_setIfInBounds, List.length_set]; exact hl), e1, bvs_append]
    simp [bvs]
  refine ⟨⟨by rw [bvs_length, Nat.mul_one], .inr ⟨g, cap, _, rfl, hb, h1, by omega, hm, by simp; omega, by rw [Nat.mul_one]; exact e1⟩⟩,
    ⟨by rw [bvs_length, List.length_append, Nat.mul_one]; rfl, .inr ⟨g, cap, _, rfl, hb, h1, by omega, hm, by simp; omega, by rw [Nat.mul_one]; exact e2⟩⟩, ?_⟩
  exact Fr.set (S := fun k => some k = some g) (((Fr.refl _ _).alloc _).drew) (p := ⟨g, bs.length, none⟩) (fun _ => rfl) _
/-- What filled answers, and the writer is as it was. -/
def FilledKeep (B base : Nat) (v : Value) (M T : Nat) (w : World) (e : Ending) (w' : World) : Prop := FilledIs base v M T w e w' ∧ WD w' B base v M T ∧ ∀ v' g, e = .returned v' → v'.ownBlock = some g → v.ownBlock = some g ∨ w.heap.size ≤ g
set_option maxRecDepth 100000 in
set_option maxHeartbeats 4000000 in
theorem filled_keep (B base M T : Nat) (v : Value) (w : World) (h : WD w B base v M T) (hT : T ≤ 1000000000) :
    Calls Try.prog 37 #[.pointer (some ⟨B, 0, none⟩)] w (FilledKeep B base v M T w) := by
  have HWD := Lib.hid h
  obtain ⟨i0, hi, hz0, hz1, hz2⟩ := info_parts info8
  obtain ⟨word, held, bs, h, hh, rfl, rfl, hbase⟩ := h
  have H := Lib.hid h
  obtain ⟨c0, c1, c2, hf⟩ := h.cells
  have hw : word < 128 := Nat.lt_of_lt_of_le h.low (Nat.pow_le_pow_right (by omega) hh)
  have hB := h.whole.lt
  by_cases h0 : held = 0
  · obtain ⟨a0, cc, rfl⟩ := own_slice h.own
    subst h0
    have hq : word = 0 := by have := H.out.low; simpa using this
    have HQ := Lib.hid hq
    clear hq h hf
    go_enter Try.func37, Try.ntmps37
    go_wp2
    go_ret
    exact ⟨⟨_, bs, rfl, H.out.own, H.out.byte, by rw [HQ.out]; rfl, by omega, Fr.refl _ _⟩, HWD.out, fun v' g e hg => by cases e; exact .inl hg⟩
  have h1 : ((held : Int) == 0) = false := by simp; omega
  have hnum : num (bs ++ [word]) = num bs + 256 ^ bs.length * word := num_append bs word
  have hbyte : ∀ b ∈ bs ++ [word], b < 256 := by
    intro b hb
    rcases List.mem_append.1 hb with hb | hb
    · exact h.byte b hb
    · simp at hb; omega
  have hlen : (bs ++ [word]).length = (8 * bs.length + held + 7) / 8 := by simp; omega
  have hm : word % 256 = word := Nat.mod_eq_of_lt (by omega)
  have HN := Lib.hid (And.intro hnum (And.intro hbyte (And.intro hlen hm)))
  clear hnum hbyte hlen hm
  rcases h.own.2 with ⟨hv, hn0⟩ | ⟨g, cap, cur, hv, hg, hwg, hncap, hcapm, hcs, htk⟩
  · -- nothing has been written: a new row
    have HV := Lib.hid hv
    obtain rfl := HV.out
    have hn1 : bs.length ≤ 0 := by omega
    clear h hf hv hn0
    go_enter Try.func37, Try.ntmps37
    go_wp2_with fail
    go_region_law ((refine step_append_lies _ (by rfl) _ _ _ (by rfl) base 5 i0 (.int .u8 0) 1 1 Try.underlying35 hi hz0 hz1 hz2 rfl (by omega) (.slice none 0 0) bs.length (bvs bs) (by rfl) ((H.out.own.alloc _).drew) ⟨w.heap.size, 0, none⟩ 1 1 [.int .u8 ((word % 256 : Nat) : Int)] (by rfl) (by rfl) (World.news_of_block (cs := #[.int .u8 ((word % 256 : Nat) : Int)]) (t := 5) (fr := (0, 0)) (heap_alloc_new w _)) (by simp [Value.oneCell']) (by omega) (by unfold maxLen; omega) (by omega) (by simp; omega) (w.heap.size + 1) (by simp) ?_; intro g cap w1 hown1 hgrow hat hlt; have HG := Lib.hid (And.intro hown1 (And.intro hgrow hat)); clear hown1 hgrow hat hlt))
    all_goals
      go_wp2
      go_ret
      obtain ⟨hown1, hgrow, hat⟩ := HG.out
      rw [HN.out.2.2.2, show bvs bs ++ [Value.int .u8 (word : Int)] = bvs (bs ++ [word]) from (bvs_append bs [word]).symm] at hown1
      have hfr : Fr (fun k => some k = (Value.slice none 0 0).ownBlock) w w1 := ((Fr.refl _ _).alloc _).drew.grown hgrow (fun j e hj => e.symm)
      exact ⟨⟨_, bs ++ [word], rfl, by rw [List.length_append]; exact hown1, HN.out.2.1, HN.out.1, HN.out.2.2.1, hfr⟩, HWD.out.frame hfr (fun e => by cases e) (fun g e => by cases e), fun v' q e hq => by
        cases e
        have hq : some g = some q := hq
        injection hq with hq
        rcases hat with e2 | e2
        · cases e2
        · exact .inr (by omega)⟩
  · have HV := Lib.hid hv
    obtain rfl := HV.out
    have hgB : g ≠ B := h.apart rfl
    have hcur : Whole w g 5 cur := hwg
    have hgl := hcur.lt
    have hcell := hcur.reads
    have hfr := hcur.thawed
    have HC := Lib.hid (And.intro hcur (And.intro hcs htk))
    have hcm : cap ≤ 9223372036854775807 := by unfold maxLen at hcapm; omega
    have hg1 : g ≠ w.heap.size := by omega
    by_cases hroom : bs.length + 1 ≤ cap
    · have hsp : ∀ j, j < [Value.int .u8 ((word % 256 : Nat) : Int)].length → (((w.alloc (.cells #[.int .u8 ((word % 256 : Nat) : Int)] 5)).drew).cell? ⟨g, 0 + bs.length * 1 + j, none⟩).isSome = true ∧ ((w.alloc (.cells #[.int .u8 ((word % 256 : Nat) : Int)] 5)).drew).frozen? ⟨g, 0 + bs.length * 1 + j, none⟩ = false := by
        intro j hj
        have hj0 : j = 0 := by simpa using hj
        have hw2 : Whole ((w.alloc (.cells #[.int .u8 ((word % 256 : Nat) : Int)] 5)).drew) g 5 cur := (hcur.old _).drawn1
        refine ⟨?_, hw2.thawed _⟩
        rw [hw2.reads, Array.getElem?_eq_getElem (by omega)]
        rfl
      have HS := Lib.hid hsp
      clear h hf hv hwg hcur hcell hfr hcs htk hsp
      go_enter Try.func37, Try.ntmps37
      go_wp2_with fail
      go_region_law ((refine step_append_room (by rfl) _ _ _ (by rfl) 5 i0 1 Try.underlying35 hi hz1 g 0 bs.length cap (by rfl) ⟨w.heap.size, 0, none⟩ 1 1 [.int .u8 ((word % 256 : Nat) : Int)] (by rfl) (by rfl) (World.news_of_block (cs := #[.int .u8 ((word % 256 : Nat) : Int)]) (t := 5) (fr := (0, 0)) (heap_alloc_new w _)) (by simp [Value.oneCell']) hroom HS.out ?_))
      all_goals
        simp only [World.setCells]
        generalize hw1 : (World.setCell _ _ _) = w1
        obtain ⟨q1, q2, q3⟩ := row_put (x := word) HC.out.1 hg HC.out.2.1 HC.out.2.2 hroom hcapm hw1.symm (by omega)
        have HQ := Lib.hid (And.intro q1 (And.intro q2 q3))
        clear q1 q2 q3 hw1
        go_wp2
        go_ret
        exact ⟨⟨_, bs ++ [word], rfl, by rw [List.length_append]; exact HQ.out.2.1, HN.out.2.1, HN.out.1, HN.out.2.2.1, HQ.out.2.2⟩, ⟨word, held, bs, ⟨H.out.whole.frame HQ.out.2.2 (fun e => hgB (by injection e with e; exact e.symm)), HQ.out.1, H.out.byte, H.out.low⟩, ⟨hh, rfl, rfl, Nat.le_trans hbase HQ.out.2.2.size⟩⟩, fun v' q e hq => by cases e; exact .inl hq⟩
    · have holds : ∀ b, (some (⟨g, 0, none⟩ : Addr)) = some b → ∀ j u, (bvs bs)[j]? = some u → ((w.alloc (.cells #[.int .u8 ((word % 256 : Nat) : Int)] 5)).drew).cell? (b.add j) = some u := by
        intro b e j u hu
        injection e with e
        subst e
        have hw2 : Whole ((w.alloc (.cells #[.int .u8 ((word % 256 : Nat) : Int)] 5)).drew) g 5 cur := (hcur.old _).drawn1
        have e2 : (⟨g, 0, none⟩ : Addr).add j = ⟨g, j, none⟩ := by
          unfold Addr.add; by_cases h0 : j = 0 <;> simp [h0]
        have hj : j < bs.length := by
          have := (List.getElem?_eq_some_iff.1 hu).1
          rwa [bvs_length] at this
        rw [e2, hw2.reads]
        rw [← htk, List.getElem?_take, if_pos (by omega), Array.getElem?_toList] at hu
        exact hu
      have HO := Lib.hid holds
      clear h hf hv hwg hcur hcell hfr hcs htk holds
      go_enter Try.func37, Try.ntmps37
      go_wp2_with fail
      go_region_law ((refine step_append_grows (by rfl) _ _ _ (by rfl) 5 i0 (.int .u8 0) 1 1 Try.underlying35 hi hz0 hz1 hz2 rfl (by omega) (some ⟨g, 0, none⟩) bs.length cap (bvs bs) (by rfl) (fun e => by cases e) (by rw [bvs_length, Nat.mul_one]) HO.out ⟨w.heap.size, 0, none⟩ 1 1 [.int .u8 ((word % 256 : Nat) : Int)] (by rfl) (by rfl) (World.news_of_block (cs := #[.int .u8 ((word % 256 : Nat) : Int)]) (t := 5) (fr := (0, 0)) (heap_alloc_new w _)) (by simp [Value.oneCell']) (by omega) (by unfold maxLen; omega) (by omega) ?_; intro v' w1 hown1 hgrow; have HG := Lib.hid (And.intro hown1 hgrow); clear hown1 hgrow))
      all_goals
        go_wp2
        go_ret
        obtain ⟨hown1, hgrow⟩ := HG.out
        rw [HN.out.2.2.2, show bvs bs ++ [Value.int .u8 (word : Int)] = bvs (bs ++ [word]) from (bvs_append bs [word]).symm] at hown1
        have hfn : Fr (fun _ => False) w w1 := ((Fr.refl _ _).alloc _).drew.grown hgrow (fun j e _ => by cases e)
        have hfs : Fr (fun k => some k = some g) w w1 := hfn.more (fun _ _ e => e.elim)
        have hown2 := own_base hown1 (base' := base) (fun q e => Nat.le_trans hbase (Nat.le_trans (by simp) (own_lt hown1 e).1))
        exact ⟨⟨_, bs ++ [word], rfl, by rw [List.length_append]; exact hown2, HN.out.2.1, HN.out.1, HN.out.2.2.1, hfs⟩, HWD.out.frame hfn (fun e => e) (fun _ _ e => e), fun v2 q e hq => by cases e; exact .inr (Nat.le_trans (by simp) (own_lt hown1 hq).1)⟩
/-- What the writer's Bytes answers; the writer is as it was. -/
def WBytesK (B base M T : Nat) (v : Value) (w : World) (e : Ending) (w' : World) : Prop :=
  ∃ A c R bs, e = .returned (.slice A bs.length c) ∧ (bs ≠ [] → w.heap.size ≤ R ∧ R < w'.heap.size) ∧ Row8 w' R A bs.length c bs ∧ num bs = M ∧ bs.length = (T + 7) / 8 ∧ WD w' B base v M T ∧ Fr (fun k => some k = v.ownBlock) w w'
theorem wbytes_keep (B base M T : Nat) (v : Value) (w : World) (h : WD w B base v M T) (hT : T ≤ 1000000000) :
    Calls Try.prog 25 #[.pointer (some ⟨B, 0, none⟩)] w (WBytesK B base M T v w) := by
  have H := Lib.hid h
  clear h
  go_enter Try.func25, Try.ntmps25
  go_wp2_with fail
  refine (filled_keep B base M T v _ H.out hT).mono ?_
  rintro e w1 ⟨⟨v', bs, rfl, hown, hb, hn, hl, hf⟩, hwd, -⟩
  obtain ⟨A, c, rfl, hrow⟩ := own_bytes hown hb
  have HR := Lib.hid (And.intro hrow (And.intro hn (And.intro hl (And.intro hf hwd))))
  have hlen : bs.length ≤ 140737488355327 := by omega
  clear hown hb hn hl hf hrow hwd
  go_wp2_with fail
  refine (clone_any bs bs.length c A _ HR.out.1 hlen).mono ?_
  rintro e w2 ⟨A', c', R, rfl, h1, h2, hrow, hbel⟩
  have H2 := Lib.hid (And.intro h1 (And.intro h2 (And.intro hrow hbel)))
  clear h1 h2 hrow hbel
  go_wp2
  go_ret
  obtain ⟨-, hn, hl, hf, hwd⟩ := HR.out
  obtain ⟨h1, h2, hrow, hbel⟩ := H2.out
  have := hf.size
  have hBl : B < w1.heap.size := by obtain ⟨cs, k⟩ := hwd.whole; exact k.lt
  refine ⟨A', c', R, bs, rfl, fun hne => ?_, hrow, hn, hl, hwd.frame (Fr.of_below hbel) (by omega) (fun g hg => by have := (hwd.row hg).2.1; omega), hf.trans (Fr.of_below hbel) (fun j hj hle => by omega)⟩
  have := h2 (List.length_pos_iff.2 hne)
  omega
end Go.Proofs.Ytpcofdhhnfichaa
