/- font: Bytes, for every font and codes. -/
import Derived.Test.YtldhkhaciflmoaaFontD
namespace Go.Proofs.Ytldhkhaciflmoaa
open Go.RowKit

/-- The text of bytes. -/
def strB (bs : List Nat) : ByteArray := ⟨(bs.map UInt8.ofNat).toArray⟩
theorem Bytes.str {w : World} {A : Option Addr} {n c : Nat} {bs : List Nat} (h : Bytes w A n c bs) : (convert 46 9 (.slice A n c)).run Try.prog w = .ok (.string (strB bs)) w := by
  have hl := h.len
  by_cases hn : n = 0
  · subst hn
    obtain rfl : bs = [] := List.eq_nil_of_length_eq_zero hl
    cases A with
    | none => exact run_convert_bytes_nil w _ _ Try.underlying46 Try.underlying5 0 c _ Try.underlying9
    | some a => exact run_convert_bytes_back w _ _ _ a c [] Try.underlying46 Try.underlying5 Try.underlying9 (fun j hj => by simp at hj)
  · obtain ⟨R, o, rfl, hR, hc⟩ := h.at_ (by omega)
    have := run_convert_bytes_back (P := Try.prog) w 46 9 5 ⟨R, o, none⟩ c (bs.map UInt8.ofNat) Try.underlying46 Try.underlying5 Try.underlying9 (fun j hj => by
      have hj' : j < bs.length := by simpa using hj
      have e2 : (⟨R, o, none⟩ : Addr).add j = ⟨R, o + j, none⟩ := by
        unfold Addr.add; by_cases h0 : j = 0 <;> simp [h0]
      have hb := h.byte bs[j] (List.getElem_mem hj')
      rw [e2, hc j bs[j] (List.getElem?_eq_getElem hj')]
      simp only [List.getElem_map, UInt8.toNat_ofNat']
      rw [Nat.mod_eq_of_lt hb])
    rw [List.length_map, hl] at this
    exact this
/-- The bytes of a code. -/
def bytes1 (wd : Bool) (x : Int) : List Nat := if wd then [(x / 256).toNat, (x % 256).toNat] else [(x % 256).toNat]
def bytesOf (wd : Bool) (l : List Int) : List Nat := l.flatMap (bytes1 wd)
theorem bytesOf_take {wd : Bool} {l : List Int} {k : Nat} {x : Int} (h : l[k]? = some x) : bytesOf wd (l.take (k + 1)) = bytesOf wd (l.take k) ++ bytes1 wd x := by
  obtain ⟨hi, e⟩ := List.getElem?_eq_some_iff.1 h
  rw [List.take_succ_eq_append_getElem hi, e]
  simp [bytesOf]
theorem codeB_in {wd : Bool} {x : Int} (h : codeB wd x = true) : 0 ≤ x ∧ x < 65536 ∧ (wd = false → x < 256) := by
  unfold codeB at h
  rw [decide_eq_true_iff] at h
  cases wd <;> simp at h ⊢ <;> omega
theorem bytes1_lt {wd : Bool} {x : Int} (h : codeB wd x = true) : ∀ b ∈ bytes1 wd x, b < 256 := by
  obtain ⟨h0, h1, h2⟩ := codeB_in h
  intro b hb
  cases wd <;> simp [bytes1] at hb
  · omega
  · omega
theorem bytesOf_lt {wd : Bool} {l : List Int} (h : ∀ x ∈ l, codeB wd x = true) : ∀ b ∈ bytesOf wd l, b < 256 := by
  intro b hb
  obtain ⟨x, hx, hb⟩ := List.mem_flatMap.1 hb
  exact bytes1_lt (h x hx) b hb
theorem bytesOf_length (wd : Bool) (l : List Int) : (bytesOf wd l).length = sizeOfCodes wd * l.length := by
  induction l with
  | nil => simp [bytesOf]
  | cons x l ih =>
    have : bytesOf wd (x :: l) = bytes1 wd x ++ bytesOf wd l := by simp [bytesOf]
    rw [this, List.length_append, ih]
    cases wd <;> simp [bytes1, sizeOfCodes] <;> omega
theorem chkC_t {wd : Bool} {ot : Int} {gs : List Gl} {l : List Int} (h : chkB wd ot gs = true) (h2 : ∀ x ∈ l, codeB wd x = true) : chkC wd ot gs l = 0 := by
  unfold chkC
  rw [h, if_pos]
  simpa using h2
theorem chkC_f {wd : Bool} {ot : Int} {gs : List Gl} {l : List Int} (h : ¬ (chkB wd ot gs = true ∧ ∀ x ∈ l, codeB wd x = true)) : chkC wd ot gs l = 1 := by
  unfold chkC
  rw [if_neg]
  intro e
  apply h
  simpa using e
set_option maxRecDepth 100000 in
set_option maxHeartbeats 4000000 in
theorem bytes_bad (wd : Bool) (A : Option Addr) (n c : Nat) (ot : Int) (gs : List Gl) (A2 : Option Addr) (n2 c2 : Nat) (l : List Int) (w : World) (h : Glyphs w A n c gs) (h2 : IntsAt w A2 n2 c2 l)
    (hk : ¬ (chkB wd ot gs = true ∧ ∀ x ∈ l, codeB wd x = true)) :
    Calls Try.prog 9 #[.agg #[.bool wd, .slice A n c, .int .i64 ot], .slice A2 n2 c2] w fun e w' => e = .returned (.tuple #[.string ⟨#[]⟩, .int .i64 1]) ∧ Below w.heap.size w w' := by
  have H := Lib.hid h
  have H2 := Lib.hid h2
  have HZ := Lib.hid (fun o : Obj => ((Below.refl w.heap.size w).alloc (Nat.le_refl _) o))
  have HK := Lib.hid (chkC_f hk)
  clear h h2 hk
  go_enter Try.func9, Try.ntmps9
  go_wp2_with fail
  refine (checkCodes_any _ _ _ _ _ gs _ _ _ l _ (H.out.below (HZ.out _)) (H2.out.below (HZ.out _))).mono ?_
  rintro e w1 ⟨rfl, hb⟩
  rw [HK.out]
  have HB := Lib.hid hb
  clear hb
  go_wp2
  go_ret2
  exact ⟨rfl, below_step (Below.refl _ _) (Nat.le_refl _) HB.out⟩
theorem own_snoc8 {w : World} {base n : Nat} {v : Value} {l : List Nat} {x : Int} {b : Nat} (h : w.ownsRow base 5 1 v n (bvs l ++ [.int .u8 x])) (hx : x = (b : Int)) (hn : n = l.length + 1 := by rfl) : w.ownsRow base 5 1 v (l.length + 1) (bvs (l ++ [b])) := by
  subst hn
  subst hx
  rw [bvs_append]
  exact h
theorem app_keeps {w wr w3 : World} {o : Obj} {v : Value} {n : Nat} {xs : List Value} {T : TypeId} {cs : Array Value} (hown : wr.ownsRow (w.heap.size + 1) 5 1 v n xs) (hb : Below w.heap.size w wr) (hf : Whole wr w.heap.size T cs) (hgrow : (wr.alloc o).grownBy w3 v.ownBlock) :
    Below w.heap.size w w3 ∧ Whole w3 w.heap.size T cs :=
  ⟨(hb.alloc hb.size o).grown hgrow (by have := hb.size; simp; omega) (fun j e => by have := (own_lt hown e).1; omega), (hf.old o).kept hgrow (fun e => by have := (own_lt hown e.symm).1; omega)⟩
/-- What Bytes answers where all are codes. -/
def BytesSaid (t : ByteArray) (w : World) (e : Ending) (w' : World) : Prop := e = .returned (.tuple #[.string t, .int .i64 0]) ∧ Below w.heap.size w w'
set_option maxRecDepth 100000 in
set_option maxHeartbeats 4000000 in
theorem bytes_good (wd : Bool) (A : Option Addr) (n c : Nat) (ot : Int) (gs : List Gl) (A2 : Option Addr) (n2 c2 : Nat) (l : List Int) (w : World) (h : Glyphs w A n c gs) (h2 : IntsAt w A2 n2 c2 l)
    (hk : chkB wd ot gs = true) (hl : ∀ x ∈ l, codeB wd x = true) (hn : l.length ≤ 1000000000) :
    Calls Try.prog 9 #[.agg #[.bool wd, .slice A n c, .int .i64 ot], .slice A2 n2 c2] w (BytesSaid (strB (bytesOf wd l)) w) := by
  obtain ⟨i0, hi, hz0, hz1, hz2⟩ := info_parts info8
  have hl2 := h2.len
  subst hl2
  have hcap := h2.cap
  have htop := h2.top
  have H := Lib.hid h
  have H2 := Lib.hid h2
  have HZ := Lib.hid (fun o : Obj => ((Below.refl w.heap.size w).alloc (Nat.le_refl _) o))
  have HK := Lib.hid (chkC_t hk hl)
  have HL := Lib.hid hl
  clear h h2 hk hl
  go_enter Try.func9, Try.ntmps9
  go_wp2_with fail
  refine (checkCodes_any _ _ _ _ _ gs _ _ _ l _ (H.out.below (HZ.out _)) (H2.out.below (HZ.out _))).mono ?_
  rintro e w1 ⟨rfl, hb⟩
  rw [HK.out]
  have hf1 : FB w1 w.heap.size wd A n c ot := (Whole.made w _ _).here hb
  have hb1 := below_step (Below.refl _ _) (Nat.le_refl _) hb
  have HB := Lib.hid (And.intro hb1 hf1)
  clear hb hb1 hf1
  go_wp2_with fail
  go_loopw [7, 18] (fun v i wr => ∃ k : Nat, k ≤ l.length ∧ i = .int .i64 k ∧ wr.ownsRow (w.heap.size + 1) 5 1 v (bytesOf wd (l.take k)).length (bvs (bytesOf wd (l.take k))) ∧ Below w.heap.size w wr ∧ FB wr w.heap.size wd A n c ot) (fun _ i _ => l.length - (intOf i).toNat)
  case atStart => exact ⟨0, by omega, rfl, by simpa [bytesOf, bvs] using World.ownsRow_nil _ _ _ _, HB.out.1, HB.out.2⟩
  case round =>
    obtain ⟨k, hk, rfl, hown, hb, hfb⟩ := hrel
    obtain ⟨a0, cc, rfl⟩ := own_slice hown
    obtain ⟨f0, f1, f2⟩ := hfb.cells
    have hsz := hfb.lt
    by_cases hlt : k < l.length
    · obtain ⟨x, hx⟩ : ∃ x, l[k]? = some x := ⟨_, List.getElem?_eq_getElem hlt⟩
      obtain ⟨R, o, rfl, hR, hc⟩ := (H2.out.below hb).at_ (by omega)
      have g0 := hc k x hx
      obtain ⟨x0, x1, x2⟩ := codeB_in (HL.out x (List.mem_of_getElem? hx))
      have HX := Lib.hid (bytesOf_take (wd := wd) hx)
      have hlen := bytesOf_length wd (l.take k)
      have hlen2 : (bytesOf wd (l.take k)).length ≤ 2000000000 := by
        rw [hlen, List.length_take]
        have := sz_two wd
        have : min k l.length ≤ 1000000000 := by omega
        rcases sz_two wd with e | e <;> rw [e] <;> omega
      have HF := Lib.hid (And.intro hown (And.intro hb hfb))
      clear hx hc hlen hown hb hfb
      generalize bytesOf wd (l.take k) = acc at *
      cases wd
      · have x3 := x2 rfl
        clear x2
        go_wp2_with (at_builtin; refine wpList_append_own _ rfl _ _ 46 rfl (w.heap.size + 1) 5 i0 (.int .u8 0) 1 1 Try.underlying46 hi hz0 hz1 hz2 rfl (by decide) _ _ _ rfl (HF.out.1.alloc _) ⟨wr.heap.size, 0, none⟩ 1 1 [.int .u8 (x % 256)] rfl rfl ?ca1 ?ca2 ?ca3 ?ca4 ?ca5 ?_)
        case ca1 => exact cell_one_new _ _ _
        case ca2 => simp [Value.oneCell']
        case ca3 => unfold maxLen; omega
        case ca4 => omega
        case ca5 => first | omega | (simp; omega)
        intro v' w3 hown' hgrow _
        obtain ⟨a1, c1, rfl⟩ := own_slice hown'
        obtain ⟨hb3, hf3⟩ := app_keeps HF.out.1 HF.out.2.1 HF.out.2.2 hgrow
        have ho3 := own_snoc8 (b := (x % 256).toNat) hown' (by omega)
        have HB3 := Lib.hid (And.intro ho3 (And.intro hb3 hf3))
        clear hown' hgrow hb3 hf3 ho3
        go_wp2_with fail
        refine ⟨⟨k + 1, by omega, by go_num, ?_, HB3.out.2.1, HB3.out.2.2⟩, by simp [intOf]; omega⟩
        rw [HX.out]
        have := HB3.out.1
        simpa [bytes1] using this
      · clear x2
        go_wp2_with (at_builtin; refine wpList_append_own _ rfl _ _ 46 rfl (w.heap.size + 1) 5 i0 (.int .u8 0) 1 1 Try.underlying46 hi hz0 hz1 hz2 rfl (by decide) _ _ _ rfl (HF.out.1.alloc _) ⟨wr.heap.size, 0, none⟩ 1 1 [.int .u8 (x / 256)] rfl rfl ?ca1 ?ca2 ?ca3 ?ca4 ?ca5 ?_)
        case ca1 => exact cell_one_new _ _ _
        case ca2 => simp [Value.oneCell']
        case ca3 => unfold maxLen; omega
        case ca4 => omega
        case ca5 => first | omega | (simp; omega)
        intro v' w3 hown' hgrow _
        obtain ⟨a1, c1, rfl⟩ := own_slice hown'
        obtain ⟨hb3, hf3⟩ := app_keeps HF.out.1 HF.out.2.1 HF.out.2.2 hgrow
        have ho3 := own_snoc8 (b := (x / 256).toNat) hown' (by omega)
        have hs3 := hf3.lt
        have HB3 := Lib.hid (And.intro ho3 (And.intro hb3 hf3))
        clear hown' hgrow hb3 hf3 ho3
        go_wp2_with (at_builtin; refine wpList_append_own _ rfl _ _ 46 rfl (w.heap.size + 1) 5 i0 (.int .u8 0) 1 1 Try.underlying46 hi hz0 hz1 hz2 rfl (by decide) _ _ _ rfl (HB3.out.1.alloc _) ⟨w3.heap.size, 0, none⟩ 1 1 [.int .u8 (x % 256)] rfl rfl ?cb1 ?cb2 ?cb3 ?cb4 ?cb5 ?_)
        case cb1 => exact cell_one_new _ _ _
        case cb2 => simp [Value.oneCell']
        case cb3 => unfold maxLen; omega
        case cb4 => omega
        case cb5 => first | omega | (simp; omega)
        intro v' w4 hown' hgrow _
        obtain ⟨a2, c2', rfl⟩ := own_slice hown'
        obtain ⟨hb4, hf4⟩ := app_keeps HB3.out.1 HB3.out.2.1 HB3.out.2.2 hgrow
        have ho4 := own_snoc8 (b := (x % 256).toNat) hown' (by omega) (by simp)
        have HB4 := Lib.hid (And.intro ho4 (And.intro hb4 hf4))
        clear hown' hgrow hb4 hf4 ho4
        go_wp2_with fail
        refine ⟨⟨k + 1, by omega, by go_num, ?_, HB4.out.2.1, HB4.out.2.2⟩, by simp [intOf]; omega⟩
        rw [HX.out]
        have := HB4.out.1
        simpa [bytes1] using this
    · obtain rfl : k = l.length := by omega
      rw [List.take_length] at hown
      obtain ⟨A', c', R, e, hR1, hR2, hrow⟩ := Row8.of_own hown (bytesOf_lt HL.out)
      injection e with e1 e2 e3
      subst e1
      subst e3
      have hcv := hrow.bytes.str
      have HB5 := Lib.hid hb
      rw [List.take_length]
      clear hown hrow hb hR1 hR2
      go_wp2_with fail
      go_ret2
      exact ⟨rfl, HB5.out⟩
end Go.Proofs.Ytldhkhaciflmoaa
