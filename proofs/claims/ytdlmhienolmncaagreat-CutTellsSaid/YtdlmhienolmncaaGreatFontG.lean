/- font: Codes, for every font and text. -/
import Derived.Test.YtdlmhienolmncaaGreatFontC
import Derived.OwnWalk
import Derived.Maps.AppendAt
import Derived.Deep.RegionWith
namespace Go.Proofs.YtdlmhienolmncaaGreat
open Go.RowKit

/-- The number of some bytes, the highest one first. -/
def valB (l : List UInt8) : Nat := l.foldl (fun n b => n * 256 + b.toNat) 0
theorem valB_snoc (l : List UInt8) (b : UInt8) : valB (l ++ [b]) = valB l * 256 + b.toNat := by simp [valB]
theorem valB_take {l : List UInt8} {i : Nat} {b : UInt8} (h : l[i]? = some b) : valB (l.take (i + 1)) = valB (l.take i) * 256 + b.toNat := by
  obtain ⟨hi, e⟩ := List.getElem?_eq_some_iff.1 h
  rw [List.take_succ_eq_append_getElem hi, valB_snoc, e]
theorem valB_lt : ∀ (l : List UInt8) (i : Nat), valB (l.take i) < 256 ^ i
  | _, 0 => by simp [valB]
  | l, i + 1 => by
    have ih := valB_lt l i
    cases h : l[i]? with
    | none =>
      have hl : l.length ≤ i := by simpa using h
      rw [List.take_of_length_le (by omega)]
      rw [List.take_of_length_le hl] at ih
      rw [Nat.pow_succ]
      omega
    | some b =>
      rw [valB_take h, Nat.pow_succ]
      have := b.toNat_lt
      omega
theorem u8_lt (b : UInt8) : b.toNat < 256 := b.toNat_lt
/-- The first k codes of so many bytes each. -/
def codesOf (sz : Nat) : Nat → List UInt8 → List Int
  | 0, _ => []
  | k + 1, l => (valB (l.take sz) : Int) :: codesOf sz k (l.drop sz)
theorem codesOf_length (sz : Nat) : ∀ (k : Nat) (l : List UInt8), (codesOf sz k l).length = k
  | 0, _ => rfl
  | k + 1, l => by simp [codesOf, codesOf_length sz k]
theorem sz_two (wd : Bool) : sizeOfCodes wd = 1 ∨ sizeOfCodes wd = 2 := by cases wd <;> simp [sizeOfCodes]
/-- What Codes answers where there are codes. -/
def CodesSaid (L : List Int) (w : World) (e : Ending) (w' : World) : Prop :=
  ∃ A n c, e = .returned (.tuple #[.slice A n c, .int .i64 0]) ∧ IntsAt w' A n c L ∧ Below w.heap.size w w'
theorem mod_spell (s : ByteArray) (m sz : Nat) (h : s.size = sz * m) : ((s.size : Int) % (sz : Int) == 0) = true := by
  rw [beq_iff_eq, h]
  push_cast
  exact Int.mul_emod_right _ _
theorem own_slice {w : World} {base : Nat} {e : TypeId} {size : Nat} {v : Value} {n : Nat} {xs : List Value} (h : w.ownsRow base e size v n xs) : ∃ a c, v = .slice a n c := by
  obtain ⟨hl, h⟩ := h
  rcases h with ⟨rfl, rfl⟩ | ⟨g, cap, cur, rfl, _⟩
  · refine ⟨none, 0, ?_⟩
    simp at hl
    try rw [← hl]
    try simp
    try omega
  · exact ⟨_, _, rfl⟩
/-- How many bytes a string has. -/
def strLen : Value → Nat
  | .string t => t.size
  | _ => 0
theorem own_snoc {w : World} {base n : Nat} {v : Value} {l : List Int} {x : Int} (h : w.ownsRow base 3 1 v n (ivs l ++ [.int .i64 x])) (hn : n = l.length + 1) : w.ownsRow base 3 1 v (l ++ [x]).length (ivs (l ++ [x])) := by
  subst hn
  rw [ivs_append, List.length_append]
  exact h
theorem extract_rest (t : ByteArray) (z : Nat) : (t.extract z t.size).data.toList = t.data.toList.drop z := by
  rw [ByteArray.data_extract, Array.toList_extract]
  simp [List.extract]
  rw [List.take_of_length_le]
  simp
end Go.Proofs.YtdlmhienolmncaaGreat

/- font: Bytes, for every font and codes. -/
namespace Go.Proofs.YtdlmhienolmncaaGreat
open Go.RowKit

/-- The text of bytes. -/
def strB (bs : List Nat) : ByteArray := ⟨(bs.map UInt8.ofNat).toArray⟩
theorem Bytes.str {w : World} {A : Option Addr} {n c : Nat} {bs : List Nat} (h : Bytes w A n c bs) : (convert 121 9 (.slice A n c)).run Tryz.prog w = .ok (.string (strB bs)) w := by
  have hl := h.len
  by_cases hn : n = 0
  · subst hn
    obtain rfl : bs = [] := List.eq_nil_of_length_eq_zero hl
    cases A with
    | none => exact run_convert_bytes_nil w _ _ Tryz.underlying121 Tryz.underlying5 0 c _ Tryz.underlying9
    | some a => exact run_convert_bytes_back w _ _ _ a c [] Tryz.underlying121 Tryz.underlying5 Tryz.underlying9 (fun j hj => by simp at hj)
  · obtain ⟨R, o, rfl, hR, hc⟩ := h.at_ (by omega)
    have := run_convert_bytes_back (P := Tryz.prog) w 121 9 5 ⟨R, o, none⟩ c (bs.map UInt8.ofNat) Tryz.underlying121 Tryz.underlying5 Tryz.underlying9 (fun j hj => by
      have hj' : j < bs.length := by simpa using hj
      have e2 : (⟨R, o, none⟩ : Addr).add j = ⟨R, o + j, none⟩ := by
        unfold Addr.add; by_cases h0 : j = 0 <;> simp [h0]
      have hb := h.byte bs[j] (List.getElem_mem hj')
      rw [e2, hc j bs[j] (List.getElem?_eq_getElem hj')]
      simp only [List.getElem_map, UInt8.toNat_ofNat']
      rw [Nat.mod_eq_of_lt hb])
    rw [List.length_map, hl] at this
    exact this
/-- The bytes of a code. -/
def bytes1 (wd : Bool) (x : Int) : List Nat := if wd then [(x / 256).toNat, (x % 256).toNat] else [(x % 256).toNat]
def bytesOf (wd : Bool) (l : List Int) : List Nat := l.flatMap (bytes1 wd)
theorem bytesOf_take {wd : Bool} {l : List Int} {k : Nat} {x : Int} (h : l[k]? = some x) : bytesOf wd (l.take (k + 1)) = bytesOf wd (l.take k) ++ bytes1 wd x := by
  obtain ⟨hi, e⟩ := List.getElem?_eq_some_iff.1 h
  rw [List.take_succ_eq_append_getElem hi, e]
  simp [bytesOf]
theorem codeB_in {wd : Bool} {x : Int} (h : codeB wd x = true) : 0 ≤ x ∧ x < 65536 ∧ (wd = false → x < 256) := by
  unfold codeB at h
  rw [decide_eq_true_iff] at h
  cases wd <;> simp at h ⊢ <;> omega
theorem bytes1_lt {wd : Bool} {x : Int} (h : codeB wd x = true) : ∀ b ∈ bytes1 wd x, b < 256 := by
  obtain ⟨h0, h1, h2⟩ := codeB_in h
  intro b hb
  cases wd <;> simp [bytes1] at hb
  · omega
  · omega
theorem bytesOf_lt {wd : Bool} {l : List Int} (h : ∀ x ∈ l, codeB wd x = true) : ∀ b ∈ bytesOf wd l, b < 256 := by
  intro b hb
  obtain ⟨x, hx, hb⟩ := List.mem_flatMap.1 hb
  exact bytes1_lt (h x hx) b hb
theorem bytesOf_length (wd : Bool) (l : List Int) : (bytesOf wd l).length = sizeOfCodes wd * l.length := by
  induction l with
  | nil => simp [bytesOf]
  | cons x l ih =>
    have : bytesOf wd (x :: l) = bytes1 wd x ++ bytesOf wd l := by simp [bytesOf]
    rw [this, List.length_append, ih]
    cases wd <;> simp [bytes1, sizeOfCodes] <;> omega
theorem chkC_t {wd : Bool} {ot : Int} {gs : List Gl} {l : List Int} (h : chkB wd ot gs = true) (h2 : ∀ x ∈ l, codeB wd x = true) : chkC wd ot gs l = 0 := by
  unfold chkC
  rw [h, if_pos]
  simpa using h2
theorem chkC_f {wd : Bool} {ot : Int} {gs : List Gl} {l : List Int} (h : ¬ (chkB wd ot gs = true ∧ ∀ x ∈ l, codeB wd x = true)) : chkC wd ot gs l = 1 := by
  unfold chkC
  rw [if_neg]
  intro e
  apply h
  simpa using e
theorem own_snoc8 {w : World} {base n : Nat} {v : Value} {l : List Nat} {x : Int} {b : Nat} (h : w.ownsRow base 5 1 v n (bvs l ++ [.int .u8 x])) (hx : x = (b : Int)) (hn : n = l.length + 1 := by rfl) : w.ownsRow base 5 1 v (l.length + 1) (bvs (l ++ [b])) := by
  subst hn
  subst hx
  rw [bvs_append]
  exact h
theorem app_keeps {w wr w3 : World} {o : Obj} {v : Value} {n : Nat} {xs : List Value} {T : TypeId} {cs : Array Value} (hown : wr.ownsRow (w.heap.size + 1) 5 1 v n xs) (hb : Below w.heap.size w wr) (hf : Whole wr w.heap.size T cs) (hgrow : (wr.alloc o).grownBy w3 v.ownBlock) :
    Below w.heap.size w w3 ∧ Whole w3 w.heap.size T cs :=
  ⟨(hb.alloc hb.size o).grown hgrow (by have := hb.size; simp; omega) (fun j e => by have := (own_lt hown e).1; omega), (hf.old o).kept hgrow (fun e => by have := (own_lt hown e.symm).1; omega)⟩
/-- What Bytes answers where all are codes. -/
def BytesSaid (t : ByteArray) (w : World) (e : Ending) (w' : World) : Prop := e = .returned (.tuple #[.string t, .int .i64 0]) ∧ Below w.heap.size w w'
end Go.Proofs.YtdlmhienolmncaaGreat

/- font: Find at the document's example; the document's examples. -/
namespace Go.Proofs.YtdlmhienolmncaaGreat
open Go.RowKit

theorem results_find (tmps : Array Value) (w : World) (g : Nat) (a b c : Value) (hp : tmps.getD 4 undef = .pointer (some ⟨g, 0, none⟩)) (h0 : w.cell? ⟨g, 0, none⟩ = some a) (h1 : w.cell? ⟨g, 1, none⟩ = some b) (h2 : w.cell? ⟨g, 2, none⟩ = some c) :
    (results Tryz.f72 tmps).run Tryz.prog w = .ok (.agg #[a, b, c]) w := by
  have hp' : tmps[4]?.getD undef = .pointer (some ⟨g, 0, none⟩) := by simpa using hp
  simp [results, Tryz.results72, hp', asAddr, go_sem, h0, h1, h2]
/-- One glyph of the code 65, 500 wide, without a text. -/
def One65 (w : World) (R : Nat) : Prop := Whole w R 73 #[.int .i64 65, .int .i64 500, .string ⟨#[]⟩]
set_option maxRecDepth 100000 in
set_option maxHeartbeats 4000000 in
theorem find65 (R : Nat) (w : World) (h : One65 w R) :
    Calls Tryz.prog 72 #[.agg #[.bool false, .slice (some ⟨R, 0, none⟩) 1 1, .int .i64 0], .int .i64 65] w fun e w' => e = .returned (.agg #[.int .i64 65, .int .i64 500, .string ⟨#[]⟩]) ∧ Below w.heap.size w w' := by
  have g0 : w.cell? ⟨R, 0, none⟩ = some (.int .i64 65) := by rw [h.reads]; rfl
  have g1 : w.cell? ⟨R, 1, none⟩ = some (.int .i64 500) := by rw [h.reads]; rfl
  have g2 : w.cell? ⟨R, 2, none⟩ = some (.string ⟨#[]⟩) := by rw [h.reads]; rfl
  have hR := h.lt
  clear h
  go_enter Tryz.func72, Tryz.ntmps72
  go_wp2
  refine wp_loop_rounds 1 ?_
  rw [rounds_succ]
  go_wp2_with fail
  refine bodyPost_ret (v := .agg #[.int .i64 65, .int .i64 500, .string ⟨#[]⟩]) ?_ rfl ⟨rfl, ?_⟩
  · exact results_find _ _ (w.heap.size + 1) _ _ _ rfl (by go_simp) (by go_simp) (by go_simp)
  · (repeat (first | with_reducible exact Below.refl _ _ | with_reducible refine Below.drew ?_ | with_reducible refine bdrewN ?_ _ | (with_reducible refine Below.setCell ?_ ?_ _; rotate_left; focus (first | exact Nat.le_refl _ | omega | (simp; omega) | (simp; done))) | (with_reducible refine Below.alloc ?_ ?_ _; rotate_left; focus (first | exact Nat.le_refl _ | omega | (simp; omega) | (simp; done))) | (with_reducible refine Below.trans ?_ (Below.mono (by assumption) ?_); rotate_left; focus (first | exact Nat.le_refl _ | omega | (simp; omega) | (simp; done)))))
set_option maxRecDepth 100000 in
set_option maxHeartbeats 4000000 in
theorem find66 (R : Nat) (w : World) (h : One65 w R) :
    Calls Tryz.prog 72 #[.agg #[.bool false, .slice (some ⟨R, 0, none⟩) 1 1, .int .i64 0], .int .i64 66] w fun e w' => e = .returned (.agg #[.int .i64 66, .int .i64 0, .string ⟨#[]⟩]) ∧ Below w.heap.size w w' := by
  have g0 : w.cell? ⟨R, 0, none⟩ = some (.int .i64 65) := by rw [h.reads]; rfl
  have g1 : w.cell? ⟨R, 1, none⟩ = some (.int .i64 500) := by rw [h.reads]; rfl
  have g2 : w.cell? ⟨R, 2, none⟩ = some (.string ⟨#[]⟩) := by rw [h.reads]; rfl
  have hR := h.lt
  clear h
  go_enter Tryz.func72, Tryz.ntmps72
  go_wp2
  refine wp_loop_rounds 2 ?_
  rw [rounds_succ]
  go_wp2_with fail
  rw [rounds_succ]
  go_wp2_with fail
  refine bodyPost_ret (v := .agg #[.int .i64 66, .int .i64 0, .string ⟨#[]⟩]) ?_ rfl ⟨rfl, ?_⟩
  · exact results_find _ _ (w.heap.size + 1) _ _ _ rfl (by go_simp) (by go_simp) (by go_simp)
  · (repeat (first | with_reducible exact Below.refl _ _ | with_reducible refine Below.drew ?_ | with_reducible refine bdrewN ?_ _ | (with_reducible refine Below.setCell ?_ ?_ _; rotate_left; focus (first | exact Nat.le_refl _ | omega | (simp; omega) | (simp; done))) | (with_reducible refine Below.alloc ?_ ?_ _; rotate_left; focus (first | exact Nat.le_refl _ | omega | (simp; omega) | (simp; done))) | (with_reducible refine Below.trans ?_ (Below.mono (by assumption) ?_); rotate_left; focus (first | exact Nat.le_refl _ | omega | (simp; omega) | (simp; done)))))
end Go.Proofs.YtdlmhienolmncaaGreat
/- font: the document's examples. -/
namespace Go.Proofs.YtdlmhienolmncaaGreat
open Go.RowKit

theorem glyphs_nil (w : World) : Glyphs w none 0 0 [] := ⟨rfl, by omega, by omega, fun g h => by simp at h, fun h => absurd h (by omega)⟩
theorem pair_ints {w : World} {g : Nat} {a b : Int} (h : Whole w g 3 #[.int .i64 a, .int .i64 b]) : IntsAt w (some ⟨g, 0, none⟩) 2 2 [a, b] :=
  ⟨rfl, by omega, by omega, fun _ => ⟨g, 0, rfl, h.lt, fun i x hx => by
    rw [h.reads]
    match i, hx with
    | 0, hx => simp at hx; subst hx; rfl
    | 1, hx => simp at hx; subst hx; rfl
    | i + 2, hx => simp at hx⟩⟩
end Go.Proofs.YtdlmhienolmncaaGreat

