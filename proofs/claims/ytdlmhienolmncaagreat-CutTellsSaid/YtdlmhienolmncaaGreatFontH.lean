/- font: codes of bytes, bytes of codes. -/
import Derived.Test.YtdlmhienolmncaaGreatFontG
namespace Go.Proofs.YtdlmhienolmncaaGreat
open Go.RowKit

theorem bytesOf_cons (wd : Bool) (x : Int) (l : List Int) : bytesOf wd (x :: l) = bytes1 wd x ++ bytesOf wd l := by simp [bytesOf]
theorem ofNat_toNat (a : UInt8) : UInt8.ofNat a.toNat = a := UInt8.ofNat_toNat
theorem bytes_codes : ∀ (wd : Bool) (M : Nat) (l : List UInt8), l.length = sizeOfCodes wd * M → (bytesOf wd (codesOf (sizeOfCodes wd) M l)).map UInt8.ofNat = l ∧ ∀ x ∈ codesOf (sizeOfCodes wd) M l, codeB wd x = true
  | wd, 0, l, h => by
    obtain rfl : l = [] := List.eq_nil_of_length_eq_zero (by simpa using h)
    simp [codesOf, bytesOf]
  | false, M + 1, l, h => by
    match l, h with
    | [], h => simp [sizeOfCodes] at h
    | a :: l, h =>
      obtain ⟨i1, i2⟩ := bytes_codes false M l (by simp [sizeOfCodes] at h ⊢; omega)
      have ha := a.toNat_lt
      simp only [codesOf, sizeOfCodes, bytesOf_cons] at i1 i2 ⊢
      simp only [Bool.false_eq_true, if_false, List.take_succ_cons, List.take_zero, List.drop_succ_cons, List.drop_zero, valB, List.foldl_cons, List.foldl_nil, Nat.zero_mul, Nat.zero_add] at i1 i2 ⊢
      refine ⟨?_, ?_⟩
      · rw [List.map_append, i1]
        have e : ((a.toNat : Int) % 256).toNat = a.toNat := by omega
        simp [bytes1, e]
      · intro x hx
        rcases List.mem_cons.1 hx with rfl | hx
        · unfold codeB; rw [decide_eq_true_iff]; simp; omega
        · exact i2 x hx
  | true, M + 1, l, h => by
    match l, h with
    | [], h => simp [sizeOfCodes] at h
    | [a], h => simp [sizeOfCodes] at h; omega
    | a :: b :: l, h =>
      obtain ⟨i1, i2⟩ := bytes_codes true M l (by simp [sizeOfCodes] at h ⊢; omega)
      have ha := a.toNat_lt
      have hb := b.toNat_lt
      simp only [codesOf, sizeOfCodes, bytesOf_cons] at i1 i2 ⊢
      simp only [if_true, List.take_succ_cons, List.take_zero, List.drop_succ_cons, List.drop_zero, valB, List.foldl_cons, List.foldl_nil, Nat.zero_mul, Nat.zero_add] at i1 i2 ⊢
      refine ⟨?_, ?_⟩
      · rw [List.map_append, i1]
        have e1 : (((a.toNat * 256 + b.toNat : Nat) : Int) / 256).toNat = a.toNat := by omega
        have e2 : (((a.toNat * 256 + b.toNat : Nat) : Int) % 256).toNat = b.toNat := by omega
        unfold bytes1
        rw [if_pos rfl, e1, e2]
        simp
      · intro x hx
        rcases List.mem_cons.1 hx with rfl | hx
        · unfold codeB; rw [decide_eq_true_iff]; simp; omega
        · exact i2 x hx
theorem codes_bytes : ∀ (wd : Bool) (l : List Int), (∀ x ∈ l, codeB wd x = true) → codesOf (sizeOfCodes wd) l.length ((bytesOf wd l).map UInt8.ofNat) = l
  | _, [], _ => rfl
  | wd, x :: l, h => by
    have ih := codes_bytes wd l (fun y hy => h y (List.mem_cons_of_mem _ hy))
    obtain ⟨x0, x1, x2⟩ := codeB_in (h x (List.mem_cons_self ..))
    rw [bytesOf_cons, List.length_cons, codesOf, List.map_append]
    cases wd
    · have := x2 rfl
      simp only [sizeOfCodes, bytes1, Bool.false_eq_true, if_false, List.map_cons, List.map_nil, List.cons_append, List.nil_append, List.take_succ_cons, List.take_zero, List.drop_succ_cons, List.drop_zero] at ih ⊢
      rw [ih]
      congr 1
      simp [valB]
      omega
    · simp only [sizeOfCodes, bytes1, if_true, List.map_cons, List.map_nil, List.cons_append, List.nil_append, List.take_succ_cons, List.take_zero, List.drop_succ_cons, List.drop_zero] at ih ⊢
      rw [ih]
      congr 1
      simp [valB]
      omega
/-- What Codes answers: the error, the codes. -/
def codesE (wd : Bool) (ot : Int) (gs : List Gl) (s : ByteArray) : Int := if chkB wd ot gs then (if s.size % sizeOfCodes wd = 0 then 0 else 4) else 1
def codesL (wd : Bool) (ot : Int) (gs : List Gl) (s : ByteArray) : List Int := if codesE wd ot gs s = 0 then codesOf (sizeOfCodes wd) (s.size / sizeOfCodes wd) s.data.toList else []
/-- What Bytes answers. -/
def bytesS (wd : Bool) (ot : Int) (gs : List Gl) (l : List Int) : ByteArray := if chkC wd ot gs l = 0 then strB (bytesOf wd l) else ⟨#[]⟩
theorem codesE_zero {wd : Bool} {ot : Int} {gs : List Gl} {s : ByteArray} : codesE wd ot gs s = 0 ↔ chkB wd ot gs = true ∧ s.size % sizeOfCodes wd = 0 := by
  unfold codesE
  cases chkB wd ot gs
  · simp
  · by_cases h : s.size % sizeOfCodes wd = 0 <;> simp [h]
theorem chkC_zero {wd : Bool} {ot : Int} {gs : List Gl} {l : List Int} : chkC wd ot gs l = 0 ↔ chkB wd ot gs = true ∧ ∀ x ∈ l, codeB wd x = true := by
  constructor
  · intro h
    by_cases hk : (chkB wd ot gs && l.all (codeB wd)) = true
    · simp only [Bool.and_eq_true, List.all_eq_true] at hk
      exact hk
    · unfold chkC at h
      rw [if_neg hk] at h
      exact absurd h (by decide)
  · rintro ⟨h1, h2⟩
    exact chkC_t h1 h2
theorem strB_list (bs : List Nat) : (strB bs).data.toList = bs.map UInt8.ofNat := rfl
theorem strB_size (bs : List Nat) : (strB bs).size = bs.length := by
  have e : (strB bs).size = (bs.map UInt8.ofNat).length := rfl
  rw [e, List.length_map]
theorem size_list (s : ByteArray) : s.data.toList.length = s.size := Array.length_toList
theorem there_back {wd : Bool} {ot : Int} {gs : List Gl} {s : ByteArray} (h : codesE wd ot gs s = 0) : chkC wd ot gs (codesL wd ot gs s) = 0 ∧ bytesS wd ot gs (codesL wd ot gs s) = s := by
  obtain ⟨h1, h2⟩ := codesE_zero.1 h
  have hd := Nat.div_add_mod s.size (sizeOfCodes wd)
  have hl : s.data.toList.length = sizeOfCodes wd * (s.size / sizeOfCodes wd) := by rw [size_list]; omega
  obtain ⟨b1, b2⟩ := bytes_codes wd _ _ hl
  have e : codesL wd ot gs s = codesOf (sizeOfCodes wd) (s.size / sizeOfCodes wd) s.data.toList := if_pos h
  have e0 : chkC wd ot gs (codesL wd ot gs s) = 0 := chkC_zero.2 ⟨h1, by rw [e]; exact b2⟩
  refine ⟨e0, ?_⟩
  unfold bytesS
  rw [if_pos e0, e]
  unfold strB
  rw [b1]
theorem back_there {wd : Bool} {ot : Int} {gs : List Gl} {l : List Int} (h : chkC wd ot gs l = 0) : codesE wd ot gs (bytesS wd ot gs l) = 0 ∧ codesL wd ot gs (bytesS wd ot gs l) = l := by
  obtain ⟨h1, h2⟩ := chkC_zero.1 h
  have e : bytesS wd ot gs l = strB (bytesOf wd l) := if_pos h
  have hz := sz_two wd
  have hs : (bytesS wd ot gs l).size = sizeOfCodes wd * l.length := by rw [e, strB_size, bytesOf_length]
  have e0 : codesE wd ot gs (bytesS wd ot gs l) = 0 := codesE_zero.2 ⟨h1, by rw [hs]; exact Nat.mul_mod_right _ _⟩
  refine ⟨e0, ?_⟩
  unfold codesL
  rw [if_pos e0, hs, Nat.mul_div_cancel_left _ (by omega), e, strB_list]
  exact codes_bytes wd l h2
theorem ints_nil (w : World) : IntsAt w none 0 0 [] := ⟨rfl, by omega, by omega, fun h => absurd h (by omega)⟩
end Go.Proofs.YtdlmhienolmncaaGreat

