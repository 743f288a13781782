/- font: what a text of pairs of bytes says as a text of Go's own (pure lists). -/
import Derived.Test.YtdlmhienolmncaaGreatFontG
import Derived.Lib.RuneBytes
namespace Go.Proofs.YtdlmhienolmncaaGreat
open Go.RowKit

/-- The bytes of one sign. -/
def putU (n : Nat) : List Nat :=
  if n < 128 then [n] else if n < 2048 then [192 + n / 64, 128 + n % 64] else if n < 65536 then [224 + n / 4096, 128 + n / 64 % 64, 128 + n % 64]
  else [240 + n / 262144, 128 + n / 4096 % 64, 128 + n / 64 % 64, 128 + n % 64]
theorem putU_lt {n : Nat} (h : n < 1114112) : ∀ b ∈ putU n, b < 256 := by
  intro b hb
  unfold putU at hb
  split at hb
  · simp at hb; omega
  · split at hb
    · simp at hb; omega
    · split at hb
      · simp at hb; omega
      · simp at hb; omega
theorem putU_length (n : Nat) : 1 ≤ (putU n).length ∧ (putU n).length ≤ 4 := by
  unfold putU
  split
  · simp
  · split
    · simp
    · split <;> simp
theorem putU_rune {n : Nat} (h : n < 55296 ∨ 57343 < n) (ht : n < 1114112) : Lib.runeCells (n : Int) = bvs (putU n) := by
  unfold putU Lib.runeCells bvs
  by_cases h1 : n < 128
  · rw [if_pos h1, Lib.encodeRuneZ_one (by omega) (by omega)]; rfl
  · rw [if_neg h1]
    by_cases h2 : n < 2048
    · rw [if_pos h2, Lib.encodeRuneZ_two (by omega) (by omega)]; simp
    · rw [if_neg h2]
      by_cases h3 : n < 65536
      · rw [if_pos h3, Lib.encodeRuneZ_three (by omega)]; simp
      · rw [if_neg h3, Lib.encodeRuneZ_four (by omega) (by omega)]; simp
/-- The number of the first two bytes. -/
def hiU (l : List UInt8) : Nat := 256 * (l.getD 0 0).toNat + (l.getD 1 0).toNat
theorem hiU_lt (l : List UInt8) : hiU l < 65536 := by
  have := (l.getD 0 0).toNat_lt
  have := (l.getD 1 0).toNat_lt
  unfold hiU
  omega
theorem hiU_at {l : List UInt8} {k : Nat} {a b : UInt8} (h : l[k]? = some a) (h2 : l[k + 1]? = some b) : hiU (l.drop k) = 256 * a.toNat + b.toNat := by
  unfold hiU
  rw [List.getD_eq_getElem?_getD, List.getD_eq_getElem?_getD, List.getElem?_drop, List.getElem?_drop, Nat.add_zero, h, h2]
  rfl
/-- What pairs of bytes say: nothing where they are no text. The first number tells how many steps are taken. -/
def textN : Nat → List UInt8 → Option (List Nat)
  | 0, l => if l.length = 0 then some [] else none
  | k + 1, l =>
    if l.length = 0 then some [] else if l.length < 2 then none
    else if hiU l < 55296 ∨ 57343 < hiU l then (textN k (l.drop 2)).map (putU (hiU l) ++ ·)
    else if 56319 < hiU l ∨ l.length < 4 ∨ hiU (l.drop 2) < 56320 ∨ 57343 < hiU (l.drop 2) then none
    else (textN k (l.drop 4)).map (putU (65536 + 1024 * (hiU l - 55296) + hiU (l.drop 2) - 56320) ++ ·)
theorem textN_more : ∀ (k m : Nat) (l : List UInt8), l.length ≤ k → l.length ≤ m → textN k l = textN m l
  | 0, 0, _, _, _ => rfl
  | 0, _ + 1, l, h, _ => by
    have : l.length = 0 := by omega
    simp only [textN, if_pos this]
  | _ + 1, 0, l, _, h => by
    have : l.length = 0 := by omega
    simp only [textN, if_pos this]
  | k + 1, m + 1, l, h, h' => by
    rw [textN, textN, textN_more k m (l.drop 2) (by rw [List.length_drop]; omega) (by rw [List.length_drop]; omega), textN_more k m (l.drop 4) (by rw [List.length_drop]; omega) (by rw [List.length_drop]; omega)]
def textU (l : List UInt8) : Option (List Nat) := textN l.length l
theorem textU_eq (l : List UInt8) : textU l =
    if l.length = 0 then some [] else if l.length < 2 then none
    else if hiU l < 55296 ∨ 57343 < hiU l then (textU (l.drop 2)).map (putU (hiU l) ++ ·)
    else if 56319 < hiU l ∨ l.length < 4 ∨ hiU (l.drop 2) < 56320 ∨ 57343 < hiU (l.drop 2) then none
    else (textU (l.drop 4)).map (putU (65536 + 1024 * (hiU l - 55296) + hiU (l.drop 2) - 56320) ++ ·) := by
  unfold textU
  rw [textN_more l.length (l.length + 1) l (Nat.le_refl _) (by omega), textN, textN_more l.length (l.drop 2).length (l.drop 2) (by rw [List.length_drop]; omega) (Nat.le_refl _), textN_more l.length (l.drop 4).length (l.drop 4) (by rw [List.length_drop]; omega) (Nat.le_refl _)]
/-- A text of an odd number of bytes says nothing. -/
theorem textU_odd : ∀ (n : Nat) (l : List UInt8), l.length ≤ n → l.length % 2 = 1 → textU l = none
  | 0, l, h, ho => by omega
  | n + 1, l, h, ho => by
    rw [textU_eq, if_neg (by omega)]
    by_cases h2 : l.length < 2
    · rw [if_pos h2]
    · rw [if_neg h2, textU_odd n (l.drop 2) (by rw [List.length_drop]; omega) (by rw [List.length_drop]; omega)]
      by_cases h4 : l.length < 4
      · simp [h4]
      · rw [textU_odd n (l.drop 4) (by rw [List.length_drop]; omega) (by rw [List.length_drop]; omega)]
        simp
theorem map_app {o : Option (List Nat)} {p q : List Nat} : (o.map (q ++ ·)).map (p ++ ·) = o.map ((p ++ q) ++ ·) := by cases o <;> simp
/-- What the rest says, behind what has been said. -/
def restU (acc : List Nat) (l : List UInt8) : Option (List Nat) := (textU l).map (acc ++ ·)
theorem restU_plain {l : List UInt8} {acc : List Nat} (h : 2 ≤ l.length) (hp : hiU l < 55296 ∨ 57343 < hiU l) : restU acc l = restU (acc ++ putU (hiU l)) (l.drop 2) := by
  unfold restU
  rw [textU_eq l, if_neg (by omega), if_neg (by omega), if_pos hp, map_app]
theorem restU_pair {l : List UInt8} {acc : List Nat} (h : 4 ≤ l.length) (h5 : 55296 ≤ hiU l) (h6 : hiU l ≤ 56319) (h7 : 56320 ≤ hiU (l.drop 2)) (h8 : hiU (l.drop 2) ≤ 57343) : restU acc l = restU (acc ++ putU (65536 + 1024 * (hiU l - 55296) + hiU (l.drop 2) - 56320)) (l.drop 4) := by
  unfold restU
  rw [textU_eq l, if_neg (by omega), if_neg (by omega), if_neg (by omega), if_neg (by omega), map_app]
theorem restU_none {l : List UInt8} {acc : List Nat} (h0 : l.length ≠ 0) (h : l.length < 2 ∨ (55296 ≤ hiU l ∧ hiU l ≤ 57343 ∧ (56319 < hiU l ∨ l.length < 4 ∨ hiU (l.drop 2) < 56320 ∨ 57343 < hiU (l.drop 2)))) : restU acc l = none := by
  unfold restU
  rw [textU_eq l, if_neg h0]
  rcases h with h | ⟨h1, h2, h3⟩
  · rw [if_pos h]; rfl
  · by_cases h4 : l.length < 2
    · rw [if_pos h4]; rfl
    · rw [if_neg h4, if_neg (by omega), if_pos h3]; rfl
theorem restU_end {l : List UInt8} {acc : List Nat} (h : l.length = 0) : restU acc l = some acc := by
  unfold restU
  rw [textU_eq, if_pos h]
  simp
theorem restU_start (l : List UInt8) : restU [] l = textU l := by
  unfold restU
  simp
theorem textU_most : ∀ (n : Nat) (l : List UInt8) (o : List Nat), l.length ≤ n → textU l = some o → o.length ≤ 2 * l.length ∧ ∀ b ∈ o, b < 256
  | 0, l, o, h, ho => by
    rw [textU_eq, if_pos (by omega)] at ho
    injection ho with ho
    subst ho
    simp
  | n + 1, l, o, h, ho => by
    have q1 := hiU_lt l
    have q2 := hiU_lt (l.drop 2)
    rw [textU_eq] at ho
    split at ho
    · injection ho with ho
      subst ho
      simp
    · split at ho
      · cases ho
      · split at ho
        · obtain ⟨p, hp, rfl⟩ := Option.map_eq_some_iff.1 ho
          obtain ⟨i1, i2⟩ := textU_most n (l.drop 2) p (by rw [List.length_drop]; omega) hp
          have := putU_length (hiU l)
          rw [List.length_drop] at i1
          refine ⟨by simp only [List.length_append]; omega, fun x hx => ?_⟩
          rcases List.mem_append.1 hx with hx | hx
          · exact putU_lt (by omega) x hx
          · exact i2 x hx
        · split at ho
          · cases ho
          · obtain ⟨p, hp, rfl⟩ := Option.map_eq_some_iff.1 ho
            obtain ⟨i1, i2⟩ := textU_most n (l.drop 4) p (by rw [List.length_drop]; omega) hp
            have := putU_length (65536 + 1024 * (hiU l - 55296) + hiU (l.drop 2) - 56320)
            rw [List.length_drop] at i1
            refine ⟨by simp only [List.length_append]; omega, fun x hx => ?_⟩
            rcases List.mem_append.1 hx with hx | hx
            · exact putU_lt (by omega) x hx
            · exact i2 x hx
/-- What Text answers. -/
def textS (s : ByteArray) : ByteArray := match textU s.data.toList with | some o => strB o | none => ⟨#[]⟩
def textE (s : ByteArray) : Int := match textU s.data.toList with | some _ => 0 | none => 4
end Go.Proofs.YtdlmhienolmncaaGreat
