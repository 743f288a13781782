/- The reference of huff: Make. -/
import Derived.Test.YtpcofdhhnfichaaHuffRefB
namespace Go.Proofs.Ytpcofdhhnfichaa
open Go.RowKit

/-- How many of the first i have a code. -/
def wordsN (l : List Nat) (i : Nat) : Nat := (l.take i).countP (fun x => decide (0 < x))
theorem wordsN_zero (l : List Nat) : wordsN l 0 = 0 := by simp [wordsN]
theorem wordsN_succ {l : List Nat} {i x : Nat} (h : l[i]? = some x) : wordsN l (i + 1) = wordsN l i + if 0 < x then 1 else 0 := by
  obtain ⟨hi, rfl⟩ := List.getElem?_eq_some_iff.1 h
  unfold wordsN
  rw [List.take_succ_eq_append_getElem hi, List.countP_append]
  by_cases h0 : 0 < l[i] <;> simp [h0]
theorem wordsN_le (l : List Nat) (i : Nat) : wordsN l i ≤ i := by
  unfold wordsN
  exact Nat.le_trans List.countP_le_length (List.length_take_le _ _)
theorem words_sums (l : List Nat) (h15 : ∀ x ∈ l, x ≤ 15) (i : Nat) (hi : i ≤ l.length) :
    ∃ R, share l i = 16384 * cnt l 1 i + R ∧ wordsN l i ≤ cnt l 1 i + R ∧ (wordsN l i = cnt l 1 i → R = 0) ∧ cnt l 1 i ≤ wordsN l i := by
  induction i with
  | zero => exact ⟨0, by simp [share_zero, cnt_zero, wordsN_zero]⟩
  | succ i ih =>
    obtain ⟨R, h1, h2, h3, h4⟩ := ih (by omega)
    have hx := List.getElem?_eq_getElem (show i < l.length by omega)
    generalize l[i] = x at hx
    have hx15 := h15 x (List.mem_of_getElem? hx)
    rw [share_succ hx, cnt_succ 1 hx, wordsN_succ hx]
    by_cases e1 : x = 1
    · subst e1
      exact ⟨R, by simp; omega, by simp; omega, by simp; omega, by simp; omega⟩
    · by_cases e0 : x = 0
      · subst e0
        exact ⟨R, by simp; omega, by simp; omega, by simp; omega, by simp; omega⟩
      · have hp : 0 < x := by omega
        have hz : 0 < 32768 / 2 ^ x := by
          rw [share_part x hx15]
          exact Nat.two_pow_pos _
        rw [if_pos hp, if_pos hp, if_neg e1]
        generalize 32768 / 2 ^ x = z at *
        exact ⟨R + z, by omega, by omega, by omega, by omega⟩
theorem natsOf_15 {l : List Int} (h : lensOk l) : ∀ x ∈ natsOf l, x ≤ 15 := by
  intro x hx
  obtain ⟨y, hy, rfl⟩ := List.mem_map.1 hx
  have := (h.2 y hy).2
  omega
theorem sumOk_iff {l : List Int} (h : lensOk l) : sumOk l ↔ (share (natsOf l) l.length = 32768 ∨ wordsN (natsOf l) l.length = 0 ∨ (wordsN (natsOf l) l.length = 1 ∧ cnt (natsOf l) 1 l.length = 1)) := by
  obtain ⟨R, h1, h2, h3, h4⟩ := words_sums (natsOf l) (natsOf_15 h) l.length (by simp [natsOf])
  unfold sumOk
  constructor
  · rintro (a | a | ⟨a, b⟩)
    · exact .inl a
    · exact .inr (.inl (by omega))
    · exact .inr (.inr (by omega))
  · rintro (a | a | ⟨a, b⟩)
    · exact .inl a
    · exact .inr (.inl (by omega))
    · exact .inr (.inr ⟨b, by omega⟩)
/-- Make's error. -/
def MakeErr (l : List Int) (E : Int) : Prop := (¬ lensOk l ∧ E = 1) ∨ (lensOk l ∧ ¬ sumOk l ∧ E = 4) ∨ (lensOk l ∧ sumOk l ∧ E = 0)
theorem MakeErr.eq {l : List Int} {E E' : Int} (h : MakeErr l E) (h' : MakeErr l E') : E = E' := by
  rcases h with ⟨a, rfl⟩ | ⟨a, b, rfl⟩ | ⟨a, b, rfl⟩ <;> rcases h' with ⟨a', rfl⟩ | ⟨a', b', rfl⟩ | ⟨a', b', rfl⟩ <;> first | rfl | exact absurd a' a | exact absurd a a' | exact absurd b' b | exact absurd b b'
set_option maxRecDepth 100000 in
set_option maxHeartbeats 4000000 in
theorem refMake_any (A : Option Addr) (n c : Nat) (l : List Int) (w : World) (h : IntsAt w A n c l) :
    Calls Try.prog 14 #[.slice A n c] w fun e w' => Below w.heap.size w w' ∧ ∃ E : Int, e = .returned (.int .i64 E) ∧ MakeErr l E := by
  have hl := h.len
  subst hl
  have hcap := h.cap
  have htop := h.top
  have hm := refCodes_any A l.length c l w h
  have H := Lib.hid h
  have HM := Lib.hid hm
  clear h hm
  go_enter Try.func14, Try.ntmps14
  go_wp2_with fail
  refine HM.out.mono ?_
  rintro e w1 ⟨hb, ⟨hno, rfl⟩ | ⟨hok, hov, rfl⟩ | ⟨hok, hov, g, hg, hw, rfl⟩⟩
  · have HX := Lib.hid (And.intro hno hb)
    clear hno hb
    go_wp2
    go_ret
    exact ⟨HX.out.2, _, rfl, .inl ⟨HX.out.1, rfl⟩⟩
  · have HX := Lib.hid (And.intro hok hb)
    clear hok hb
    go_wp2
    go_ret
    exact ⟨HX.out.2, _, rfl, .inr (.inl ⟨HX.out.1, fun h => by rcases h with h | h | ⟨-, h⟩ <;> omega, rfl⟩)⟩
  have hn := hok.1
  have HX := Lib.hid (And.intro hok hb)
  clear hok hb hw
  go_wp2_with fail
  go_loop [5, 6, 7] (fun x z y => ∃ i : Nat, i ≤ l.length ∧ y = .int .i64 i ∧ x = .int .i64 (wordsN (natsOf l) i : Int) ∧ z = .int .i64 (cnt (natsOf l) 1 i : Int)) (fun _ _ y => l.length - (intOf y).toNat)
  case atStart => exact ⟨0, by omega, rfl, by rw [wordsN_zero]; rfl, by rw [cnt_zero]; rfl⟩
  case round =>
    obtain ⟨i, hi, rfl, rfl, rfl⟩ := hrel
    have h1 := wordsN_le (natsOf l) i
    have h2 := cnt_le (natsOf l) 1 i
    by_cases hlt : i < l.length
    · obtain ⟨R, o, hA, hR, hcell⟩ := H.out.at_ (by omega)
      obtain ⟨x, hx⟩ : ∃ x, l[i]? = some x := ⟨l[i], List.getElem?_eq_getElem hlt⟩
      have hc1 := (HX.out.2.cell (p := ⟨R, o + i, none⟩) hR).trans (hcell i x hx)
      have hx15 := HX.out.1.2 x (List.mem_of_getElem? hx)
      have hW := wordsN_succ (natsOf_at hx)
      have hC := cnt_succ 1 (natsOf_at hx)
      have HA := Lib.hid hA
      clear hx hcell hA
      obtain rfl := HA.out
      by_cases e1 : x = 1
      · subst e1
        have HW := Lib.hid (And.intro hW hC)
        clear hW hC
        go_wp2_with fail
        exact ⟨⟨i + 1, by omega, by go_num, by rw [HW.out.1]; simp, by rw [HW.out.2]; simp⟩, by simp [intOf]; omega⟩
      · have hne : ¬ x.toNat = 1 := by omega
        rw [if_neg hne] at hC
        by_cases e0 : x = 0
        · subst e0
          have HW := Lib.hid (And.intro hW hC)
          clear hW hC
          go_wp2_with fail
          exact ⟨⟨i + 1, by omega, by go_num, by rw [HW.out.1]; simp, by rw [HW.out.2]; simp⟩, by simp [intOf]; omega⟩
        · have hp : 0 < x.toNat := by omega
          have hp' : 0 < x := by omega
          rw [if_pos hp] at hW
          have HW := Lib.hid (And.intro hW hC)
          clear hW hC hp hne
          go_wp2_with fail
          exact ⟨⟨i + 1, by omega, by go_num, by rw [HW.out.1]; go_num, by rw [HW.out.2]; simp⟩, by simp [intOf]; omega⟩
    · obtain rfl : i = l.length := by omega
      have hsum := sumOk_iff HX.out.1
      have hsh := share_any A l.length c l w1 (H.out.below (HX.out.2))
      have HSU := Lib.hid hsum
      have HSH := Lib.hid hsh
      clear hsum hsh
      go_wp2_with fail
      refine HSH.out.mono ?_
      rintro e w2 ⟨rfl, ⟨hno, -⟩ | ⟨-, rfl⟩⟩
      · exact absurd HX.out.1 hno
      by_cases q1 : share (natsOf l) l.length = 32768
      · have b1 : ((share (natsOf l) l.length : Int) == 32768) = true := by simp; omega
        go_wp2_with fail
        go_ret
        exact ⟨HX.out.2, _, rfl, .inr (.inr ⟨HX.out.1, HSU.out.2 (.inl q1), rfl⟩)⟩
      · have b1 : ((share (natsOf l) l.length : Int) == 32768) = false := by simp; omega
        by_cases q2 : wordsN (natsOf l) l.length = 0
        · have b2 : ((wordsN (natsOf l) l.length : Int) == 0) = true := by simp; omega
          go_wp2_with fail
          go_ret
          exact ⟨HX.out.2, _, rfl, .inr (.inr ⟨HX.out.1, HSU.out.2 (.inr (.inl q2)), rfl⟩)⟩
        · have b2 : ((wordsN (natsOf l) l.length : Int) == 0) = false := by simp; omega
          by_cases q3 : wordsN (natsOf l) l.length = 1
          · have b3 : ((wordsN (natsOf l) l.length : Int) == 1) = true := by simp; omega
            by_cases q4 : cnt (natsOf l) 1 l.length = 1
            · have b4 : ((cnt (natsOf l) 1 l.length : Int) == 1) = true := by simp; omega
              go_wp2_with fail
              go_ret
              exact ⟨HX.out.2, _, rfl, .inr (.inr ⟨HX.out.1, HSU.out.2 (.inr (.inr ⟨q3, q4⟩)), rfl⟩)⟩
            · have b4 : ((cnt (natsOf l) 1 l.length : Int) == 1) = false := by simp; omega
              go_wp2_with fail
              go_ret
              exact ⟨HX.out.2, _, rfl, .inr (.inl ⟨HX.out.1, fun h => by rcases HSU.out.1 h with h | h | ⟨h, h'⟩ <;> omega, rfl⟩)⟩
          · have b3 : ((wordsN (natsOf l) l.length : Int) == 1) = false := by simp; omega
            go_wp2_with fail
            go_ret
            exact ⟨HX.out.2, _, rfl, .inr (.inl ⟨HX.out.1, fun h => by rcases HSU.out.1 h with h | h | ⟨h, h'⟩ <;> omega, rfl⟩)⟩
end Go.Proofs.Ytpcofdhhnfichaa
