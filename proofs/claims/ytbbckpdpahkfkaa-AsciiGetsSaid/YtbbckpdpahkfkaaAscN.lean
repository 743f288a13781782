/- What was told is got: on lists. No program stands in it. -/
import Derived.Test.YtbbckpdpahkfkaaAscMath
namespace Go.Proofs.Ytbbckpdpahkfkaa

theorem getM_step {c : Nat} (r l out : List Nat) (h : 33 ≤ c ∧ c ≤ 117) (hl : l.length < 4) : getM (c :: r) l out = getM r (l ++ [c - 33]) out := by
  rw [getM, if_neg (by rw [isW_ok h.1]; simp), if_neg (by omega), if_neg (by omega), if_neg (by omega)]
theorem getM_last {c : Nat} (r l out : List Nat) (h : 33 ≤ c ∧ c ≤ 117) (hl : l.length = 4) (hn : num5 (l ++ [c - 33]) 0 ≤ 4294967295) : getM (c :: r) l out = getM r [] (out ++ fourB (num5 (l ++ [c - 33]) 0)) := by
  rw [getM, if_neg (by rw [isW_ok h.1]; simp), if_neg (by omega), if_neg (by omega), if_pos hl, if_neg (by omega)]
theorem four_of {g : List Nat} (h : g.length = 4) : ∃ a b c d, g = [a, b, c, d] := by
  match g, h with
  | [a, b, c, d], _ => exact ⟨a, b, c, d, rfl⟩
theorem div_chain (n : Nat) : n / 7225 = n / 85 / 85 ∧ n / 614125 = n / 85 / 85 / 85 ∧ n / 52200625 = n / 85 / 85 / 85 / 85 := by
  refine ⟨?_, ?_, ?_⟩ <;> simp [Nat.div_div_eq_div_mul]
theorem five_digits (n : Nat) (hn : n < 4294967296) : ∃ d0 d1 d2 d3 d4 : Nat, d0 < 85 ∧ d1 < 85 ∧ d2 < 85 ∧ d3 < 85 ∧ d4 < 85 ∧ fiveD n = [33 + d0, 33 + d1, 33 + d2, 33 + d3, 33 + d4] ∧ n = d0 * 52200625 + d1 * 614125 + d2 * 7225 + d3 * 85 + d4 := by
  obtain ⟨k1, k2, k3⟩ := div_chain n
  unfold fiveD
  rw [k1, k2, k3]
  have h1 := Nat.div_add_mod n 85
  have l1 := Nat.mod_lt n (show 85 > 0 by omega)
  generalize n / 85 = q1 at *
  generalize n % 85 = d4 at *
  have h2 := Nat.div_add_mod q1 85
  have l2 := Nat.mod_lt q1 (show 85 > 0 by omega)
  generalize q1 / 85 = q2 at *
  generalize q1 % 85 = d3 at *
  have h3 := Nat.div_add_mod q2 85
  have l3 := Nat.mod_lt q2 (show 85 > 0 by omega)
  generalize q2 / 85 = q3 at *
  generalize q2 % 85 = d2 at *
  have h4 := Nat.div_add_mod q3 85
  have l4 := Nat.mod_lt q3 (show 85 > 0 by omega)
  generalize q3 / 85 = q4 at *
  generalize q3 % 85 = d1 at *
  have l5 : q4 < 85 := by omega
  rw [Nat.mod_eq_of_lt l5]
  exact ⟨q4, d1, d2, d3, d4, l5, l4, l3, l2, l1, rfl, by omega⟩
theorem fourB_alt (N : Nat) : fourB N = [N / 256 / 256 / 256 % 256, N / 256 / 256 % 256, N / 256 % 256, N % 256] := by
  unfold fourB
  rw [show N / 16777216 = N / 256 / 256 / 256 from by simp [Nat.div_div_eq_div_mul], show N / 65536 = N / 256 / 256 from by simp [Nat.div_div_eq_div_mul]]
theorem dv256 {a b : Nat} (hb : b < 256) : (a * 256 + b) / 256 = a ∧ (a * 256 + b) % 256 = b := by omega
theorem fourB_four {x0 x1 x2 x3 : Nat} (h0 : x0 < 256) (h1 : x1 < 256) (h2 : x2 < 256) (h3 : x3 < 256) : fourB (((x0 * 256 + x1) * 256 + x2) * 256 + x3) = [x0, x1, x2, x3] := by
  rw [fourB_alt]
  rw [(dv256 h3).1, (dv256 h3).2, (dv256 h2).1, (dv256 h2).2, (dv256 h1).1, (dv256 h1).2, Nat.mod_eq_of_lt h0]
theorem fourB_3 {N x0 x1 x2 : Nat} (h0 : x0 < 256) (h1 : x1 < 256) (h2 : x2 < 256) (lo : ((x0 * 256 + x1) * 256 + x2) * 256 ≤ N) (hi : N < ((x0 * 256 + x1) * 256 + x2 + 1) * 256) : (fourB N).take 3 = [x0, x1, x2] := by
  rw [fourB_alt, Nat.div_eq_of_lt_le lo hi]
  rw [(dv256 h2).1, (dv256 h2).2, (dv256 h1).1, (dv256 h1).2, Nat.mod_eq_of_lt h0]
  rfl
theorem fourB_2 {N x0 x1 : Nat} (h0 : x0 < 256) (h1 : x1 < 256) (lo : (x0 * 256 + x1) * 65536 ≤ N) (hi : N < (x0 * 256 + x1 + 1) * 65536) : (fourB N).take 2 = [x0, x1] := by
  have e : N / 256 / 256 = x0 * 256 + x1 := by rw [Nat.div_div_eq_div_mul]; exact Nat.div_eq_of_lt_le lo hi
  rw [fourB_alt, e, (dv256 h1).1, (dv256 h1).2, Nat.mod_eq_of_lt h0]
  rfl
theorem fourB_1 {N x0 : Nat} (h0 : x0 < 256) (lo : x0 * 16777216 ≤ N) (hi : N < (x0 + 1) * 16777216) : (fourB N).take 1 = [x0] := by
  have e : N / 256 / 256 / 256 = x0 := by rw [Nat.div_div_eq_div_mul, Nat.div_div_eq_div_mul]; exact Nat.div_eq_of_lt_le lo hi
  rw [fourB_alt, e, Nat.mod_eq_of_lt h0]
  rfl
theorem getM_group {g r out : List Nat} (hl : g.length = 4) (hb : ∀ x ∈ g, x < 256) : getM (putG g ++ r) [] out = getM r [] (out ++ g) := by
  obtain ⟨x0, x1, x2, x3, rfl⟩ := four_of hl
  have h0 := hb x0 (by simp)
  have h1 := hb x1 (by simp)
  have h2 := hb x2 (by simp)
  have h3 := hb x3 (by simp)
  have hn : num4 [x0, x1, x2, x3] = ((x0 * 256 + x1) * 256 + x2) * 256 + x3 := rfl
  unfold putG
  by_cases hz : num4 [x0, x1, x2, x3] = 0
  · rw [if_pos ⟨hz, rfl⟩]
    rw [hn] at hz
    obtain rfl : x0 = 0 := by omega
    obtain rfl : x1 = 0 := by omega
    obtain rfl : x2 = 0 := by omega
    obtain rfl : x3 = 0 := by omega
    show getM (122 :: r) [] out = _
    rw [getM, if_neg (by decide), if_pos ⟨rfl, rfl⟩]
  · rw [if_neg (fun e => hz e.1), hn]
    obtain ⟨n, hn2⟩ : ∃ n, ((x0 * 256 + x1) * 256 + x2) * 256 + x3 = n := ⟨_, rfl⟩
    rw [hn2]
    have e5 : (fiveD n).take ([x0, x1, x2, x3].length + 1) = fiveD n := rfl
    rw [e5]
    obtain ⟨d0, d1, d2, d3, d4, p0, p1, p2, p3, p4, hF, hsum⟩ := five_digits n (by omega)
    rw [hF]
    show getM ((33 + d0) :: (33 + d1) :: (33 + d2) :: (33 + d3) :: (33 + d4) :: r) [] out = _
    have hnn : num5 [d0, d1, d2, d3, d4] 0 = n := by
      show 85 * (85 * (85 * (85 * (85 * 0 + d0) + d1) + d2) + d3) + d4 = n
      omega
    rw [getM_step _ _ _ (by omega) (by simp), getM_step _ _ _ (by omega) (by simp), getM_step _ _ _ (by omega) (by simp), getM_step _ _ _ (by omega) (by simp)]
    simp only [Nat.add_sub_cancel_left, List.nil_append, List.cons_append]
    rw [getM_last _ _ _ (by omega) (by simp) (by simp only [Nat.add_sub_cancel_left, List.nil_append, List.cons_append]; rw [hnn]; omega)]
    simp only [Nat.add_sub_cancel_left, List.nil_append, List.cons_append]
    rw [hnn]
    rw [← hn2, fourB_four h0 h1 h2 h3]
theorem getM_part {g out : List Nat} (h1 : 1 ≤ g.length) (hl : g.length ≤ 3) (hb : ∀ x ∈ g, x < 256) : ∃ l, getM (putG g) [] out = some (l, out) ∧ endM l out = some (out ++ g) := by
  unfold putG
  rw [if_neg (by omega)]
  match g, h1, hl, hb with
  | [x0], _, _, hb =>
    have h0 := hb x0 (by simp)
    have hn : num4 [x0] = ((x0 * 256 + 0) * 256 + 0) * 256 + 0 := rfl
    obtain ⟨n, hn2⟩ : ∃ n, num4 [x0] = n := ⟨_, rfl⟩
    rw [hn2] at hn ⊢
    obtain ⟨d0, d1, d2, d3, d4, p0, p1, p2, p3, p4, hF, hsum⟩ := five_digits n (by omega)
    rw [hF]
    show ∃ l, getM [33 + d0, 33 + d1] [] out = some (l, out) ∧ _
    refine ⟨[d0, d1], ?_, ?_⟩
    · rw [getM_step _ _ _ (by omega) (by simp), getM_step _ _ _ (by omega) (by simp)]
      simp only [Nat.add_sub_cancel_left, List.nil_append, List.cons_append]
      rfl
    · have hN : num5 ([d0, d1] ++ List.replicate (5 - [d0, d1].length) 84) 0 = 85 * (85 * (85 * (85 * (85 * 0 + d0) + d1) + 84) + 84) + 84 := rfl
      unfold endM
      rw [if_neg (by simp), if_neg (by simp), hN, if_neg (by omega)]
      congr 2
      exact fourB_1 h0 (by omega) (by omega)
  | [x0, x1], _, _, hb =>
    have h0 := hb x0 (by simp)
    have h1 := hb x1 (by simp)
    have hn : num4 [x0, x1] = ((x0 * 256 + x1) * 256 + 0) * 256 + 0 := rfl
    obtain ⟨n, hn2⟩ : ∃ n, num4 [x0, x1] = n := ⟨_, rfl⟩
    rw [hn2] at hn ⊢
    obtain ⟨d0, d1, d2, d3, d4, p0, p1, p2, p3, p4, hF, hsum⟩ := five_digits n (by omega)
    rw [hF]
    show ∃ l, getM [33 + d0, 33 + d1, 33 + d2] [] out = some (l, out) ∧ _
    refine ⟨[d0, d1, d2], ?_, ?_⟩
    · rw [getM_step _ _ _ (by omega) (by simp), getM_step _ _ _ (by omega) (by simp), getM_step _ _ _ (by omega) (by simp)]
      simp only [Nat.add_sub_cancel_left, List.nil_append, List.cons_append]
      rfl
    · have hN : num5 ([d0, d1, d2] ++ List.replicate (5 - [d0, d1, d2].length) 84) 0 = 85 * (85 * (85 * (85 * (85 * 0 + d0) + d1) + d2) + 84) + 84 := rfl
      unfold endM
      rw [if_neg (by simp), if_neg (by simp), hN, if_neg (by omega)]
      congr 2
      exact fourB_2 h0 h1 (by omega) (by omega)
  | [x0, x1, x2], _, _, hb =>
    have h0 := hb x0 (by simp)
    have h1 := hb x1 (by simp)
    have h2 := hb x2 (by simp)
    have hn : num4 [x0, x1, x2] = ((x0 * 256 + x1) * 256 + x2) * 256 + 0 := rfl
    obtain ⟨n, hn2⟩ : ∃ n, num4 [x0, x1, x2] = n := ⟨_, rfl⟩
    rw [hn2] at hn ⊢
    obtain ⟨d0, d1, d2, d3, d4, p0, p1, p2, p3, p4, hF, hsum⟩ := five_digits n (by omega)
    rw [hF]
    show ∃ l, getM [33 + d0, 33 + d1, 33 + d2, 33 + d3] [] out = some (l, out) ∧ _
    refine ⟨[d0, d1, d2, d3], ?_, ?_⟩
    · rw [getM_step _ _ _ (by omega) (by simp), getM_step _ _ _ (by omega) (by simp), getM_step _ _ _ (by omega) (by simp), getM_step _ _ _ (by omega) (by simp)]
      simp only [Nat.add_sub_cancel_left, List.nil_append, List.cons_append]
      rfl
    · have hN : num5 ([d0, d1, d2, d3] ++ List.replicate (5 - [d0, d1, d2, d3].length) 84) 0 = 85 * (85 * (85 * (85 * (85 * 0 + d0) + d1) + d2) + d3) + 84 := rfl
      unfold endM
      rw [if_neg (by simp), if_neg (by simp), hN, if_neg (by omega)]
      congr 2
      exact fourB_3 h0 h1 h2 (by omega) (by omega)
theorem take_row {bs : List Nat} (m : Nat) : bs.take (4 * m) ++ rowM bs 4 m = bs.take (4 * (m + 1)) := by
  unfold rowM
  rw [Nat.mul_comm m 4, show 4 * (m + 1) = 4 * m + 4 by omega, List.take_add]
theorem getM_full_rows {bs r : List Nat} (hb : ∀ x ∈ bs, x < 256) : ∀ m, 4 * m ≤ bs.length → getM (putN bs m ++ r) [] [] = getM r [] (bs.take (4 * m))
  | 0, _ => rfl
  | m + 1, h => by
    have ih := getM_full_rows (r := putG (rowM bs 4 m) ++ r) hb m (by omega)
    rw [putN, List.append_assoc, ih, getM_group (g := rowM bs 4 m) (by unfold rowM; rw [List.length_take, List.length_drop]; omega) (fun x hx => hb x (List.mem_of_mem_drop (List.mem_of_mem_take hx))), take_row]
/-- What Put told, got. -/
theorem getM_put (bs : List Nat) (hb : ∀ x ∈ bs, x < 256) : ∃ l out, getM (putS bs) [] [] = some (l, out) ∧ endM l out = some bs := by
  unfold putS
  by_cases h : bs.length % 4 = 0
  · have e : (bs.length + 3) / 4 = bs.length / 4 := by omega
    have := getM_full_rows (r := []) hb (bs.length / 4) (by omega)
    rw [List.append_nil, show 4 * (bs.length / 4) = bs.length by omega, List.take_of_length_le (Nat.le_refl _)] at this
    rw [e, this]
    exact ⟨[], bs, rfl, rfl⟩
  · have e : (bs.length + 3) / 4 = bs.length / 4 + 1 := by omega
    have hr : (rowM bs 4 (bs.length / 4)).length = bs.length % 4 := by unfold rowM; rw [List.length_take, List.length_drop]; omega
    rw [e, putN, getM_full_rows hb (bs.length / 4) (by omega)]
    obtain ⟨l, h1, h2⟩ := getM_part (g := rowM bs 4 (bs.length / 4)) (out := bs.take (4 * (bs.length / 4))) (by omega) (by omega) (fun x hx => hb x (List.mem_of_mem_drop (List.mem_of_mem_take hx)))
    refine ⟨l, _, h1, ?_⟩
    rw [h2, take_row, List.take_of_length_le (by omega)]
theorem putS_ok (bs : List Nat) : ∀ x ∈ putS bs, 33 ≤ x ∧ x ≤ 122 := fun x hx => by have := putN_ok bs _ x hx; omega
theorem getR_put {bs a ws b rest : List Nat} {most : Int} (hb : ∀ x ∈ bs, x < 256) (hP : putS bs = a ++ b) (hw : ∀ c ∈ ws, isW c = true) :
    getR (a ++ ws ++ b ++ 126 :: 62 :: rest) most = if most < 0 ∨ 1048576 < most then (1, []) else if most < (bs.length : Int) then (2, []) else (0, bs) := by
  have hw9 : ∀ c ∈ ws, c ≠ 126 := fun c hc e => by have := hw c hc; rw [e] at this; revert this; decide
  have hc : cut2 (a ++ ws ++ b ++ 126 :: 62 :: rest) = some (a ++ ws ++ b) := cut2_app fun c hc => by
    rcases List.mem_append.1 hc with h | h
    · rcases List.mem_append.1 h with h | h
      · have := putS_ok bs c (by rw [hP]; exact List.mem_append_left _ h); omega
      · exact hw9 c h
    · have := putS_ok bs c (by rw [hP]; exact List.mem_append_right _ h); omega
  obtain ⟨l, out, h1, h2⟩ := getM_put bs hb
  unfold getR
  split
  · rfl
  · rw [hc]
    simp only []
    rw [getM_white hw, ← hP, h1]
    simp only []
    rw [h2]
theorem unhexR_hex {bs a ws b rest : List Nat} {most : Int} (hb : ∀ x ∈ bs, x < 256) (hP : hexS bs = a ++ b) (hw : ∀ c ∈ ws, isW c = true) :
    unhexR (a ++ ws ++ b ++ 62 :: rest) most = if most < 0 ∨ 1048576 < most then (1, []) else if most < (bs.length : Int) then (2, []) else (0, bs) := by
  have hw9 : ∀ c ∈ ws, c ≠ 62 := fun c hc e => by have := hw c hc; rw [e] at this; revert this; decide
  have hh : ∀ c ∈ hexS bs, c ≠ 62 := fun c hc => by
    obtain ⟨y, hy, hx⟩ := List.mem_flatMap.1 hc
    have h256 := hb y hy
    simp only [List.mem_cons, List.not_mem_nil, or_false] at hx
    rcases hx with rfl | rfl
    · exact (hexD_dig (d := y / 16) (by omega)).2.2.1
    · exact (hexD_dig (d := y % 16) (by omega)).2.2.1
  have hc : cut1 (a ++ ws ++ b ++ 62 :: rest) = some (a ++ ws ++ b) := cut1_app fun c hc => by
    rcases List.mem_append.1 hc with h | h
    · rcases List.mem_append.1 h with h | h
      · exact hh c (by rw [hP]; exact List.mem_append_left _ h)
      · exact hw9 c h
    · exact hh c (by rw [hP]; exact List.mem_append_right _ h)
  unfold unhexR
  split
  · rfl
  · rw [hc]
    simp only []
    rw [hexV_white hw, ← hP, hexV_hex bs hb]
    simp only []
    rw [flat2_len, pairUp_hex, show (2 * bs.length + 1) / 2 = bs.length by omega]
end Go.Proofs.Ytbbckpdpahkfkaa
