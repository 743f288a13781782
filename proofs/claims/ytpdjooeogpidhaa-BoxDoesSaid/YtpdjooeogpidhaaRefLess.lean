/- The reference's less: the walk. -/
import Derived.Test.YtpdjooeogpidhaaRefMake
namespace Go.Proofs.Ytpdjooeogpidhaa
open Go.RowKit Dec

theorem num_split (ds : List Int) (p : Nat) : num ds = num (ds.take p) + 10 ^ p * num (ds.drop p) := by
  rcases Nat.le_total p ds.length with h | h
  · have := num_append (ds.take p) (ds.drop p)
    rw [List.take_append_drop, List.length_take, Nat.min_eq_left h] at this
    exact this
  · rw [List.take_of_length_le h, List.drop_of_length_le h]; simp [num]
theorem num_take_lt {ds : List Int} (h : Digs ds) (p : Nat) : num (ds.take p) < 10 ^ p :=
  num_bound (fun d hd => h d (List.mem_of_mem_take hd)) (by rw [List.length_take]; exact Nat.min_le_left _ _)
theorem digitAt_nat (ds : List Int) (p : Nat) : digitAt ds p = ds.getD p 0 := by
  unfold digitAt; rw [if_neg (by omega), Int.toNat_natCast]
theorem digitAt_le {ds : List Int} (h : Digs ds) (p : Nat) : 0 ≤ digitAt ds p ∧ digitAt ds p ≤ 9 := by
  rw [digitAt_nat]
  rcases Nat.lt_or_ge p ds.length with hp | hp
  · exact h.at hp
  · rw [List.getD, List.getElem?_eq_none hp]; decide
theorem num_digit (ds : List Int) (p : Nat) : num (ds.drop p) = (digitAt ds p).toNat + 10 * num (ds.drop (p + 1)) := by
  rw [digitAt_nat]
  rcases Nat.lt_or_ge p ds.length with hp | hp
  · exact num_drop hp
  · rw [List.drop_of_length_le hp, List.drop_of_length_le (Nat.le_succ_of_le hp), List.getD, List.getElem?_eq_none hp]; rfl

/-- The first digit from above that differs tells. -/
theorem less_at {a b : List Int} (ha : Digs a) (hb : Digs b) {p : Nat} (he : num (a.drop (p + 1)) = num (b.drop (p + 1))) (hne : digitAt a p ≠ digitAt b p) :
    (digitAt a p < digitAt b p ↔ num a < num b) := by
  have h1 := num_split a p
  have h2 := num_split b p
  have h3 := num_take_lt ha p
  have h4 := num_take_lt hb p
  have h5 := num_digit a p
  have h6 := num_digit b p
  have h7 := digitAt_le ha p
  have h8 := digitAt_le hb p
  rcases Int.lt_or_gt_of_ne hne with h | h
  · have hx : num (a.drop p) + 1 ≤ num (b.drop p) := by omega
    have hy := Nat.mul_le_mul_left (10 ^ p) hx
    rw [Nat.mul_add] at hy
    constructor
    · intro _; omega
    · intro _; exact h
  · have hx : num (b.drop p) + 1 ≤ num (a.drop p) := by omega
    have hy := Nat.mul_le_mul_left (10 ^ p) hx
    rw [Nat.mul_add] at hy
    constructor
    · intro h'; omega
    · intro h'; omega

set_option maxRecDepth 100000 in
set_option maxHeartbeats 1000000 in
theorem less_any (va vb : Value) (a b : List Int) (w : World) (ha : Reads w va a) (hb : Reads w vb b) (hda : Digs a) (hdb : Digs b) (la : a.length ≤ 1000) (lb : b.length ≤ 1000) :
    Calls Try.prog 65 #[va, vb] w fun e w' => e = .returned (.bool (decide (num a < num b))) ∧ w = w' := by
  have HA := Lib.hid ha
  have HB := Lib.hid hb
  have HDA := Lib.hid hda
  have HDB := Lib.hid hdb
  obtain ⟨aa, ca, rfl, hca, -⟩ := ha
  obtain ⟨ab, cb, rfl, hcb, -⟩ := hb
  clear hda hdb
  go_enter Try.func65, Try.ntmps65
  go_wp2
  go_loop [5] (fun i => ∃ (I : Int) (j : Nat), i = .int .i64 I ∧ I + 1 = j ∧ j ≤ 1000 ∧ Hid (num (a.drop j) = num (b.drop j))) (fun i => (intOf i + 1).toNat)
  case atStart =>
    refine ⟨_, max a.length b.length, rfl, by omega, by omega, ?_⟩
    show _ = _
    rw [List.drop_of_length_le (Nat.le_max_left _ _), List.drop_of_length_le (Nat.le_max_right _ _)]
  case round =>
    obtain ⟨I, j, rfl, hI, hj, hn⟩ := hrel
    by_cases hj0 : j = 0
    · subst hj0
      obtain rfl : I = -1 := by omega
      have hd : Hid (decide (num a < num b) = false) := decide_eq_false (by have h : num a = num b := hn.out; omega)
      go_wp2
      go_ret
      rw [hd.out]
      exact ⟨rfl, rfl⟩
    · obtain ⟨p, rfl⟩ : ∃ p, j = p + 1 := ⟨j - 1, by omega⟩
      obtain rfl : I = p := by omega
      by_cases hXY : digitAt a p = digitAt b p
      · have hn' : Hid (num (a.drop p) = num (b.drop p)) := by show _ = _; rw [num_digit a p, num_digit b p, hXY, hn.out]
        clear hn
        go_wp2_with (first | (go_at_call 67; with_reducible refine (digit_ok (.slice aa a.length ca) a p w HA.out (by omega)).mono ?_; rintro e w' ⟨rfl, rfl⟩) | (go_at_call 67; with_reducible refine (digit_ok (.slice ab b.length cb) b p w HB.out (by omega)).mono ?_; rintro e w' ⟨rfl, rfl⟩))
        refine ⟨⟨_, p, rfl, by omega, by omega, hn'⟩, ?_⟩
        simp only [intOf]; omega
      · have hd : Hid (decide (num a < num b) = decide (digitAt a p < digitAt b p)) := decide_eq_decide.2 (less_at HDA.out HDB.out hn.out hXY).symm
        clear hn
        go_wp2_with (first | (go_at_call 67; with_reducible refine (digit_ok (.slice aa a.length ca) a p w HA.out (by omega)).mono ?_; rintro e w' ⟨rfl, rfl⟩) | (go_at_call 67; with_reducible refine (digit_ok (.slice ab b.length cb) b p w HB.out (by omega)).mono ?_; rintro e w' ⟨rfl, rfl⟩))
        go_ret
        rw [hd.out]
        exact ⟨rfl, rfl⟩
end Go.Proofs.Ytpdjooeogpidhaa
