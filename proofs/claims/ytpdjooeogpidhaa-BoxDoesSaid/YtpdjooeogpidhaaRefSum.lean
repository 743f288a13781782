/- The reference's sum of two numbers: the walk. -/
import Derived.Test.YtpdjooeogpidhaaRefNV
import Derived.Laws.Rows
namespace Go.Proofs.Ytpdjooeogpidhaa
open Go.RowKit Dec

theorem take_num (ds : List Int) (hd : Digs ds) (k : Nat) : (num (ds.take (k + 1)) : Int) = num (ds.take k) + (10 ^ k : Nat) * digitAt ds k := by
  have h1 := num_split ds k
  have h2 := num_split ds (k + 1)
  have h3 := num_digit ds k
  have h4 := digitAt_le hd k
  have e : num (ds.take (k + 1)) = num (ds.take k) + 10 ^ k * (digitAt ds k).toNat := by
    rw [h3, Nat.mul_add] at h1
    have h5 : 10 ^ k * (10 * num (ds.drop (k + 1))) = 10 ^ (k + 1) * num (ds.drop (k + 1)) := by rw [Nat.pow_succ, Nat.mul_assoc]
    omega
  rw [e]
  push_cast
  rw [Int.toNat_of_nonneg h4.1]
theorem snoc_num (out : List Int) (n : Int) (h : 0 ≤ n) : (num (out ++ [n]) : Int) = num out + (10 ^ out.length : Nat) * n := by
  rw [num_append]
  show ((num out + 10 ^ out.length * (n.toNat + 10 * 0) : Nat) : Int) = _
  push_cast
  rw [Int.toNat_of_nonneg h]
  simp
/-- What the loop of sum keeps. -/
def SumAt (A B out : List Int) (sg c : Int) (k : Nat) : Prop :=
  out.length = k ∧ Digs out ∧ (num out : Int) + (10 ^ k : Nat) * c = num (A.take k) + sg * num (B.take k)
theorem SumAt.start (A B : List Int) (sg : Int) : SumAt A B [] sg 0 0 := ⟨rfl, fun d h => by simp at h, by simp [num]⟩
theorem SumAt.step {A B out : List Int} {sg c n c' : Int} {k : Nat} (h : SumAt A B out sg c k) (hA : Digs A) (hB : Digs B) (hn : 0 ≤ n ∧ n ≤ 9) (he : n + 10 * c' = digitAt A k + c + sg * digitAt B k) : SumAt A B (out ++ [n]) sg c' (k + 1) := by
  obtain ⟨h1, h2, h3⟩ := h
  refine ⟨by rw [List.length_append, h1]; rfl, fun d hd => ?_, ?_⟩
  · rcases List.mem_append.1 hd with e | e
    · exact h2 d e
    · obtain rfl := List.mem_singleton.1 e
      exact hn
  · rw [snoc_num out n hn.1, h1, take_num A hA, take_num B hB, Nat.pow_succ]
    have e2 : ((10 ^ k * 10 : Nat) : Int) * c' = ((10 ^ k : Nat) : Int) * (10 * c') := by push_cast; rw [Int.mul_assoc]
    rw [e2]
    generalize ((10 ^ k : Nat) : Int) = p at *
    have e3 : p * n + p * (10 * c') = p * digitAt A k + p * c + sg * (p * digitAt B k) := by
      rw [← Int.mul_add, he, Int.mul_add, Int.mul_add, Int.mul_left_comm]
    rw [Int.mul_add]
    generalize p * n = a1 at *
    generalize p * (10 * c') = a2 at *
    generalize p * digitAt A k = a3 at *
    generalize p * c = a4 at *
    generalize sg * (p * digitAt B k) = a5 at *
    omega
theorem SumAt.end {A B out : List Int} {bs : Bool} {c : Int} {k : Nat} (h : SumAt A B out (if bs = true then 1 else -1) c k) (hA : Digs A) (hB : Digs B) (hk : k = max A.length B.length + 1) (hc : -1 ≤ c ∧ c ≤ 1) (hord : bs = false → num B ≤ num A) :
    num out = if bs = true then num A + num B else num A - num B := by
  obtain ⟨h1, h2, h3⟩ := h
  have ta : A.take k = A := List.take_of_length_le (by omega)
  have tb : B.take k = B := List.take_of_length_le (by omega)
  rw [ta, tb] at h3
  have la := num_lt hA
  have lb := num_lt hB
  have lo := num_lt h2
  rw [h1] at lo
  have pa : 10 ^ A.length ≤ 10 ^ (max A.length B.length) := Nat.pow_le_pow_right (by decide) (by omega)
  have pb : 10 ^ B.length ≤ 10 ^ (max A.length B.length) := Nat.pow_le_pow_right (by decide) (by omega)
  have pk : 10 ^ k = 10 * 10 ^ (max A.length B.length) := by rw [hk, Nat.pow_succ, Nat.mul_comm]
  rw [pk] at h3 lo
  generalize 10 ^ (max A.length B.length) = p at *
  have hpos : 0 < p := by omega
  have hcc : c = -1 ∨ c = 0 ∨ c = 1 := by omega
  cases bs with
  | true =>
    simp only [if_true] at h3 ⊢
    rcases hcc with rfl | rfl | rfl <;> omega
  | false =>
    have := hord rfl
    simp only [Bool.false_eq_true, if_false] at h3 ⊢
    rcases hcc with rfl | rfl | rfl <;> omega
/-- What sum answers. -/
def IsSum (b : Bool) (V : Nat) (s : Int) (w : World) (e : Ending) (w' : World) : Prop :=
  ∃ v ds, e = .returned (.agg #[.bool b, v, .int .i64 s]) ∧ w'.ownsRow w.heap.size 3 1 v ds.length (ds.map (Value.int .i64)) ∧ Digs ds ∧ num ds = V ∧ ds.length ≤ 400 ∧ Below w.heap.size w w'
/-- The number of a sum's digits. -/
def sumV (bA bB : Bool) (x y : Nat) : Nat := if (bA == bB) = true then x + y else x - y
def liftD (t s : Nat) (ds : List Int) : List Int := List.replicate (t - s) 0 ++ ds
theorem liftD_digs {t s : Nat} {ds : List Int} (h : Digs ds) : Digs (liftD t s ds) := fun d hd => by
  rcases List.mem_append.1 hd with e | e
  · exact digs_rep _ d e
  · exact h d e
theorem liftD_len {t s : Nat} {ds : List Int} : (liftD t s ds).length = t - s + ds.length := by unfold liftD; rw [List.length_append, List.length_replicate]
theorem liftD_num {t s : Nat} {ds : List Int} : num (liftD t s ds) = 10 ^ (t - s) * num ds := by
  unfold liftD
  rw [num_append, num_rep, List.length_replicate, Nat.zero_add]
theorem liftD_is (b : Bool) (v : Value) (ds : List Int) (s t : Nat) (w : World) (hv : Row w v ds) (hl : ds.length ≤ 1000) (hs : s ≤ 1000) (ht : t ≤ 1000) :
    Calls Try.prog 64 #[.agg #[.bool b, v, .int .i64 s], .int .i64 t] w (IsRow b (liftD t s ds) (max s t : Nat) w) := lift_any b v ds s t w hv hl hs ht
theorem nv_store {w : World} {P : Nat} {x y z : Value} (h : Whole w P 90 #[x, y, z]) {b' : Bool} {ds' : List Int} {s' : Int} {v' : Value} {base' : Nat} (ho : w.ownsRow base' 3 1 v' ds'.length (ds'.map (Value.int .i64))) :
    NV (((w.setCell ⟨P, 0, none⟩ (.bool b')).setCell ⟨P, 1, none⟩ v').setCell ⟨P, 2, none⟩ (.int .i64 s')) P b' ds' s' v' base' := by
  refine ⟨?_, own_off ho h _ _ _⟩
  have := ((h.set 0 (.bool b')).set 1 v').set 2 (.int .i64 s')
  simpa using this
/-- A row at another place is left by a store into a variable. -/
theorem row_store {w : World} {P : Nat} {v : Value} {ds : List Int} {w0 : World} (h0 : Row w0 v ds) (hb : Below w0.heap.size w0 w) (hP : w0.heap.size ≤ P) (x y z : Value) : Row (((w.setCell ⟨P, 0, none⟩ x).setCell ⟨P, 1, none⟩ y).setCell ⟨P, 2, none⟩ z) v ds :=
  row_below h0 (below_set3 hb hP x y z)
/-- An append to the sum's digits. -/
theorem sum_step {W w w1 : World} {b : Bool} {out : List Int} {S n : Int} {v v' : Value} {t : TypeId} {u : Value} (h : NV w W.heap.size b out S v (W.heap.size + 1)) (hb : Below W.heap.size W w) (hgrow : (w.alloc (.cells #[u] t)).grownBy w1 v.ownBlock)
    (hown : w1.ownsRow (W.heap.size + 1) 3 1 v' (out.length + 1) (out.map (Value.int .i64) ++ [.int .i64 n])) :
    Whole w1 W.heap.size 90 #[.bool b, v, .int .i64 S] ∧ NV (w1.setCell ⟨W.heap.size, 1, none⟩ v') W.heap.size b (out ++ [n]) S v' (W.heap.size + 1) ∧ Below W.heap.size W (w1.setCell ⟨W.heap.size, 1, none⟩ v') := by
  have hbk : ∀ j, v.ownBlock = some j → W.heap.size + 1 ≤ j := fun j e => (own_lt h.2 e).1
  have hk : Whole w1 W.heap.size 90 #[.bool b, v, .int .i64 S] := (h.1.old _).kept hgrow (fun e => by have := hbk _ e.symm; omega)
  have hb1 : Below W.heap.size W w1 := (hb.alloc hb.size _).grown hgrow (by have := hb.size; simp; omega) (fun j e => by have := hbk j e; omega)
  refine ⟨hk, ⟨?_, ?_⟩, hb1.setCell (p := ⟨W.heap.size, 1, none⟩) (Nat.le_refl _) _⟩
  · have := hk.set 1 v'
    simpa using this
  · rw [List.length_append, List.map_append]
    exact own_frame hown ((Fr.refl (fun k => k = W.heap.size) w1).setB 1 _) (fun g hg e => by
      have := (own_lt hown hg).1
      omega)
set_option maxRecDepth 100000 in
set_option maxHeartbeats 8000000 in
theorem sum_ord (bA bB : Bool) (vA vB : Value) (dA dB : List Int) (s s' : Nat) (w : World) (hA : Row w vA dA) (hB : Row w vB dB) (gA : Digs dA) (gB : Digs dB) (lA : dA.length ≤ 150) (lB : dB.length ≤ 150) (hs : s ≤ 50) (hs' : s' ≤ 50)
    (A B : List Int) (S : Nat) (eA : A = liftD (max s s') s dA) (eB : B = liftD (max s s') s' dB) (eS : S = max s s') (hord : bA ≠ bB → num B ≤ num A) :
    Calls Try.prog 60 #[.agg #[.bool bA, vA, .int .i64 s], .agg #[.bool bB, vB, .int .i64 s']] w (IsSum bA (sumV bA bB (num A) (num B)) S w) := by
  obtain ⟨i0, hi, hz0, hz1, hz2⟩ := info_parts info3
  have hformA : ∃ a n c, vA = .slice a n c := by
    rcases hA with ⟨rfl, -⟩ | ⟨g, o, c, rfl, -, -⟩
    · exact ⟨_, _, _, rfl⟩
    · exact ⟨_, _, _, rfl⟩
  have hformB : ∃ a n c, vB = .slice a n c := by
    rcases hB with ⟨rfl, -⟩ | ⟨g, o, c, rfl, -, -⟩
    · exact ⟨_, _, _, rfl⟩
    · exact ⟨_, _, _, rfl⟩
  obtain ⟨aA, nA, cA, rfl⟩ := hformA
  obtain ⟨aB, nB, cB, rfl⟩ := hformB
  have HRA := Lib.hid (And.intro hA hB)
  have HO := Lib.hid hord
  have HE := Lib.hid (And.intro eA (And.intro eB eS))
  have lD : A.length ≤ 200 := by rw [eA, liftD_len]; omega
  have lD' : B.length ≤ 200 := by rw [eB, liftD_len]; omega
  have gD : Digs A := by rw [eA]; exact liftD_digs gA
  have gD' : Digs B := by rw [eB]; exact liftD_digs gB
  have HGD := Lib.hid (And.intro gD gD')
  clear hA hB gA gB hord eA eB eS gD gD'
  go_enter Try.func60, Try.ntmps60
  have HW1 := Lib.hid (show Below w.heap.size w (((w.alloc (.cells #[.bool bA, .slice aA nA cA, .int .i64 s] 90)).alloc (.cells #[.bool bB, .slice aB nB cB, .int .i64 s'] 90)).alloc (.cells #[.bool false, .slice none 0 0, .int .i64 0] 90)) ∧ Whole (((w.alloc (.cells #[.bool bA, .slice aA nA cA, .int .i64 s] 90)).alloc (.cells #[.bool bB, .slice aB nB cB, .int .i64 s'] 90)).alloc (.cells #[.bool false, .slice none 0 0, .int .i64 0] 90)) w.heap.size 90 #[.bool bA, .slice aA nA cA, .int .i64 s] ∧ Whole (((w.alloc (.cells #[.bool bA, .slice aA nA cA, .int .i64 s] 90)).alloc (.cells #[.bool bB, .slice aB nB cB, .int .i64 s'] 90)).alloc (.cells #[.bool false, .slice none 0 0, .int .i64 0] 90)) (w.heap.size + 1) 90 #[.bool bB, .slice aB nB cB, .int .i64 s'] ∧ Whole (((w.alloc (.cells #[.bool bA, .slice aA nA cA, .int .i64 s] 90)).alloc (.cells #[.bool bB, .slice aB nB cB, .int .i64 s'] 90)).alloc (.cells #[.bool false, .slice none 0 0, .int .i64 0] 90)) (w.heap.size + 1 + 1) 90 #[.bool false, .slice none 0 0, .int .i64 0] from by
    refine ⟨((((Below.refl w.heap.size w).alloc (Nat.le_refl _) _).alloc (by simp) _).alloc (by simp; omega) _), ((Whole.made _ _ _).old _).old _, ?_, ?_⟩
    · have := (Whole.made (w.alloc (.cells #[.bool bA, .slice aA nA cA, .int .i64 s] 90)) 90 #[.bool bB, .slice aB nB cB, .int .i64 s']).old (.cells #[.bool false, .slice none 0 0, .int .i64 0] 90)
      simpa using this
    · have := Whole.made ((w.alloc (.cells #[.bool bA, .slice aA nA cA, .int .i64 s] 90)).alloc (.cells #[.bool bB, .slice aB nB cB, .int .i64 s'] 90)) 90 #[.bool false, .slice none 0 0, .int .i64 0]
      simpa using this)
  go_upto_region 1 with fail
  generalize hW1 : ((w.alloc (.cells #[.bool bA, .slice aA nA cA, .int .i64 s] 90)).alloc (.cells #[.bool bB, .slice aB nB cB, .int .i64 s'] 90)).alloc (.cells #[.bool false, .slice none 0 0, .int .i64 0] 90) = W1 at *
  clear hW1
  have hS : (max (s : Int) (s' : Int)) = ((max s s' : Nat) : Int) := by omega
  have hS9 : max s s' ≤ 50 := by omega
  have a0 : W1.cell? ⟨w.heap.size, 0, none⟩ = some (.bool bA) := HW1.out.2.1.reads 0
  have a1 : W1.cell? ⟨w.heap.size, 1, none⟩ = some (.slice aA nA cA) := HW1.out.2.1.reads 1
  have a2 : W1.cell? ⟨w.heap.size, 2, none⟩ = some (.int .i64 s) := HW1.out.2.1.reads 2
  have b2 : W1.cell? ⟨w.heap.size + 1, 2, none⟩ = some (.int .i64 s') := HW1.out.2.2.1.reads 2
  have la := HW1.out.2.1.lt
  have lb := HW1.out.2.2.1.lt
  go_wp2_with fail
  refine (liftD_is bA _ dA s (max s s') W1 (row_below HRA.out.1 HW1.out.1) (by omega) (by omega) (by omega)).mono ?_
  rintro e w2 ⟨v2, rfl, hown, hb⟩
  obtain ⟨av2, cv2, rfl⟩ := own_slice' hown
  have hA2 := HW1.out.2.1.here hb
  have hB2 := HW1.out.2.2.1.here hb
  have hR2 := HW1.out.2.2.2.here hb
  have x0 : w2.cell? ⟨w.heap.size, 0, none⟩ = some (.bool bA) := hA2.reads 0
  have x1 : w2.cell? ⟨w.heap.size, 1, none⟩ = some (.slice aA nA cA) := hA2.reads 1
  have x2 : w2.cell? ⟨w.heap.size, 2, none⟩ = some (.int .i64 s) := hA2.reads 2
  have f0 := hA2.thawed 0
  have f1 := hA2.thawed 1
  have f2 := hA2.thawed 2
  have la2 := hA2.lt
  rw [← HE.out.1] at hown
  have hbb := HW1.out.1.trans (hb.mono HW1.out.1.size)
  have HW2 := Lib.hid (And.intro (below_set3 hbb (Nat.le_refl _) (.bool bA) (.slice av2 A.length cv2) (.int .i64 ((max s (max s s') : Nat) : Int))) (And.intro (nv_store hA2 hown (b' := bA) (s' := ((max s (max s s') : Nat) : Int))) (And.intro (whole_away3 hB2 (show w.heap.size + 1 ≠ w.heap.size by omega) (.bool bA) (.slice av2 A.length cv2) (.int .i64 ((max s (max s s') : Nat) : Int))) (whole_away3 hR2 (show w.heap.size + 1 + 1 ≠ w.heap.size by omega) (.bool bA) (.slice av2 A.length cv2) (.int .i64 ((max s (max s s') : Nat) : Int))))))
  clear hA2 hB2 hR2 hbb hown hb a0 a1 a2 b2 la lb HW1
  go_upto_region 3 with fail
  rw [← HE.out.1]
  generalize hW3 : ((w2.setCell ⟨w.heap.size, 0, none⟩ (.bool bA)).setCell ⟨w.heap.size, 1, none⟩ (.slice av2 A.length cv2)).setCell ⟨w.heap.size, 2, none⟩ (.int .i64 ((max s (max s s') : Nat) : Int)) = W3 at *
  clear hW3 x0 x1 x2 f0 f1 f2 la2
  have b0 : W3.cell? ⟨w.heap.size + 1, 0, none⟩ = some (.bool bB) := HW2.out.2.2.1.reads 0
  have b1 : W3.cell? ⟨w.heap.size + 1, 1, none⟩ = some (.slice aB nB cB) := HW2.out.2.2.1.reads 1
  have b2 : W3.cell? ⟨w.heap.size + 1, 2, none⟩ = some (.int .i64 s') := HW2.out.2.2.1.reads 2
  have lb := HW2.out.2.2.1.lt
  go_wp2_with fail
  refine (liftD_is bB _ dB s' (max s s') W3 (row_below HRA.out.2 HW2.out.1) (by omega) (by omega) (by omega)).mono ?_
  rintro e w4 ⟨v4, rfl, hown, hb⟩
  obtain ⟨av4, cv4, rfl⟩ := own_slice' hown
  rw [← HE.out.2.1] at hown
  have hA4 := HW2.out.2.1.later hb
  have hB4 := HW2.out.2.2.1.here hb
  have hR4 := HW2.out.2.2.2.here hb
  have y0 : w4.cell? ⟨w.heap.size + 1, 0, none⟩ = some (.bool bB) := hB4.reads 0
  have y1 : w4.cell? ⟨w.heap.size + 1, 1, none⟩ = some (.slice aB nB cB) := hB4.reads 1
  have y2 : w4.cell? ⟨w.heap.size + 1, 2, none⟩ = some (.int .i64 s') := hB4.reads 2
  have f0 := hB4.thawed 0
  have f1 := hB4.thawed 1
  have f2 := hB4.thawed 2
  have lb4 := hB4.lt
  have hbb := HW2.out.1.trans (hb.mono HW2.out.1.size)
  have HW4 := Lib.hid (And.intro (below_set3 hbb (show w.heap.size ≤ w.heap.size + 1 by omega) (.bool bB) (.slice av4 B.length cv4) (.int .i64 ((max s' (max s s') : Nat) : Int))) (And.intro (hA4.aside hB4 (show w.heap.size ≠ w.heap.size + 1 by omega) (.bool bB) (.slice av4 B.length cv4) (.int .i64 ((max s' (max s s') : Nat) : Int))) (And.intro (nv_store hB4 hown (b' := bB) (s' := ((max s' (max s s') : Nat) : Int))) (whole_away3 hR4 (show w.heap.size + 1 + 1 ≠ w.heap.size + 1 by omega) (.bool bB) (.slice av4 B.length cv4) (.int .i64 ((max s' (max s s') : Nat) : Int))))))
  clear hA4 hB4 hR4 hbb hown hb b0 b1 b2 lb HW2
  go_upto_region 4 with fail
  rw [← HE.out.2.1]
  generalize hW5 : ((w4.setCell ⟨w.heap.size + 1, 0, none⟩ (.bool bB)).setCell ⟨w.heap.size + 1, 1, none⟩ (.slice av4 B.length cv4)).setCell ⟨w.heap.size + 1, 2, none⟩ (.int .i64 ((max s' (max s s') : Nat) : Int)) = W5 at *
  clear hW5 y0 y1 y2 f0 f1 f2 lb4
  obtain ⟨a0, a1, -, -, la⟩ := HW4.out.2.1.cells
  obtain ⟨b0, b1, -, -, lb⟩ := HW4.out.2.2.1.cells
  have hRR := HW4.out.2.2.2
  clear hRR
  by_cases hbe : bA = bB
  · have q1 : (bA != bB) = false := by rw [bne_eq_false_iff_eq]; exact hbe
    have q2 : (bA == bB) = true := by rw [beq_iff_eq]; exact hbe
    clear hbe
    have HP6 := Lib.hid (show NV (W5.alloc (.cells #[.bool bA, .slice none 0 0, .int .i64 ((max s s' : Nat) : Int)] 90)) W5.heap.size bA [] ((max s s' : Nat) : Int) (.slice none 0 0) (W5.heap.size + 1) ∧ Below W5.heap.size W5 (W5.alloc (.cells #[.bool bA, .slice none 0 0, .int .i64 ((max s s' : Nat) : Int)] 90)) from ⟨NV.made (World.ownsRow_nil _ _ _ _), (Below.refl _ _).alloc (Nat.le_refl _) _⟩)
    go_wp2_with fail
    go_loopw [7, 8] (fun cv kv wr => ∃ (k : Nat) (c : Int) (out : List Int) (v : Value), k ≤ max A.length B.length + 1 ∧ kv = .int .i64 k ∧ cv = .int .i64 c ∧ (0 ≤ c ∧ c ≤ 1) ∧ Hid (SumAt A B out (1) c k) ∧ NV wr W5.heap.size bA out ((max s s' : Nat) : Int) v (W5.heap.size + 1) ∧ Below W5.heap.size W5 wr) (fun _ kv _ => 402 - (intOf kv).toNat)
    case atStart => exact ⟨0, 0, [], _, by omega, rfl, rfl, by omega, Lib.hid (SumAt.start _ _ _), HP6.out.1, HP6.out.2⟩
    case round =>
      obtain ⟨k, c, out, v, hk, rfl, rfl, hc, HSA, hnv, hbw⟩ := hrel
      obtain ⟨av, cv, rfl⟩ := hnv.form
      have hA6 := HW4.out.2.1.later hbw
      have hB6 := HW4.out.2.2.1.later hbw
      have hR6 := HW4.out.2.2.2.here hbw
      obtain ⟨a0', a1', -, -, la'⟩ := hA6.cells
      obtain ⟨b0', b1', -, -, lb'⟩ := hB6.cells
      obtain ⟨o0, o1, o2, of, ol⟩ := hnv.cells
      have of1 := of 1
      have hol := HSA.out.1
      have HV := Lib.hid (And.intro hnv (And.intro hbw (And.intro hA6 (And.intro hB6 hR6))))
      have hmx : (max (A.length : Int) (B.length : Int)) = ((max A.length B.length : Nat) : Int) := by omega
      have hmx2 : max A.length B.length ≤ 200 := by omega
      have hout : out.length ≤ 201 := by omega
      clear hnv hbw hA6 hB6 hR6 of hol
      by_cases hlt : k ≤ max A.length B.length
      · have hdA := digitAt_le HGD.out.1 k
        have hdB := digitAt_le HGD.out.2 k
        have hstep := fun n c' => HSA.out.step (n := n) (c' := c') HGD.out.1 HGD.out.2
        have c1 := digit_ok _ A k wr HV.out.2.2.1.reads (by omega)
        have c2 := digit_ok _ B k wr HV.out.2.2.2.1.reads (by omega)
        have HST := Lib.hid hstep
        have HCC := Lib.hid (And.intro c1 c2)
        clear hstep c1 c2
        generalize digitAt A k = x at *
        generalize digitAt B k = y at *
        go_wp2_with fail
        refine HCC.out.1.mono ?_
        rintro e w7 ⟨rfl, rfl⟩
        go_wp2_with fail
        refine HCC.out.2.mono ?_
        rintro e w7 ⟨rfl, rfl⟩
        have key : ∃ n c' : Int, (0 ≤ n ∧ n ≤ 9) ∧ (0 ≤ c' ∧ c' ≤ 1) ∧ n + 10 * c' = x + c + (1) * y ∧ ((9 < x + c + y ∧ n = x + c + y - 10 ∧ c' = 1) ∨ (x + c + y < 0 ∧ n = x + c + y + 10 ∧ c' = -1) ∨ (¬ 9 < x + c + y ∧ ¬ x + c + y < 0 ∧ n = x + c + y ∧ c' = 0)) := by
          by_cases h9 : 9 < x + c + y
          · exact ⟨x + c + y - 10, 1, by omega, by omega, by omega, .inl ⟨h9, rfl, rfl⟩⟩
          · by_cases h0 : x + c + y < 0
            · exact ⟨x + c + y + 10, -1, by omega, by omega, by omega, .inr (.inl ⟨h0, rfl, rfl⟩)⟩
            · exact ⟨x + c + y, 0, by omega, by omega, by omega, .inr (.inr ⟨h9, h0, rfl, rfl⟩)⟩
        obtain ⟨n, c', hn, hc', he, hcase⟩ := key
        have HN := Lib.hid (HST.out n c' hn he)
        clear he
        rcases hcase with ⟨h9, rfl, rfl⟩ | ⟨h0, rfl, rfl⟩ | ⟨h9, h0, rfl, rfl⟩
        all_goals try (exfalso; clear HN HST HCC HV HSA; omega)
        all_goals
          go_wp2_with (at_builtin; refine wpList_append_own _ rfl _ _ 88 rfl (W5.heap.size + 1) 3 i0 (.int .i64 0) 1 8 Try.underlying88 hi hz0 hz1 hz2 rfl (by decide) _ _ _ rfl (HV.out.1.2.alloc _) ⟨wr.heap.size, 0, none⟩ 1 1 [.int .i64 _] rfl rfl (World.news_of_block (t := 3) (fr := (0, 0)) (heap_alloc_new wr _)) ?c2 ?c3 ?c4 ?c5 ?_)
          case c2 => simp [Value.oneCell']
          case c3 => unfold maxLen; omega
          case c4 => omega
          case c5 => first | omega | (simp; omega)
          intro v' w8 hown' hgrow _
          have hx := sum_step HV.out.1 HV.out.2.1 hgrow hown'
          obtain ⟨av8, cv8, rfl⟩ := own_slice' hown'
          have d1 : w8.cell? ⟨W5.heap.size, 1, none⟩ = some (.slice av out.length cv) := hx.1.reads 1
          have e1 := hx.1.thawed 1
          have l8 := hx.1.lt
          have HXX := Lib.hid (hx.2)
          clear hx hown' hgrow
          go_wp2_with fail
          go_roundw
          case rel => exact ⟨k + 1, _, _, _, by omega, by go_num, rfl, hc', HN, HXX.out⟩
          case measure => simp [intOf]; omega
      · obtain rfl : k = max A.length B.length + 1 := by omega
        have r0 : wr.cell? ⟨w.heap.size + 1 + 1, 0, none⟩ = some (.bool false) := HV.out.2.2.2.2.reads 0
        have r1 : wr.cell? ⟨w.heap.size + 1 + 1, 1, none⟩ = some (.slice none 0 0) := HV.out.2.2.2.2.reads 1
        have r2 : wr.cell? ⟨w.heap.size + 1 + 1, 2, none⟩ = some (.int .i64 0) := HV.out.2.2.2.2.reads 2
        have z0 := HV.out.2.2.2.2.thawed 0
        have z1 := HV.out.2.2.2.2.thawed 1
        have z2 := HV.out.2.2.2.2.thawed 2
        have lr := HV.out.2.2.2.2.lt
        have hnum := SumAt.end (bs := true) (by simpa using HSA.out) HGD.out.1 HGD.out.2 rfl (by omega) (fun h => by cases h)
        have hown9 := own_mono (own_off HV.out.1.2 HV.out.2.2.2.2 (.bool bA) (.slice av out.length cv) (.int .i64 ((max s s' : Nat) : Int))) (show w.heap.size ≤ W5.heap.size + 1 by have := HW4.out.1.size; omega)
        have hb9 := below_set3 (HW4.out.1.trans (HV.out.2.1.mono HW4.out.1.size)) (show w.heap.size ≤ w.heap.size + 1 + 1 by omega) (.bool bA) (.slice av out.length cv) (.int .i64 ((max s s' : Nat) : Int))
        have HF := Lib.hid (And.intro hown9 (And.intro HSA.out.2.1 (And.intro hnum hb9)))
        have hsv : sumV bA bB (num A) (num B) = if true = true then num A + num B else num A - num B := by unfold sumV; rw [q2]
        have HSV := Lib.hid hsv
        clear hnum hown9 hb9 hsv
        go_wp2_with fail
        refine bodyPost_ret (v := .agg #[.bool bA, .slice av out.length cv, .int .i64 ((max s s' : Nat) : Int)]) (by simp [results, Try.results60, go_sem, r0, r1, r2]) rfl ⟨_, out, by rw [HE.out.2.2], HF.out.1, HF.out.2.1, by rw [HSV.out]; exact HF.out.2.2.1, by omega, HF.out.2.2.2⟩
  · have q1 : (bA != bB) = true := by rw [bne_iff_ne]; exact hbe
    have q2 : (bA == bB) = false := by rw [beq_eq_false_iff_ne]; exact hbe
    have hle := HO.out hbe
    have hless := less_any _ _ A B W5 HW4.out.2.1.reads HW4.out.2.2.1.reads HGD.out.1 HGD.out.2 (by omega) (by omega)
    rw [decide_eq_false (show ¬ num A < num B by omega)] at hless
    have HLS := Lib.hid hless
    have HO2 : Hid (num B ≤ num A) := Lib.hid hle
    clear hbe hle hless
    go_wp2_with fail
    refine HLS.out.mono ?_
    rintro e w6 ⟨rfl, rfl⟩
    have HP6 := Lib.hid (show NV (W5.alloc (.cells #[.bool bA, .slice none 0 0, .int .i64 ((max s s' : Nat) : Int)] 90)) W5.heap.size bA [] ((max s s' : Nat) : Int) (.slice none 0 0) (W5.heap.size + 1) ∧ Below W5.heap.size W5 (W5.alloc (.cells #[.bool bA, .slice none 0 0, .int .i64 ((max s s' : Nat) : Int)] 90)) from ⟨NV.made (World.ownsRow_nil _ _ _ _), (Below.refl _ _).alloc (Nat.le_refl _) _⟩)
    go_wp2_with fail
    go_loopw [7, 8] (fun cv kv wr => ∃ (k : Nat) (c : Int) (out : List Int) (v : Value), k ≤ max A.length B.length + 1 ∧ kv = .int .i64 k ∧ cv = .int .i64 c ∧ (-1 ≤ c ∧ c ≤ 0) ∧ Hid (SumAt A B out (-1) c k) ∧ NV wr W5.heap.size bA out ((max s s' : Nat) : Int) v (W5.heap.size + 1) ∧ Below W5.heap.size W5 wr) (fun _ kv _ => 402 - (intOf kv).toNat)
    case atStart => exact ⟨0, 0, [], _, by omega, rfl, rfl, by omega, Lib.hid (SumAt.start _ _ _), HP6.out.1, HP6.out.2⟩
    case round =>
      obtain ⟨k, c, out, v, hk, rfl, rfl, hc, HSA, hnv, hbw⟩ := hrel
      obtain ⟨av, cv, rfl⟩ := hnv.form
      have hA6 := HW4.out.2.1.later hbw
      have hB6 := HW4.out.2.2.1.later hbw
      have hR6 := HW4.out.2.2.2.here hbw
      obtain ⟨a0', a1', -, -, la'⟩ := hA6.cells
      obtain ⟨b0', b1', -, -, lb'⟩ := hB6.cells
      obtain ⟨o0, o1, o2, of, ol⟩ := hnv.cells
      have of1 := of 1
      have hol := HSA.out.1
      have HV := Lib.hid (And.intro hnv (And.intro hbw (And.intro hA6 (And.intro hB6 hR6))))
      have hmx : (max (A.length : Int) (B.length : Int)) = ((max A.length B.length : Nat) : Int) := by omega
      have hmx2 : max A.length B.length ≤ 200 := by omega
      have hout : out.length ≤ 201 := by omega
      clear hnv hbw hA6 hB6 hR6 of hol
      by_cases hlt : k ≤ max A.length B.length
      · have hdA := digitAt_le HGD.out.1 k
        have hdB := digitAt_le HGD.out.2 k
        have hstep := fun n c' => HSA.out.step (n := n) (c' := c') HGD.out.1 HGD.out.2
        have c1 := digit_ok _ A k wr HV.out.2.2.1.reads (by omega)
        have c2 := digit_ok _ B k wr HV.out.2.2.2.1.reads (by omega)
        have HST := Lib.hid hstep
        have HCC := Lib.hid (And.intro c1 c2)
        clear hstep c1 c2
        generalize digitAt A k = x at *
        generalize digitAt B k = y at *
        go_wp2_with fail
        refine HCC.out.1.mono ?_
        rintro e w7 ⟨rfl, rfl⟩
        go_wp2_with fail
        refine HCC.out.2.mono ?_
        rintro e w7 ⟨rfl, rfl⟩
        have key : ∃ n c' : Int, (0 ≤ n ∧ n ≤ 9) ∧ (-1 ≤ c' ∧ c' ≤ 0) ∧ n + 10 * c' = x + c + (-1) * y ∧ ((9 < x + c - y ∧ n = x + c - y - 10 ∧ c' = 1) ∨ (x + c - y < 0 ∧ n = x + c - y + 10 ∧ c' = -1) ∨ (¬ 9 < x + c - y ∧ ¬ x + c - y < 0 ∧ n = x + c - y ∧ c' = 0)) := by
          by_cases h9 : 9 < x + c - y
          · exact ⟨x + c - y - 10, 1, by omega, by omega, by omega, .inl ⟨h9, rfl, rfl⟩⟩
          · by_cases h0 : x + c - y < 0
            · exact ⟨x + c - y + 10, -1, by omega, by omega, by omega, .inr (.inl ⟨h0, rfl, rfl⟩)⟩
            · exact ⟨x + c - y, 0, by omega, by omega, by omega, .inr (.inr ⟨h9, h0, rfl, rfl⟩)⟩
        obtain ⟨n, c', hn, hc', he, hcase⟩ := key
        have HN := Lib.hid (HST.out n c' hn he)
        clear he
        rcases hcase with ⟨h9, rfl, rfl⟩ | ⟨h0, rfl, rfl⟩ | ⟨h9, h0, rfl, rfl⟩
        all_goals try (exfalso; clear HN HST HCC HV HSA; omega)
        all_goals
          go_wp2_with (at_builtin; refine wpList_append_own _ rfl _ _ 88 rfl (W5.heap.size + 1) 3 i0 (.int .i64 0) 1 8 Try.underlying88 hi hz0 hz1 hz2 rfl (by decide) _ _ _ rfl (HV.out.1.2.alloc _) ⟨wr.heap.size, 0, none⟩ 1 1 [.int .i64 _] rfl rfl (World.news_of_block (t := 3) (fr := (0, 0)) (heap_alloc_new wr _)) ?c2 ?c3 ?c4 ?c5 ?_)
          case c2 => simp [Value.oneCell']
          case c3 => unfold maxLen; omega
          case c4 => omega
          case c5 => first | omega | (simp; omega)
          intro v' w8 hown' hgrow _
          have hx := sum_step HV.out.1 HV.out.2.1 hgrow hown'
          obtain ⟨av8, cv8, rfl⟩ := own_slice' hown'
          have d1 : w8.cell? ⟨W5.heap.size, 1, none⟩ = some (.slice av out.length cv) := hx.1.reads 1
          have e1 := hx.1.thawed 1
          have l8 := hx.1.lt
          have HXX := Lib.hid (hx.2)
          clear hx hown' hgrow
          go_wp2_with fail
          go_roundw
          case rel => exact ⟨k + 1, _, _, _, by omega, by go_num, rfl, hc', HN, HXX.out⟩
          case measure => simp [intOf]; omega
      · obtain rfl : k = max A.length B.length + 1 := by omega
        have r0 : wr.cell? ⟨w.heap.size + 1 + 1, 0, none⟩ = some (.bool false) := HV.out.2.2.2.2.reads 0
        have r1 : wr.cell? ⟨w.heap.size + 1 + 1, 1, none⟩ = some (.slice none 0 0) := HV.out.2.2.2.2.reads 1
        have r2 : wr.cell? ⟨w.heap.size + 1 + 1, 2, none⟩ = some (.int .i64 0) := HV.out.2.2.2.2.reads 2
        have z0 := HV.out.2.2.2.2.thawed 0
        have z1 := HV.out.2.2.2.2.thawed 1
        have z2 := HV.out.2.2.2.2.thawed 2
        have lr := HV.out.2.2.2.2.lt
        have hnum := SumAt.end (bs := false) (by simpa using HSA.out) HGD.out.1 HGD.out.2 rfl (by omega) (fun _ => HO2.out)
        have hown9 := own_mono (own_off HV.out.1.2 HV.out.2.2.2.2 (.bool bA) (.slice av out.length cv) (.int .i64 ((max s s' : Nat) : Int))) (show w.heap.size ≤ W5.heap.size + 1 by have := HW4.out.1.size; omega)
        have hb9 := below_set3 (HW4.out.1.trans (HV.out.2.1.mono HW4.out.1.size)) (show w.heap.size ≤ w.heap.size + 1 + 1 by omega) (.bool bA) (.slice av out.length cv) (.int .i64 ((max s s' : Nat) : Int))
        have HF := Lib.hid (And.intro hown9 (And.intro HSA.out.2.1 (And.intro hnum hb9)))
        have hsv : sumV bA bB (num A) (num B) = if false = true then num A + num B else num A - num B := by unfold sumV; rw [q2]
        have HSV := Lib.hid hsv
        clear hnum hown9 hb9 hsv
        go_wp2_with fail
        refine bodyPost_ret (v := .agg #[.bool bA, .slice av out.length cv, .int .i64 ((max s s' : Nat) : Int)]) (by simp [results, Try.results60, go_sem, r0, r1, r2]) rfl ⟨_, out, by rw [HE.out.2.2], HF.out.1, HF.out.2.1, by rw [HSV.out]; exact HF.out.2.2.1, by omega, HF.out.2.2.2⟩
end Go.Proofs.Ytpdjooeogpidhaa
