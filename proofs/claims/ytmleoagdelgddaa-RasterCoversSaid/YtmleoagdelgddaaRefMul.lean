/- The reference's sum of two numbers: the walk. -/
import Derived.Test.YtmleoagdelgddaaRefNV
import Derived.Laws.Rows
import Derived.Test.YtmleoagdelgddaaDecAdd
import Derived.Deep.RegionWith
import Derived.Test.YtmleoagdelgddaaDecCmp
import Derived.Deep.OwnRows
namespace Go.Proofs.Ytmleoagdelgddaa
open Go.RowKit Dec

theorem take_num (ds : List Int) (hd : Digs ds) (k : Nat) : (num (ds.take (k + 1)) : Int) = num (ds.take k) + (10 ^ k : Nat) * digitAt ds k := by
  have h1 := num_split ds k
  have h2 := num_split ds (k + 1)
  have h3 := num_digit ds k
  have h4 := digitAt_le hd k
  have e : num (ds.take (k + 1)) = num (ds.take k) + 10 ^ k * (digitAt ds k).toNat := by
    rw [h3, Nat.mul_add] at h1
    have h5 : 10 ^ k * (10 * num (ds.drop (k + 1))) = 10 ^ (k + 1) * num (ds.drop (k + 1)) := by rw [Nat.pow_succ, Nat.mul_assoc]
    omega
  rw [e]
  push_cast
  rw [Int.toNat_of_nonneg h4.1]
theorem snoc_num (out : List Int) (n : Int) (h : 0 ≤ n) : (num (out ++ [n]) : Int) = num out + (10 ^ out.length : Nat) * n := by
  rw [num_append]
  show ((num out + 10 ^ out.length * (n.toNat + 10 * 0) : Nat) : Int) = _
  push_cast
  rw [Int.toNat_of_nonneg h]
  simp
/-- What the loop of sum keeps. -/
def SumAt (A B out : List Int) (sg c : Int) (k : Nat) : Prop :=
  out.length = k ∧ Digs out ∧ (num out : Int) + (10 ^ k : Nat) * c = num (A.take k) + sg * num (B.take k)
theorem SumAt.start (A B : List Int) (sg : Int) : SumAt A B [] sg 0 0 := ⟨rfl, fun d h => by simp at h, by simp [num]⟩
theorem SumAt.step {A B out : List Int} {sg c n c' : Int} {k : Nat} (h : SumAt A B out sg c k) (hA : Digs A) (hB : Digs B) (hn : 0 ≤ n ∧ n ≤ 9) (he : n + 10 * c' = digitAt A k + c + sg * digitAt B k) : SumAt A B (out ++ [n]) sg c' (k + 1) := by
  obtain ⟨h1, h2, h3⟩ := h
  refine ⟨by rw [List.length_append, h1]; rfl, fun d hd => ?_, ?_⟩
  · rcases List.mem_append.1 hd with e | e
    · exact h2 d e
    · obtain rfl := List.mem_singleton.1 e
      exact hn
  · rw [snoc_num out n hn.1, h1, take_num A hA, take_num B hB, Nat.pow_succ]
    have e2 : ((10 ^ k * 10 : Nat) : Int) * c' = ((10 ^ k : Nat) : Int) * (10 * c') := by push_cast; rw [Int.mul_assoc]
    rw [e2]
    generalize ((10 ^ k : Nat) : Int) = p at *
    have e3 : p * n + p * (10 * c') = p * digitAt A k + p * c + sg * (p * digitAt B k) := by
      rw [← Int.mul_add, he, Int.mul_add, Int.mul_add, Int.mul_left_comm]
    rw [Int.mul_add]
    generalize p * n = a1 at *
    generalize p * (10 * c') = a2 at *
    generalize p * digitAt A k = a3 at *
    generalize p * c = a4 at *
    generalize sg * (p * digitAt B k) = a5 at *
    omega
theorem SumAt.end {A B out : List Int} {bs : Bool} {c : Int} {k : Nat} (h : SumAt A B out (if bs = true then 1 else -1) c k) (hA : Digs A) (hB : Digs B) (hk : k = max A.length B.length + 1) (hc : -1 ≤ c ∧ c ≤ 1) (hord : bs = false → num B ≤ num A) :
    num out = if bs = true then num A + num B else num A - num B := by
  obtain ⟨h1, h2, h3⟩ := h
  have ta : A.take k = A := List.take_of_length_le (by omega)
  have tb : B.take k = B := List.take_of_length_le (by omega)
  rw [ta, tb] at h3
  have la := num_lt hA
  have lb := num_lt hB
  have lo := num_lt h2
  rw [h1] at lo
  have pa : 10 ^ A.length ≤ 10 ^ (max A.length B.length) := Nat.pow_le_pow_right (by decide) (by omega)
  have pb : 10 ^ B.length ≤ 10 ^ (max A.length B.length) := Nat.pow_le_pow_right (by decide) (by omega)
  have pk : 10 ^ k = 10 * 10 ^ (max A.length B.length) := by rw [hk, Nat.pow_succ, Nat.mul_comm]
  rw [pk] at h3 lo
  generalize 10 ^ (max A.length B.length) = p at *
  have hpos : 0 < p := by omega
  have hcc : c = -1 ∨ c = 0 ∨ c = 1 := by omega
  cases bs with
  | true =>
    simp only [if_true] at h3 ⊢
    rcases hcc with rfl | rfl | rfl <;> omega
  | false =>
    have := hord rfl
    simp only [Bool.false_eq_true, if_false] at h3 ⊢
    rcases hcc with rfl | rfl | rfl <;> omega
/-- What sum answers. -/
def IsSum (b : Bool) (V : Nat) (s : Int) (w : World) (e : Ending) (w' : World) : Prop :=
  ∃ v ds, e = .returned (.agg #[.bool b, v, .int .i64 s]) ∧ w'.ownsRow w.heap.size 3 1 v ds.length (ds.map (Value.int .i64)) ∧ Digs ds ∧ num ds = V ∧ ds.length ≤ 400 ∧ Below w.heap.size w w'
/-- The number of a sum's digits. -/
def sumV (bA bB : Bool) (x y : Nat) : Nat := if (bA == bB) = true then x + y else x - y
def liftD (t s : Nat) (ds : List Int) : List Int := List.replicate (t - s) 0 ++ ds
theorem liftD_digs {t s : Nat} {ds : List Int} (h : Digs ds) : Digs (liftD t s ds) := fun d hd => by
  rcases List.mem_append.1 hd with e | e
  · exact digs_rep _ d e
  · exact h d e
theorem liftD_len {t s : Nat} {ds : List Int} : (liftD t s ds).length = t - s + ds.length := by unfold liftD; rw [List.length_append, List.length_replicate]
theorem liftD_num {t s : Nat} {ds : List Int} : num (liftD t s ds) = 10 ^ (t - s) * num ds := by
  unfold liftD
  rw [num_append, num_rep, List.length_replicate, Nat.zero_add]
theorem liftD_is (b : Bool) (v : Value) (ds : List Int) (s t : Nat) (w : World) (hv : Row w v ds) (hl : ds.length ≤ 1000) (hs : s ≤ 1000) (ht : t ≤ 1000) :
    Calls Try.prog 91 #[.agg #[.bool b, v, .int .i64 s], .int .i64 t] w (IsRow b (liftD t s ds) (max s t : Nat) w) := lift_any b v ds s t w hv hl hs ht
theorem nv_store {w : World} {P : Nat} {x y z : Value} (h : Whole w P 113 #[x, y, z]) {b' : Bool} {ds' : List Int} {s' : Int} {v' : Value} {base' : Nat} (ho : w.ownsRow base' 3 1 v' ds'.length (ds'.map (Value.int .i64))) :
    NV (((w.setCell ⟨P, 0, none⟩ (.bool b')).setCell ⟨P, 1, none⟩ v').setCell ⟨P, 2, none⟩ (.int .i64 s')) P b' ds' s' v' base' := by
  refine ⟨?_, own_off ho h _ _ _⟩
  have := ((h.set 0 (.bool b')).set 1 v').set 2 (.int .i64 s')
  simpa using this
/-- A row at another place is left by a store into a variable. -/
theorem row_store {w : World} {P : Nat} {v : Value} {ds : List Int} {w0 : World} (h0 : Row w0 v ds) (hb : Below w0.heap.size w0 w) (hP : w0.heap.size ≤ P) (x y z : Value) : Row (((w.setCell ⟨P, 0, none⟩ x).setCell ⟨P, 1, none⟩ y).setCell ⟨P, 2, none⟩ z) v ds :=
  row_below h0 (below_set3 hb hP x y z)
/-- An append to the sum's digits. -/
theorem sum_step {W w w1 : World} {b : Bool} {out : List Int} {S n : Int} {v v' : Value} {t : TypeId} {u : Value} (h : NV w W.heap.size b out S v (W.heap.size + 1)) (hb : Below W.heap.size W w) (hgrow : (w.alloc (.cells #[u] t)).grownBy w1 v.ownBlock)
    (hown : w1.ownsRow (W.heap.size + 1) 3 1 v' (out.length + 1) (out.map (Value.int .i64) ++ [.int .i64 n])) :
    Whole w1 W.heap.size 113 #[.bool b, v, .int .i64 S] ∧ NV (w1.setCell ⟨W.heap.size, 1, none⟩ v') W.heap.size b (out ++ [n]) S v' (W.heap.size + 1) ∧ Below W.heap.size W (w1.setCell ⟨W.heap.size, 1, none⟩ v') := by
  have hbk : ∀ j, v.ownBlock = some j → W.heap.size + 1 ≤ j := fun j e => (own_lt h.2 e).1
  have hk : Whole w1 W.heap.size 113 #[.bool b, v, .int .i64 S] := (h.1.old _).kept hgrow (fun e => by have := hbk _ e.symm; omega)
  have hb1 : Below W.heap.size W w1 := (hb.alloc hb.size _).grown hgrow (by have := hb.size; simp; omega) (fun j e => by have := hbk j e; omega)
  refine ⟨hk, ⟨?_, ?_⟩, hb1.setCell (p := ⟨W.heap.size, 1, none⟩) (Nat.le_refl _) _⟩
  · have := hk.set 1 v'
    simpa using this
  · rw [List.length_append, List.map_append]
    exact own_frame hown ((Fr.refl (fun k => k = W.heap.size) w1).setB 1 _) (fun g hg e => by
      have := (own_lt hown hg).1
      omega)
set_option maxRecDepth 100000 in
set_option maxHeartbeats 8000000 in
theorem sum_ord (bA bB : Bool) (vA vB : Value) (dA dB : List Int) (s s' : Nat) (w : World) (hA : Row w vA dA) (hB : Row w vB dB) (gA : Digs dA) (gB : Digs dB) (lA : dA.length ≤ 150) (lB : dB.length ≤ 150) (hs : s ≤ 50) (hs' : s' ≤ 50)
    (A B : List Int) (S : Nat) (eA : A = liftD (max s s') s dA) (eB : B = liftD (max s s') s' dB) (eS : S = max s s') (hord : bA ≠ bB → num B ≤ num A) :
    Calls Try.prog 94 #[.agg #[.bool bA, vA, .int .i64 s], .agg #[.bool bB, vB, .int .i64 s']] w (IsSum bA (sumV bA bB (num A) (num B)) S w) := by
  obtain ⟨i0, hi, hz0, hz1, hz2⟩ := info_parts info3
  have hformA : ∃ a n c, vA = .slice a n c := by
    rcases hA with ⟨rfl, -⟩ | ⟨g, o, c, rfl, -, -⟩
    · exact ⟨_, _, _, rfl⟩
    · exact ⟨_, _, _, rfl⟩
  have hformB : ∃ a n c, vB = .slice a n c := by
    rcases hB with ⟨rfl, -⟩ | ⟨g, o, c, rfl, -, -⟩
    · exact ⟨_, _, _, rfl⟩
    · exact ⟨_, _, _, rfl⟩
  obtain ⟨aA, nA, cA, rfl⟩ := hformA
  obtain ⟨aB, nB, cB, rfl⟩ := hformB
  have HRA := Lib.hid (And.intro hA hB)
  have HO := Lib.hid hord
  have HE := Lib.hid (And.intro eA (And.intro eB eS))
  have lD : A.length ≤ 200 := by rw [eA, liftD_len]; omega
  have lD' : B.length ≤ 200 := by rw [eB, liftD_len]; omega
  have gD : Digs A := by rw [eA]; exact liftD_digs gA
  have gD' : Digs B := by rw [eB]; exact liftD_digs gB
  have HGD := Lib.hid (And.intro gD gD')
  clear hA hB gA gB hord eA eB eS gD gD'
  go_enter Try.func94, Try.ntmps94
  have HW1 := Lib.hid (show Below w.heap.size w (((w.alloc (.cells #[.bool bA, .slice aA nA cA, .int .i64 s] 113)).alloc (.cells #[.bool bB, .slice aB nB cB, .int .i64 s'] 113)).alloc (.cells #[.bool false, .slice none 0 0, .int .i64 0] 113)) ∧ Whole (((w.alloc (.cells #[.bool bA, .slice aA nA cA, .int .i64 s] 113)).alloc (.cells #[.bool bB, .slice aB nB cB, .int .i64 s'] 113)).alloc (.cells #[.bool false, .slice none 0 0, .int .i64 0] 113)) w.heap.size 113 #[.bool bA, .slice aA nA cA, .int .i64 s] ∧ Whole (((w.alloc (.cells #[.bool bA, .slice aA nA cA, .int .i64 s] 113)).alloc (.cells #[.bool bB, .slice aB nB cB, .int .i64 s'] 113)).alloc (.cells #[.bool false, .slice none 0 0, .int .i64 0] 113)) (w.heap.size + 1) 113 #[.bool bB, .slice aB nB cB, .int .i64 s'] ∧ Whole (((w.alloc (.cells #[.bool bA, .slice aA nA cA, .int .i64 s] 113)).alloc (.cells #[.bool bB, .slice aB nB cB, .int .i64 s'] 113)).alloc (.cells #[.bool false, .slice none 0 0, .int .i64 0] 113)) (w.heap.size + 1 + 1) 113 #[.bool false, .slice none 0 0, .int .i64 0] from by
    refine ⟨((((Below.refl w.heap.size w).alloc (Nat.le_refl _) _).alloc (by simp) _).alloc (by simp; omega) _), ((Whole.made _ _ _).old _).old _, ?_, ?_⟩
    · have := (Whole.made (w.alloc (.cells #[.bool bA, .slice aA nA cA, .int .i64 s] 113)) 113 #[.bool bB, .slice aB nB cB, .int .i64 s']).old (.cells #[.bool false, .slice none 0 0, .int .i64 0] 113)
      simpa using this
    · have := Whole.made ((w.alloc (.cells #[.bool bA, .slice aA nA cA, .int .i64 s] 113)).alloc (.cells #[.bool bB, .slice aB nB cB, .int .i64 s'] 113)) 113 #[.bool false, .slice none 0 0, .int .i64 0]
      simpa using this)
  go_upto_region 1 with fail
  generalize hW1 : ((w.alloc (.cells #[.bool bA, .slice aA nA cA, .int .i64 s] 113)).alloc (.cells #[.bool bB, .slice aB nB cB, .int .i64 s'] 113)).alloc (.cells #[.bool false, .slice none 0 0, .int .i64 0] 113) = W1 at *
  clear hW1
  have hS : (max (s : Int) (s' : Int)) = ((max s s' : Nat) : Int) := by omega
  have hS9 : max s s' ≤ 50 := by omega
  have a0 : W1.cell? ⟨w.heap.size, 0, none⟩ = some (.bool bA) := HW1.out.2.1.reads 0
  have a1 : W1.cell? ⟨w.heap.size, 1, none⟩ = some (.slice aA nA cA) := HW1.out.2.1.reads 1
  have a2 : W1.cell? ⟨w.heap.size, 2, none⟩ = some (.int .i64 s) := HW1.out.2.1.reads 2
  have b2 : W1.cell? ⟨w.heap.size + 1, 2, none⟩ = some (.int .i64 s') := HW1.out.2.2.1.reads 2
  have la := HW1.out.2.1.lt
  have lb := HW1.out.2.2.1.lt
  go_wp2_with fail
  refine (liftD_is bA _ dA s (max s s') W1 (row_below HRA.out.1 HW1.out.1) (by omega) (by omega) (by omega)).mono ?_
  rintro e w2 ⟨v2, rfl, hown, hb⟩
  obtain ⟨av2, cv2, rfl⟩ := own_slice' hown
  have hA2 := HW1.out.2.1.here hb
  have hB2 := HW1.out.2.2.1.here hb
  have hR2 := HW1.out.2.2.2.here hb
  have x0 : w2.cell? ⟨w.heap.size, 0, none⟩ = some (.bool bA) := hA2.reads 0
  have x1 : w2.cell? ⟨w.heap.size, 1, none⟩ = some (.slice aA nA cA) := hA2.reads 1
  have x2 : w2.cell? ⟨w.heap.size, 2, none⟩ = some (.int .i64 s) := hA2.reads 2
  have f0 := hA2.thawed 0
  have f1 := hA2.thawed 1
  have f2 := hA2.thawed 2
  have la2 := hA2.lt
  rw [← HE.out.1] at hown
  have hbb := HW1.out.1.trans (hb.mono HW1.out.1.size)
  have HW2 := Lib.hid (And.intro (below_set3 hbb (Nat.le_refl _) (.bool bA) (.slice av2 A.length cv2) (.int .i64 ((max s (max s s') : Nat) : Int))) (And.intro (nv_store hA2 hown (b' := bA) (s' := ((max s (max s s') : Nat) : Int))) (And.intro (whole_away3 hB2 (show w.heap.size + 1 ≠ w.heap.size by omega) (.bool bA) (.slice av2 A.length cv2) (.int .i64 ((max s (max s s') : Nat) : Int))) (whole_away3 hR2 (show w.heap.size + 1 + 1 ≠ w.heap.size by omega) (.bool bA) (.slice av2 A.length cv2) (.int .i64 ((max s (max s s') : Nat) : Int))))))
  clear hA2 hB2 hR2 hbb hown hb a0 a1 a2 b2 la lb HW1
  go_upto_region 3 with fail
  rw [← HE.out.1]
  generalize hW3 : ((w2.setCell ⟨w.heap.size, 0, none⟩ (.bool bA)).setCell ⟨w.heap.size, 1, none⟩ (.slice av2 A.length cv2)).setCell ⟨w.heap.size, 2, none⟩ (.int .i64 ((max s (max s s') : Nat) : Int)) = W3 at *
  clear hW3 x0 x1 x2 f0 f1 f2 la2
  have b0 : W3.cell? ⟨w.heap.size + 1, 0, none⟩ = some (.bool bB) := HW2.out.2.2.1.reads 0
  have b1 : W3.cell? ⟨w.heap.size + 1, 1, none⟩ = some (.slice aB nB cB) := HW2.out.2.2.1.reads 1
  have b2 : W3.cell? ⟨w.heap.size + 1, 2, none⟩ = some (.int .i64 s') := HW2.out.2.2.1.reads 2
  have lb := HW2.out.2.2.1.lt
  go_wp2_with fail
  refine (liftD_is bB _ dB s' (max s s') W3 (row_below HRA.out.2 HW2.out.1) (by omega) (by omega) (by omega)).mono ?_
  rintro e w4 ⟨v4, rfl, hown, hb⟩
  obtain ⟨av4, cv4, rfl⟩ := own_slice' hown
  rw [← HE.out.2.1] at hown
  have hA4 := HW2.out.2.1.later hb
  have hB4 := HW2.out.2.2.1.here hb
  have hR4 := HW2.out.2.2.2.here hb
  have y0 : w4.cell? ⟨w.heap.size + 1, 0, none⟩ = some (.bool bB) := hB4.reads 0
  have y1 : w4.cell? ⟨w.heap.size + 1, 1, none⟩ = some (.slice aB nB cB) := hB4.reads 1
  have y2 : w4.cell? ⟨w.heap.size + 1, 2, none⟩ = some (.int .i64 s') := hB4.reads 2
  have f0 := hB4.thawed 0
  have f1 := hB4.thawed 1
  have f2 := hB4.thawed 2
  have lb4 := hB4.lt
  have hbb := HW2.out.1.trans (hb.mono HW2.out.1.size)
  have HW4 := Lib.hid (And.intro (below_set3 hbb (show w.heap.size ≤ w.heap.size + 1 by omega) (.bool bB) (.slice av4 B.length cv4) (.int .i64 ((max s' (max s s') : Nat) : Int))) (And.intro (hA4.aside hB4 (show w.heap.size ≠ w.heap.size + 1 by omega) (.bool bB) (.slice av4 B.length cv4) (.int .i64 ((max s' (max s s') : Nat) : Int))) (And.intro (nv_store hB4 hown (b' := bB) (s' := ((max s' (max s s') : Nat) : Int))) (whole_away3 hR4 (show w.heap.size + 1 + 1 ≠ w.heap.size + 1 by omega) (.bool bB) (.slice av4 B.length cv4) (.int .i64 ((max s' (max s s') : Nat) : Int))))))
  clear hA4 hB4 hR4 hbb hown hb b0 b1 b2 lb HW2
  go_upto_region 4 with fail
  rw [← HE.out.2.1]
  generalize hW5 : ((w4.setCell ⟨w.heap.size + 1, 0, none⟩ (.bool bB)).setCell ⟨w.heap.size + 1, 1, none⟩ (.slice av4 B.length cv4)).setCell ⟨w.heap.size + 1, 2, none⟩ (.int .i64 ((max s' (max s s') : Nat) : Int)) = W5 at *
  clear hW5 y0 y1 y2 f0 f1 f2 lb4
  obtain ⟨a0, a1, -, -, la⟩ := HW4.out.2.1.cells
  obtain ⟨b0, b1, -, -, lb⟩ := HW4.out.2.2.1.cells
  have hRR := HW4.out.2.2.2
  clear hRR
  by_cases hbe : bA = bB
  · have q1 : (bA != bB) = false := by rw [bne_eq_false_iff_eq]; exact hbe
    have q2 : (bA == bB) = true := by rw [beq_iff_eq]; exact hbe
    clear hbe
    have HP6 := Lib.hid (show NV (W5.alloc (.cells #[.bool bA, .slice none 0 0, .int .i64 ((max s s' : Nat) : Int)] 113)) W5.heap.size bA [] ((max s s' : Nat) : Int) (.slice none 0 0) (W5.heap.size + 1) ∧ Below W5.heap.size W5 (W5.alloc (.cells #[.bool bA, .slice none 0 0, .int .i64 ((max s s' : Nat) : Int)] 113)) from ⟨NV.made (World.ownsRow_nil _ _ _ _), (Below.refl _ _).alloc (Nat.le_refl _) _⟩)
    go_wp2_with fail
    go_loopw [7, 8] (fun cv kv wr => ∃ (k : Nat) (c : Int) (out : List Int) (v : Value), k ≤ max A.length B.length + 1 ∧ kv = .int .i64 k ∧ cv = .int .i64 c ∧ (0 ≤ c ∧ c ≤ 1) ∧ Hid (SumAt A B out (1) c k) ∧ NV wr W5.heap.size bA out ((max s s' : Nat) : Int) v (W5.heap.size + 1) ∧ Below W5.heap.size W5 wr) (fun _ kv _ => 402 - (intOf kv).toNat)
    case atStart => exact ⟨0, 0, [], _, by omega, rfl, rfl, by omega, Lib.hid (SumAt.start _ _ _), HP6.out.1, HP6.out.2⟩
    case round =>
      obtain ⟨k, c, out, v, hk, rfl, rfl, hc, HSA, hnv, hbw⟩ := hrel
      obtain ⟨av, cv, rfl⟩ := hnv.form
      have hA6 := HW4.out.2.1.later hbw
      have hB6 := HW4.out.2.2.1.later hbw
      have hR6 := HW4.out.2.2.2.here hbw
      obtain ⟨a0', a1', -, -, la'⟩ := hA6.cells
      obtain ⟨b0', b1', -, -, lb'⟩ := hB6.cells
      obtain ⟨o0, o1, o2, of, ol⟩ := hnv.cells
      have of1 := of 1
      have hol := HSA.out.1
      have HV := Lib.hid (And.intro hnv (And.intro hbw (And.intro hA6 (And.intro hB6 hR6))))
      have hmx : (max (A.length : Int) (B.length : Int)) = ((max A.length B.length : Nat) : Int) := by omega
      have hmx2 : max A.length B.length ≤ 200 := by omega
      have hout : out.length ≤ 201 := by omega
      clear hnv hbw hA6 hB6 hR6 of hol
      by_cases hlt : k ≤ max A.length B.length
      · have hdA := digitAt_le HGD.out.1 k
        have hdB := digitAt_le HGD.out.2 k
        have hstep := fun n c' => HSA.out.step (n := n) (c' := c') HGD.out.1 HGD.out.2
        have c1 := digit_ok _ A k wr HV.out.2.2.1.reads (by omega)
        have c2 := digit_ok _ B k wr HV.out.2.2.2.1.reads (by omega)
        have HST := Lib.hid hstep
        have HCC := Lib.hid (And.intro c1 c2)
        clear hstep c1 c2
        generalize digitAt A k = x at *
        generalize digitAt B k = y at *
        go_wp2_with fail
        refine HCC.out.1.mono ?_
        rintro e w7 ⟨rfl, rfl⟩
        go_wp2_with fail
        refine HCC.out.2.mono ?_
        rintro e w7 ⟨rfl, rfl⟩
        have key : ∃ n c' : Int, (0 ≤ n ∧ n ≤ 9) ∧ (0 ≤ c' ∧ c' ≤ 1) ∧ n + 10 * c' = x + c + (1) * y ∧ ((9 < x + c + y ∧ n = x + c + y - 10 ∧ c' = 1) ∨ (x + c + y < 0 ∧ n = x + c + y + 10 ∧ c' = -1) ∨ (¬ 9 < x + c + y ∧ ¬ x + c + y < 0 ∧ n = x + c + y ∧ c' = 0)) := by
          by_cases h9 : 9 < x + c + y
          · exact ⟨x + c + y - 10, 1, by omega, by omega, by omega, .inl ⟨h9, rfl, rfl⟩⟩
          · by_cases h0 : x + c + y < 0
            · exact ⟨x + c + y + 10, -1, by omega, by omega, by omega, .inr (.inl ⟨h0, rfl, rfl⟩)⟩
            · exact ⟨x + c + y, 0, by omega, by omega, by omega, .inr (.inr ⟨h9, h0, rfl, rfl⟩)⟩
        obtain ⟨n, c', hn, hc', he, hcase⟩ := key
        have HN := Lib.hid (HST.out n c' hn he)
        clear he
        rcases hcase with ⟨h9, rfl, rfl⟩ | ⟨h0, rfl, rfl⟩ | ⟨h9, h0, rfl, rfl⟩
        all_goals try (exfalso; clear HN HST HCC HV HSA; omega)
        all_goals
          go_wp2_with (at_builtin; refine wpList_append_own _ rfl _ _ 25 rfl (W5.heap.size + 1) 3 i0 (.int .i64 0) 1 8 Try.underlying25 hi hz0 hz1 hz2 rfl (by decide) _ _ _ rfl (HV.out.1.2.alloc _) ⟨wr.heap.size, 0, none⟩ 1 1 [.int .i64 _] rfl rfl (World.news_of_block (t := 3) (fr := (0, 0)) (heap_alloc_new wr _)) ?c2 ?c3 ?c4 ?c5 ?_)
          case c2 => simp [Value.oneCell']
          case c3 => unfold maxLen; omega
          case c4 => omega
          case c5 => first | omega | (simp; omega)
          intro v' w8 hown' hgrow _
          have hx := sum_step HV.out.1 HV.out.2.1 hgrow hown'
          obtain ⟨av8, cv8, rfl⟩ := own_slice' hown'
          have d1 : w8.cell? ⟨W5.heap.size, 1, none⟩ = some (.slice av out.length cv) := hx.1.reads 1
          have e1 := hx.1.thawed 1
          have l8 := hx.1.lt
          have HXX := Lib.hid (hx.2)
          clear hx hown' hgrow
          go_wp2_with fail
          go_roundw
          case rel => exact ⟨k + 1, _, _, _, by omega, by go_num, rfl, hc', HN, HXX.out⟩
          case measure => simp [intOf]; omega
      · obtain rfl : k = max A.length B.length + 1 := by omega
        have r0 : wr.cell? ⟨w.heap.size + 1 + 1, 0, none⟩ = some (.bool false) := HV.out.2.2.2.2.reads 0
        have r1 : wr.cell? ⟨w.heap.size + 1 + 1, 1, none⟩ = some (.slice none 0 0) := HV.out.2.2.2.2.reads 1
        have r2 : wr.cell? ⟨w.heap.size + 1 + 1, 2, none⟩ = some (.int .i64 0) := HV.out.2.2.2.2.reads 2
        have z0 := HV.out.2.2.2.2.thawed 0
        have z1 := HV.out.2.2.2.2.thawed 1
        have z2 := HV.out.2.2.2.2.thawed 2
        have lr := HV.out.2.2.2.2.lt
        have hnum := SumAt.end (bs := true) (by simpa using HSA.out) HGD.out.1 HGD.out.2 rfl (by omega) (fun h => by cases h)
        have hown9 := own_mono (own_off HV.out.1.2 HV.out.2.2.2.2 (.bool bA) (.slice av out.length cv) (.int .i64 ((max s s' : Nat) : Int))) (show w.heap.size ≤ W5.heap.size + 1 by have := HW4.out.1.size; omega)
        have hb9 := below_set3 (HW4.out.1.trans (HV.out.2.1.mono HW4.out.1.size)) (show w.heap.size ≤ w.heap.size + 1 + 1 by omega) (.bool bA) (.slice av out.length cv) (.int .i64 ((max s s' : Nat) : Int))
        have HF := Lib.hid (And.intro hown9 (And.intro HSA.out.2.1 (And.intro hnum hb9)))
        have hsv : sumV bA bB (num A) (num B) = if true = true then num A + num B else num A - num B := by unfold sumV; rw [q2]
        have HSV := Lib.hid hsv
        clear hnum hown9 hb9 hsv
        go_wp2_with fail
        refine bodyPost_ret (v := .agg #[.bool bA, .slice av out.length cv, .int .i64 ((max s s' : Nat) : Int)]) (by simp [results, Try.results94, go_sem, r0, r1, r2]) rfl ⟨_, out, by rw [HE.out.2.2], HF.out.1, HF.out.2.1, by rw [HSV.out]; exact HF.out.2.2.1, by omega, HF.out.2.2.2⟩
  · have q1 : (bA != bB) = true := by rw [bne_iff_ne]; exact hbe
    have q2 : (bA == bB) = false := by rw [beq_eq_false_iff_ne]; exact hbe
    have hle := HO.out hbe
    have hless := less_any _ _ A B W5 HW4.out.2.1.reads HW4.out.2.2.1.reads HGD.out.1 HGD.out.2 (by omega) (by omega)
    rw [decide_eq_false (show ¬ num A < num B by omega)] at hless
    have HLS := Lib.hid hless
    have HO2 : Hid (num B ≤ num A) := Lib.hid hle
    clear hbe hle hless
    go_wp2_with fail
    refine HLS.out.mono ?_
    rintro e w6 ⟨rfl, rfl⟩
    have HP6 := Lib.hid (show NV (W5.alloc (.cells #[.bool bA, .slice none 0 0, .int .i64 ((max s s' : Nat) : Int)] 113)) W5.heap.size bA [] ((max s s' : Nat) : Int) (.slice none 0 0) (W5.heap.size + 1) ∧ Below W5.heap.size W5 (W5.alloc (.cells #[.bool bA, .slice none 0 0, .int .i64 ((max s s' : Nat) : Int)] 113)) from ⟨NV.made (World.ownsRow_nil _ _ _ _), (Below.refl _ _).alloc (Nat.le_refl _) _⟩)
    go_wp2_with fail
    go_loopw [7, 8] (fun cv kv wr => ∃ (k : Nat) (c : Int) (out : List Int) (v : Value), k ≤ max A.length B.length + 1 ∧ kv = .int .i64 k ∧ cv = .int .i64 c ∧ (-1 ≤ c ∧ c ≤ 0) ∧ Hid (SumAt A B out (-1) c k) ∧ NV wr W5.heap.size bA out ((max s s' : Nat) : Int) v (W5.heap.size + 1) ∧ Below W5.heap.size W5 wr) (fun _ kv _ => 402 - (intOf kv).toNat)
    case atStart => exact ⟨0, 0, [], _, by omega, rfl, rfl, by omega, Lib.hid (SumAt.start _ _ _), HP6.out.1, HP6.out.2⟩
    case round =>
      obtain ⟨k, c, out, v, hk, rfl, rfl, hc, HSA, hnv, hbw⟩ := hrel
      obtain ⟨av, cv, rfl⟩ := hnv.form
      have hA6 := HW4.out.2.1.later hbw
      have hB6 := HW4.out.2.2.1.later hbw
      have hR6 := HW4.out.2.2.2.here hbw
      obtain ⟨a0', a1', -, -, la'⟩ := hA6.cells
      obtain ⟨b0', b1', -, -, lb'⟩ := hB6.cells
      obtain ⟨o0, o1, o2, of, ol⟩ := hnv.cells
      have of1 := of 1
      have hol := HSA.out.1
      have HV := Lib.hid (And.intro hnv (And.intro hbw (And.intro hA6 (And.intro hB6 hR6))))
      have hmx : (max (A.length : Int) (B.length : Int)) = ((max A.length B.length : Nat) : Int) := by omega
      have hmx2 : max A.length B.length ≤ 200 := by omega
      have hout : out.length ≤ 201 := by omega
      clear hnv hbw hA6 hB6 hR6 of hol
      by_cases hlt : k ≤ max A.length B.length
      · have hdA := digitAt_le HGD.out.1 k
        have hdB := digitAt_le HGD.out.2 k
        have hstep := fun n c' => HSA.out.step (n := n) (c' := c') HGD.out.1 HGD.out.2
        have c1 := digit_ok _ A k wr HV.out.2.2.1.reads (by omega)
        have c2 := digit_ok _ B k wr HV.out.2.2.2.1.reads (by omega)
        have HST := Lib.hid hstep
        have HCC := Lib.hid (And.intro c1 c2)
        clear hstep c1 c2
        generalize digitAt A k = x at *
        generalize digitAt B k = y at *
        go_wp2_with fail
        refine HCC.out.1.mono ?_
        rintro e w7 ⟨rfl, rfl⟩
        go_wp2_with fail
        refine HCC.out.2.mono ?_
        rintro e w7 ⟨rfl, rfl⟩
        have key : ∃ n c' : Int, (0 ≤ n ∧ n ≤ 9) ∧ (-1 ≤ c' ∧ c' ≤ 0) ∧ n + 10 * c' = x + c + (-1) * y ∧ ((9 < x + c - y ∧ n = x + c - y - 10 ∧ c' = 1) ∨ (x + c - y < 0 ∧ n = x + c - y + 10 ∧ c' = -1) ∨ (¬ 9 < x + c - y ∧ ¬ x + c - y < 0 ∧ n = x + c - y ∧ c' = 0)) := by
          by_cases h9 : 9 < x + c - y
          · exact ⟨x + c - y - 10, 1, by omega, by omega, by omega, .inl ⟨h9, rfl, rfl⟩⟩
          · by_cases h0 : x + c - y < 0
            · exact ⟨x + c - y + 10, -1, by omega, by omega, by omega, .inr (.inl ⟨h0, rfl, rfl⟩)⟩
            · exact ⟨x + c - y, 0, by omega, by omega, by omega, .inr (.inr ⟨h9, h0, rfl, rfl⟩)⟩
        obtain ⟨n, c', hn, hc', he, hcase⟩ := key
        have HN := Lib.hid (HST.out n c' hn he)
        clear he
        rcases hcase with ⟨h9, rfl, rfl⟩ | ⟨h0, rfl, rfl⟩ | ⟨h9, h0, rfl, rfl⟩
        all_goals try (exfalso; clear HN HST HCC HV HSA; omega)
        all_goals
          go_wp2_with (at_builtin; refine wpList_append_own _ rfl _ _ 25 rfl (W5.heap.size + 1) 3 i0 (.int .i64 0) 1 8 Try.underlying25 hi hz0 hz1 hz2 rfl (by decide) _ _ _ rfl (HV.out.1.2.alloc _) ⟨wr.heap.size, 0, none⟩ 1 1 [.int .i64 _] rfl rfl (World.news_of_block (t := 3) (fr := (0, 0)) (heap_alloc_new wr _)) ?c2 ?c3 ?c4 ?c5 ?_)
          case c2 => simp [Value.oneCell']
          case c3 => unfold maxLen; omega
          case c4 => omega
          case c5 => first | omega | (simp; omega)
          intro v' w8 hown' hgrow _
          have hx := sum_step HV.out.1 HV.out.2.1 hgrow hown'
          obtain ⟨av8, cv8, rfl⟩ := own_slice' hown'
          have d1 : w8.cell? ⟨W5.heap.size, 1, none⟩ = some (.slice av out.length cv) := hx.1.reads 1
          have e1 := hx.1.thawed 1
          have l8 := hx.1.lt
          have HXX := Lib.hid (hx.2)
          clear hx hown' hgrow
          go_wp2_with fail
          go_roundw
          case rel => exact ⟨k + 1, _, _, _, by omega, by go_num, rfl, hc', HN, HXX.out⟩
          case measure => simp [intOf]; omega
      · obtain rfl : k = max A.length B.length + 1 := by omega
        have r0 : wr.cell? ⟨w.heap.size + 1 + 1, 0, none⟩ = some (.bool false) := HV.out.2.2.2.2.reads 0
        have r1 : wr.cell? ⟨w.heap.size + 1 + 1, 1, none⟩ = some (.slice none 0 0) := HV.out.2.2.2.2.reads 1
        have r2 : wr.cell? ⟨w.heap.size + 1 + 1, 2, none⟩ = some (.int .i64 0) := HV.out.2.2.2.2.reads 2
        have z0 := HV.out.2.2.2.2.thawed 0
        have z1 := HV.out.2.2.2.2.thawed 1
        have z2 := HV.out.2.2.2.2.thawed 2
        have lr := HV.out.2.2.2.2.lt
        have hnum := SumAt.end (bs := false) (by simpa using HSA.out) HGD.out.1 HGD.out.2 rfl (by omega) (fun _ => HO2.out)
        have hown9 := own_mono (own_off HV.out.1.2 HV.out.2.2.2.2 (.bool bA) (.slice av out.length cv) (.int .i64 ((max s s' : Nat) : Int))) (show w.heap.size ≤ W5.heap.size + 1 by have := HW4.out.1.size; omega)
        have hb9 := below_set3 (HW4.out.1.trans (HV.out.2.1.mono HW4.out.1.size)) (show w.heap.size ≤ w.heap.size + 1 + 1 by omega) (.bool bA) (.slice av out.length cv) (.int .i64 ((max s s' : Nat) : Int))
        have HF := Lib.hid (And.intro hown9 (And.intro HSA.out.2.1 (And.intro hnum hb9)))
        have hsv : sumV bA bB (num A) (num B) = if false = true then num A + num B else num A - num B := by unfold sumV; rw [q2]
        have HSV := Lib.hid hsv
        clear hnum hown9 hb9 hsv
        go_wp2_with fail
        refine bodyPost_ret (v := .agg #[.bool bA, .slice av out.length cv, .int .i64 ((max s s' : Nat) : Int)]) (by simp [results, Try.results94, go_sem, r0, r1, r2]) rfl ⟨_, out, by rw [HE.out.2.2], HF.out.1, HF.out.2.1, by rw [HSV.out]; exact HF.out.2.2.1, by omega, HF.out.2.2.2⟩
end Go.Proofs.Ytmleoagdelgddaa
/- The plain mathematics of the reference's Mul. -/
namespace Go.Proofs.Ytmleoagdelgddaa
open Go.RowKit Dec

theorem num_set {L : List Int} {j : Nat} {a : Int} (h : L[j]? = some a) (v : Int) : num (L.set j v) + 10 ^ j * a.toNat = num L + 10 ^ j * v.toNat := by
  obtain ⟨hj, rfl⟩ := List.getElem?_eq_some_iff.1 h
  have e1 : L = L.take j ++ L[j] :: L.drop (j + 1) := by
    conv => lhs; rw [← List.take_append_drop j L, List.drop_eq_getElem_cons hj]
  have e2 : L.set j v = L.take j ++ v :: L.drop (j + 1) := List.set_eq_take_append_cons_drop.trans (by rw [if_pos hj])
  have hl : (L.take j).length = j := by rw [List.length_take]; omega
  have n1 : num L = num (L.take j) + 10 ^ j * (L[j].toNat + 10 * num (L.drop (j + 1))) := by
    conv => lhs; rw [e1]
    rw [num_append, hl]
    rfl
  have n2 : num (L.set j v) = num (L.take j) + 10 ^ j * (v.toNat + 10 * num (L.drop (j + 1))) := by
    rw [e2, num_append, hl]
    rfl
  rw [n1, n2, Nat.mul_add, Nat.mul_add]
  omega
theorem take_nat (ds : List Int) (hd : Digs ds) (k : Nat) : num (ds.take (k + 1)) = num (ds.take k) + 10 ^ k * (digitAt ds k).toNat := by
  have h := take_num ds hd k
  have h4 := digitAt_le hd k
  have e : ((10 ^ k : Nat) : Int) * digitAt ds k = ((10 ^ k * (digitAt ds k).toNat : Nat) : Int) := by
    push_cast
    rw [Int.toNat_of_nonneg h4.1]
  rw [e] at h
  omega
/-- What the loop of products keeps. -/
structure MulAt (X Y L : List Int) (i k : Nat) : Prop where
  len : L.length = X.length + Y.length + 1
  bnd : ∀ x ∈ L, 0 ≤ x ∧ x ≤ ((81 * (i * Y.length + k) : Nat) : Int)
  val : num L = num (X.take i) * num Y + (digitAt X i).toNat * 10 ^ i * num (Y.take k)
theorem MulAt.start (X Y : List Int) : MulAt X Y (List.replicate (X.length + Y.length + 1) 0) 0 0 :=
  ⟨by simp, fun x hx => by have := List.eq_of_mem_replicate hx; omega, by rw [num_rep]; simp [num]⟩
theorem mem_set {L : List Int} {j : Nat} {v x : Int} (h : x ∈ L.set j v) : x ∈ L ∨ x = v := List.mem_or_eq_of_mem_set h
theorem MulAt.step {X Y L : List Int} {i k : Nat} {a : Int} (h : MulAt X Y L i k) (hX : Digs X) (hY : Digs Y) (ha : L[i + k]? = some a) : MulAt X Y (L.set (i + k) (a + digitAt X i * digitAt Y k)) i (k + 1) := by
  have dx := digitAt_le hX i
  have dy := digitAt_le hY k
  have hb := h.bnd a (List.mem_of_getElem? ha)
  obtain ⟨x, hx⟩ : ∃ x : Nat, digitAt X i = x := ⟨(digitAt X i).toNat, (Int.toNat_of_nonneg dx.1).symm⟩
  obtain ⟨y, hy⟩ : ∃ y : Nat, digitAt Y k = y := ⟨(digitAt Y k).toNat, (Int.toNat_of_nonneg dy.1).symm⟩
  obtain ⟨b, rfl⟩ : ∃ b : Nat, a = b := ⟨a.toNat, (Int.toNat_of_nonneg hb.1).symm⟩
  have hxy : x * y ≤ 81 := by
    have h1 : x ≤ 9 := by omega
    have h2 : y ≤ 9 := by omega
    exact Nat.mul_le_mul h1 h2
  have e0 : (b : Int) + digitAt X i * digitAt Y k = ((b + x * y : Nat) : Int) := by rw [hx, hy]; push_cast; rfl
  rw [e0]
  refine ⟨by rw [List.length_set]; exact h.len, fun z hz => ?_, ?_⟩
  · rcases mem_set hz with e | e
    · have := h.bnd z e; omega
    · subst e; omega
  · have h1 := num_set ha ((b + x * y : Nat) : Int)
    have h2 := h.val
    have h3 := take_nat Y hY k
    rw [hx, Int.toNat_natCast] at h2 ⊢
    rw [hy, Int.toNat_natCast] at h3
    simp only [Int.toNat_natCast] at h1
    rw [h3, Nat.mul_add]
    have h4 : x * 10 ^ i * (10 ^ k * y) = 10 ^ (i + k) * (x * y) := by
      rw [Nat.pow_add]
      rw [show x * 10 ^ i * (10 ^ k * y) = (10 ^ i * 10 ^ k) * (x * y) by rw [Nat.mul_comm x, Nat.mul_assoc, Nat.mul_assoc, Nat.mul_left_comm x]]
    rw [h4]
    rw [Nat.mul_add] at h1
    omega
theorem MulAt.next {X Y L : List Int} {i : Nat} (h : MulAt X Y L i Y.length) (hX : Digs X) : MulAt X Y L (i + 1) 0 := by
  refine ⟨h.len, fun x hx => ?_, ?_⟩
  · have := h.bnd x hx
    rw [Nat.add_mul]
    omega
  · have h2 := h.val
    rw [List.take_of_length_le (Nat.le_refl _)] at h2
    rw [h2, take_nat X hX i, List.take_zero, Nat.add_mul]
    simp only [num, Nat.mul_zero, Nat.add_zero]
    rw [Nat.mul_comm (10 ^ i)]
/-- What the loop of carries keeps. -/
structure CarAt (L : List Int) (n V i : Nat) : Prop where
  len : L.length = n
  val : num L = V
  low : ∀ (j : Nat) (x : Int), j < i → L[j]? = some x → x ≤ 9
  bnd : ∀ x ∈ L, 0 ≤ x ∧ x ≤ 60000
  rest : ∀ (j : Nat) (x : Int), i < j → L[j]? = some x → x ≤ 30000
theorem CarAt.start {X Y L : List Int} (h : MulAt X Y L X.length 0) (hx : X.length ≤ 18) (hy : Y.length ≤ 18) : CarAt L (X.length + Y.length + 1) (num X * num Y) 0 := by
  have hb : 81 * (X.length * Y.length + 0) ≤ 81 * (18 * 18) := Nat.mul_le_mul_left 81 (Nat.mul_le_mul hx hy)
  have hv := h.val
  rw [List.take_of_length_le (Nat.le_refl _), List.take_zero] at hv
  refine ⟨h.len, by rw [hv]; simp [num], fun j x hj => absurd hj (by omega), fun x hxl => ?_, fun j x _ hj => ?_⟩
  · have := h.bnd x hxl; omega
  · have := h.bnd x (List.mem_of_getElem? hj); omega
theorem CarAt.step {L : List Int} {n V i : Nat} {a b : Int} (h : CarAt L n V i) (ha : L[i]? = some a) (hb : L[i + 1]? = some b) : CarAt ((L.set (i + 1) (b + a / 10)).set i (a % 10)) n V (i + 1) := by
  have b1 := h.bnd a (List.mem_of_getElem? ha)
  have b2 := h.bnd b (List.mem_of_getElem? hb)
  have b3 := h.rest (i + 1) b (by omega) hb
  have hi := (List.getElem?_eq_some_iff.1 ha).1
  have hi1 := (List.getElem?_eq_some_iff.1 hb).1
  have ha' : (L.set (i + 1) (b + a / 10))[i]? = some a := by rw [List.getElem?_set_ne (by omega)]; exact ha
  refine ⟨by rw [List.length_set, List.length_set]; exact h.len, ?_, fun j x hj hx => ?_, fun x hx => ?_, fun j x hj hx => ?_⟩
  · have e1 := num_set hb (b + a / 10)
    have e2 := num_set ha' (a % 10)
    have e3 := h.val
    have e4 : (b + a / 10).toNat = b.toNat + a.toNat / 10 := by omega
    have e5 : (a % 10).toNat = a.toNat % 10 := by omega
    rw [e4, Nat.mul_add, Nat.pow_succ] at e1
    rw [e5] at e2
    have e6 : 10 ^ i * a.toNat = 10 ^ i * 10 * (a.toNat / 10) + 10 ^ i * (a.toNat % 10) := by
      rw [Nat.mul_assoc, ← Nat.mul_add]
      congr 1
      omega
    omega
  · by_cases e : j = i
    · subst e
      rw [List.getElem?_set_self (by rw [List.length_set]; exact hi)] at hx
      injection hx with hx
      omega
    · rw [List.getElem?_set_ne (by omega), List.getElem?_set_ne (by omega)] at hx
      exact h.low j x (by omega) hx
  · rcases mem_set hx with e | e
    · rcases mem_set e with e | e
      · exact h.bnd x e
      · omega
    · omega
  · rw [List.getElem?_set_ne (by omega), List.getElem?_set_ne (by omega)] at hx
    exact h.rest j x (by omega) hx
theorem CarAt.end {X Y L : List Int} {i : Nat} (h : CarAt L (X.length + Y.length + 1) (num X * num Y) i) (hX : Digs X) (hY : Digs Y) (hi : i = X.length + Y.length) : Digs L ∧ num L = num X * num Y := by
  refine ⟨fun d hd => ?_, h.val⟩
  have b := h.bnd d hd
  refine ⟨b.1, ?_⟩
  obtain ⟨j, hj, e⟩ := List.getElem_of_mem hd
  have hj' : L[j]? = some d := by rw [List.getElem?_eq_getElem hj, e]
  by_cases hji : j < i
  · exact h.low j d hji hj'
  · have hl := h.len
    obtain rfl : j = i := by omega
    have h1 := num_drop (ds := L) (p := j) hj
    have h2 := num_split L j
    have hx := num_lt hX
    have hy := num_lt hY
    have h3 : num X * num Y < 10 ^ j := by
      rw [hi, Nat.pow_add]
      exact Nat.mul_lt_mul'' hx hy
    have h4 := h.val
    have h5 : L.getD j 0 = d := by rw [List.getD_eq_getElem?_getD, hj']; rfl
    rw [h5] at h1
    rw [h1, Nat.mul_add] at h2
    by_cases hd0 : d ≤ 0
    · omega
    · have : 10 ^ j * 1 ≤ 10 ^ j * d.toNat := Nat.mul_le_mul_left _ (by omega)
      omega
end Go.Proofs.Ytmleoagdelgddaa
/- The reference's sum, where the greater number stands second; its Add. -/
namespace Go.Proofs.Ytmleoagdelgddaa
open Go.RowKit Dec

theorem liftD_none (s : Nat) (ds : List Int) : liftD s s ds = ds := by unfold liftD; rw [Nat.sub_self]; rfl
set_option maxRecDepth 100000 in
set_option maxHeartbeats 8000000 in
theorem sum_rev (bA bB : Bool) (vA vB : Value) (dA dB : List Int) (s s' : Nat) (w : World) (hA : Row w vA dA) (hB : Row w vB dB) (gA : Digs dA) (gB : Digs dB) (lA : dA.length ≤ 100) (lB : dB.length ≤ 100) (hs : s ≤ 50) (hs' : s' ≤ 50)
    (A B : List Int) (S : Nat) (eA : A = liftD (max s s') s dA) (eB : B = liftD (max s s') s' dB) (eS : S = max s s') (hne : bA ≠ bB) (hord : num A < num B) :
    Calls Try.prog 94 #[.agg #[.bool bA, vA, .int .i64 s], .agg #[.bool bB, vB, .int .i64 s']] w (IsSum bB (sumV bB bA (num B) (num A)) S w) := by
  obtain ⟨i0, hi, hz0, hz1, hz2⟩ := info_parts info3
  have hformA : ∃ a n c, vA = .slice a n c := by
    rcases hA with ⟨rfl, -⟩ | ⟨g, o, c, rfl, -, -⟩
    · exact ⟨_, _, _, rfl⟩
    · exact ⟨_, _, _, rfl⟩
  have hformB : ∃ a n c, vB = .slice a n c := by
    rcases hB with ⟨rfl, -⟩ | ⟨g, o, c, rfl, -, -⟩
    · exact ⟨_, _, _, rfl⟩
    · exact ⟨_, _, _, rfl⟩
  obtain ⟨aA, nA, cA, rfl⟩ := hformA
  obtain ⟨aB, nB, cB, rfl⟩ := hformB
  have HRA := Lib.hid (And.intro hA hB)
  have HO := Lib.hid (And.intro hne hord)
  have HE := Lib.hid (And.intro eA (And.intro eB eS))
  have lD : A.length ≤ 150 := by rw [eA, liftD_len]; omega
  have lD' : B.length ≤ 150 := by rw [eB, liftD_len]; omega
  have gD : Digs A := by rw [eA]; exact liftD_digs gA
  have gD' : Digs B := by rw [eB]; exact liftD_digs gB
  have HGD := Lib.hid (And.intro gD gD')
  clear hA hB gA gB hne hord eA eB eS gD gD'
  go_enter Try.func94, Try.ntmps94
  have HW1 := Lib.hid (show Below w.heap.size w (((w.alloc (.cells #[.bool bA, .slice aA nA cA, .int .i64 s] 113)).alloc (.cells #[.bool bB, .slice aB nB cB, .int .i64 s'] 113)).alloc (.cells #[.bool false, .slice none 0 0, .int .i64 0] 113)) ∧ Whole (((w.alloc (.cells #[.bool bA, .slice aA nA cA, .int .i64 s] 113)).alloc (.cells #[.bool bB, .slice aB nB cB, .int .i64 s'] 113)).alloc (.cells #[.bool false, .slice none 0 0, .int .i64 0] 113)) w.heap.size 113 #[.bool bA, .slice aA nA cA, .int .i64 s] ∧ Whole (((w.alloc (.cells #[.bool bA, .slice aA nA cA, .int .i64 s] 113)).alloc (.cells #[.bool bB, .slice aB nB cB, .int .i64 s'] 113)).alloc (.cells #[.bool false, .slice none 0 0, .int .i64 0] 113)) (w.heap.size + 1) 113 #[.bool bB, .slice aB nB cB, .int .i64 s'] ∧ Whole (((w.alloc (.cells #[.bool bA, .slice aA nA cA, .int .i64 s] 113)).alloc (.cells #[.bool bB, .slice aB nB cB, .int .i64 s'] 113)).alloc (.cells #[.bool false, .slice none 0 0, .int .i64 0] 113)) (w.heap.size + 1 + 1) 113 #[.bool false, .slice none 0 0, .int .i64 0] from by
    refine ⟨((((Below.refl w.heap.size w).alloc (Nat.le_refl _) _).alloc (by simp) _).alloc (by simp; omega) _), ((Whole.made _ _ _).old _).old _, ?_, ?_⟩
    · have := (Whole.made (w.alloc (.cells #[.bool bA, .slice aA nA cA, .int .i64 s] 113)) 113 #[.bool bB, .slice aB nB cB, .int .i64 s']).old (.cells #[.bool false, .slice none 0 0, .int .i64 0] 113)
      simpa using this
    · have := Whole.made ((w.alloc (.cells #[.bool bA, .slice aA nA cA, .int .i64 s] 113)).alloc (.cells #[.bool bB, .slice aB nB cB, .int .i64 s'] 113)) 113 #[.bool false, .slice none 0 0, .int .i64 0]
      simpa using this)
  go_upto_region 1 with fail
  generalize hW1 : ((w.alloc (.cells #[.bool bA, .slice aA nA cA, .int .i64 s] 113)).alloc (.cells #[.bool bB, .slice aB nB cB, .int .i64 s'] 113)).alloc (.cells #[.bool false, .slice none 0 0, .int .i64 0] 113) = W1 at *
  clear hW1
  have hS : (max (s : Int) (s' : Int)) = ((max s s' : Nat) : Int) := by omega
  have hS9 : max s s' ≤ 50 := by omega
  have a0 : W1.cell? ⟨w.heap.size, 0, none⟩ = some (.bool bA) := HW1.out.2.1.reads 0
  have a1 : W1.cell? ⟨w.heap.size, 1, none⟩ = some (.slice aA nA cA) := HW1.out.2.1.reads 1
  have a2 : W1.cell? ⟨w.heap.size, 2, none⟩ = some (.int .i64 s) := HW1.out.2.1.reads 2
  have b2 : W1.cell? ⟨w.heap.size + 1, 2, none⟩ = some (.int .i64 s') := HW1.out.2.2.1.reads 2
  have la := HW1.out.2.1.lt
  have lb := HW1.out.2.2.1.lt
  go_wp2_with fail
  refine (liftD_is bA _ dA s (max s s') W1 (row_below HRA.out.1 HW1.out.1) (by omega) (by omega) (by omega)).mono ?_
  rintro e w2 ⟨v2, rfl, hown, hb⟩
  obtain ⟨av2, cv2, rfl⟩ := own_slice' hown
  have hA2 := HW1.out.2.1.here hb
  have hB2 := HW1.out.2.2.1.here hb
  have hR2 := HW1.out.2.2.2.here hb
  have x0 : w2.cell? ⟨w.heap.size, 0, none⟩ = some (.bool bA) := hA2.reads 0
  have x1 : w2.cell? ⟨w.heap.size, 1, none⟩ = some (.slice aA nA cA) := hA2.reads 1
  have x2 : w2.cell? ⟨w.heap.size, 2, none⟩ = some (.int .i64 s) := hA2.reads 2
  have f0 := hA2.thawed 0
  have f1 := hA2.thawed 1
  have f2 := hA2.thawed 2
  have la2 := hA2.lt
  rw [← HE.out.1] at hown
  have hbb := HW1.out.1.trans (hb.mono HW1.out.1.size)
  have HW2 := Lib.hid (And.intro (below_set3 hbb (Nat.le_refl _) (.bool bA) (.slice av2 A.length cv2) (.int .i64 ((max s (max s s') : Nat) : Int))) (And.intro (nv_store hA2 hown (b' := bA) (s' := ((max s (max s s') : Nat) : Int))) (And.intro (whole_away3 hB2 (show w.heap.size + 1 ≠ w.heap.size by omega) (.bool bA) (.slice av2 A.length cv2) (.int .i64 ((max s (max s s') : Nat) : Int))) (whole_away3 hR2 (show w.heap.size + 1 + 1 ≠ w.heap.size by omega) (.bool bA) (.slice av2 A.length cv2) (.int .i64 ((max s (max s s') : Nat) : Int))))))
  clear hA2 hB2 hR2 hbb hown hb a0 a1 a2 b2 la lb HW1
  go_upto_region 3 with fail
  rw [← HE.out.1]
  generalize hW3 : ((w2.setCell ⟨w.heap.size, 0, none⟩ (.bool bA)).setCell ⟨w.heap.size, 1, none⟩ (.slice av2 A.length cv2)).setCell ⟨w.heap.size, 2, none⟩ (.int .i64 ((max s (max s s') : Nat) : Int)) = W3 at *
  clear hW3 x0 x1 x2 f0 f1 f2 la2
  have b0 : W3.cell? ⟨w.heap.size + 1, 0, none⟩ = some (.bool bB) := HW2.out.2.2.1.reads 0
  have b1 : W3.cell? ⟨w.heap.size + 1, 1, none⟩ = some (.slice aB nB cB) := HW2.out.2.2.1.reads 1
  have b2 : W3.cell? ⟨w.heap.size + 1, 2, none⟩ = some (.int .i64 s') := HW2.out.2.2.1.reads 2
  have lb := HW2.out.2.2.1.lt
  go_wp2_with fail
  refine (liftD_is bB _ dB s' (max s s') W3 (row_below HRA.out.2 HW2.out.1) (by omega) (by omega) (by omega)).mono ?_
  rintro e w4 ⟨v4, rfl, hown, hb⟩
  obtain ⟨av4, cv4, rfl⟩ := own_slice' hown
  rw [← HE.out.2.1] at hown
  have hA4 := HW2.out.2.1.later hb
  have hB4 := HW2.out.2.2.1.here hb
  have hR4 := HW2.out.2.2.2.here hb
  have y0 : w4.cell? ⟨w.heap.size + 1, 0, none⟩ = some (.bool bB) := hB4.reads 0
  have y1 : w4.cell? ⟨w.heap.size + 1, 1, none⟩ = some (.slice aB nB cB) := hB4.reads 1
  have y2 : w4.cell? ⟨w.heap.size + 1, 2, none⟩ = some (.int .i64 s') := hB4.reads 2
  have f0 := hB4.thawed 0
  have f1 := hB4.thawed 1
  have f2 := hB4.thawed 2
  have lb4 := hB4.lt
  have hbb := HW2.out.1.trans (hb.mono HW2.out.1.size)
  have HW4 := Lib.hid (And.intro (below_set3 hbb (show w.heap.size ≤ w.heap.size + 1 by omega) (.bool bB) (.slice av4 B.length cv4) (.int .i64 ((max s' (max s s') : Nat) : Int))) (And.intro (hA4.aside hB4 (show w.heap.size ≠ w.heap.size + 1 by omega) (.bool bB) (.slice av4 B.length cv4) (.int .i64 ((max s' (max s s') : Nat) : Int))) (And.intro (nv_store hB4 hown (b' := bB) (s' := ((max s' (max s s') : Nat) : Int))) (whole_away3 hR4 (show w.heap.size + 1 + 1 ≠ w.heap.size + 1 by omega) (.bool bB) (.slice av4 B.length cv4) (.int .i64 ((max s' (max s s') : Nat) : Int))))))
  clear hA4 hB4 hR4 hbb hown hb b0 b1 b2 lb HW2
  go_upto_region 4 with fail
  rw [← HE.out.2.1]
  generalize hW5 : ((w4.setCell ⟨w.heap.size + 1, 0, none⟩ (.bool bB)).setCell ⟨w.heap.size + 1, 1, none⟩ (.slice av4 B.length cv4)).setCell ⟨w.heap.size + 1, 2, none⟩ (.int .i64 ((max s' (max s s') : Nat) : Int)) = W5 at *
  clear hW5 y0 y1 y2 f0 f1 f2 lb4
  obtain ⟨a0, a1, a2, -, la⟩ := HW4.out.2.1.cells
  obtain ⟨b0, b1, b2, -, lb⟩ := HW4.out.2.2.1.cells
  have q1 : (bA != bB) = true := by rw [bne_iff_ne]; exact HO.out.1
  have q2 : (bA == bB) = false := by rw [beq_eq_false_iff_ne]; exact HO.out.1
  have hless := less_any _ _ A B W5 HW4.out.2.1.reads HW4.out.2.2.1.reads HGD.out.1 HGD.out.2 (by omega) (by omega)
  rw [decide_eq_true HO.out.2] at hless
  have m1 : max s (max s s') = max s s' := by omega
  have m2 : max s' (max s s') = max s s' := by omega
  rw [m1] at HW4 a2
  rw [m2] at HW4 b2
  have hrec := sum_ord bB bA _ _ B A (max s s') (max s s') W5 HW4.out.2.2.1.row HW4.out.2.1.row HGD.out.2 HGD.out.1 (by omega) (by omega) (by omega) (by omega) B A (max s s') (by rw [Nat.max_self, liftD_none]) (by rw [Nat.max_self, liftD_none]) (by rw [Nat.max_self]) (fun _ => Nat.le_of_lt HO.out.2)
  have HLS := Lib.hid (And.intro hless hrec)
  clear hless hrec m1 m2
  go_wp2_with fail
  refine HLS.out.1.mono ?_
  rintro e w6 ⟨rfl, rfl⟩
  go_wp2_with fail
  refine HLS.out.2.mono ?_
  rintro e w7 ⟨v7, ds7, rfl, hown, hdg, hnum, hlen, hb⟩
  obtain ⟨av7, cv7, rfl⟩ := own_slice' hown
  have hR := HW4.out.2.2.2.here hb
  have r0 : w7.cell? ⟨w.heap.size + 1 + 1, 0, none⟩ = some (.bool false) := hR.reads 0
  have r1 : w7.cell? ⟨w.heap.size + 1 + 1, 1, none⟩ = some (.slice none 0 0) := hR.reads 1
  have r2 : w7.cell? ⟨w.heap.size + 1 + 1, 2, none⟩ = some (.int .i64 0) := hR.reads 2
  have z0 := hR.thawed 0
  have z1 := hR.thawed 1
  have z2 := hR.thawed 2
  have lr := hR.lt
  have hown9 := own_mono (own_off hown hR (.bool bB) (.slice av7 ds7.length cv7) (.int .i64 ((max s s' : Nat) : Int))) (show w.heap.size ≤ W5.heap.size from HW4.out.1.size)
  have hb9 := below_set3 (HW4.out.1.trans (hb.mono HW4.out.1.size)) (show w.heap.size ≤ w.heap.size + 1 + 1 by omega) (.bool bB) (.slice av7 ds7.length cv7) (.int .i64 ((max s s' : Nat) : Int))
  have HF := Lib.hid (And.intro hown9 (And.intro hdg (And.intro hnum (And.intro hlen hb9))))
  clear hR hown9 hb9 hdg hnum hlen hown hb
  go_wp2_with fail
  refine bodyPost_ret (v := .agg #[.bool bB, .slice av7 ds7.length cv7, .int .i64 ((max s s' : Nat) : Int)]) (by simp [results, Try.results94, go_sem, r0, r1, r2]) rfl ⟨_, ds7, by rw [HE.out.2.2], HF.out.1, HF.out.2.1, HF.out.2.2.1, HF.out.2.2.2.1, HF.out.2.2.2.2⟩

/-- Two decimals and a result's variable, at their places behind the start. -/
structure Three (w0 w : World) (m s m' s' : Int) : Prop where
  a : Whole w w0.heap.size 40 #[.int .i64 m, .int .i64 s]
  b : Whole w (w0.heap.size + 1) 40 #[.int .i64 m', .int .i64 s']
  r : Whole w (w0.heap.size + 1 + 1) 40 #[.int .i64 0, .int .i64 0]
  below : Below w0.heap.size w0 w
theorem Three.here {w0 w w' : World} {m s m' s' : Int} (h : Three w0 w m s m' s') (hb : Below w.heap.size w w') : Three w0 w' m s m' s' :=
  ⟨h.a.here hb, h.b.here hb, h.r.here hb, h.below.trans (hb.mono h.below.size)⟩
theorem Three.drew {w0 w : World} {m s m' s' : Int} (h : Three w0 w m s m' s') : Three w0 w.drew m s m' s' := ⟨h.a.drawn1, h.b.drawn1, h.r.drawn1, ⟨h.below.os, h.below.tape, h.below.output, h.below.size, h.below.block⟩⟩
theorem three_dec (w : World) (m s m' s' : Int) : Three w (((w.alloc (.cells #[.int .i64 m, .int .i64 s] 40)).alloc (.cells #[.int .i64 m', .int .i64 s'] 40)).alloc (.cells #[.int .i64 0, .int .i64 0] 40)) m s m' s' := by
  refine ⟨((Whole.made _ _ _).old _).old _, ?_, ?_, ((((Below.refl w.heap.size w).alloc (Nat.le_refl _) _).alloc (by simp) _).alloc (by simp; omega) _)⟩
  · have := (Whole.made (w.alloc (.cells #[.int .i64 m, .int .i64 s] 40)) 40 #[.int .i64 m', .int .i64 s']).old (.cells #[.int .i64 0, .int .i64 0] 40)
    simpa using this
  · have := Whole.made ((w.alloc (.cells #[.int .i64 m, .int .i64 s] 40)).alloc (.cells #[.int .i64 m', .int .i64 s'] 40)) 40 #[.int .i64 0, .int .i64 0]
    simpa using this
/-- What sum answers, by the signed number. -/
def IsSumV (V : Int) (s : Int) (w : World) (e : Ending) (w' : World) : Prop :=
  ∃ b v ds, e = .returned (.agg #[.bool b, v, .int .i64 s]) ∧ w'.ownsRow w.heap.size 3 1 v ds.length (ds.map (Value.int .i64)) ∧ Digs ds ∧ (V = if b = true then -(num ds : Int) else (num ds : Int)) ∧ ds.length ≤ 400 ∧ Below w.heap.size w w'
def sgn (b : Bool) (x : Nat) : Int := if b = true then -(x : Int) else (x : Int)
theorem rsum_any (bA bB : Bool) (vA vB : Value) (dA dB : List Int) (s s' : Nat) (w : World) (hA : Row w vA dA) (hB : Row w vB dB) (gA : Digs dA) (gB : Digs dB) (lA : dA.length ≤ 100) (lB : dB.length ≤ 100) (hs : s ≤ 50) (hs' : s' ≤ 50) :
    Calls Try.prog 94 #[.agg #[.bool bA, vA, .int .i64 s], .agg #[.bool bB, vB, .int .i64 s']] w (IsSumV (sgn bA (num (liftD (max s s') s dA)) + sgn bB (num (liftD (max s s') s' dB))) (max s s' : Nat) w) := by
  by_cases hbe : bA = bB
  · refine (sum_ord bA bB vA vB dA dB s s' w hA hB gA gB (by omega) (by omega) hs hs' _ _ _ rfl rfl rfl (fun h => absurd hbe h)).mono ?_
    rintro e w' ⟨v, ds, he, ho, hd, hn, hl, hb⟩
    refine ⟨bA, v, ds, he, ho, hd, ?_, hl, hb⟩
    rw [hn]
    subst hbe
    unfold sgn sumV
    cases bA <;> simp <;> omega
  · by_cases hle : num (liftD (max s s') s' dB) ≤ num (liftD (max s s') s dA)
    · refine (sum_ord bA bB vA vB dA dB s s' w hA hB gA gB (by omega) (by omega) hs hs' _ _ _ rfl rfl rfl (fun _ => hle)).mono ?_
      rintro e w' ⟨v, ds, he, ho, hd, hn, hl, hb⟩
      refine ⟨bA, v, ds, he, ho, hd, ?_, hl, hb⟩
      rw [hn]
      unfold sgn sumV
      generalize num (liftD (max s s') s' dB) = y at *
      generalize num (liftD (max s s') s dA) = x at *
      cases bA <;> cases bB <;> simp at hbe ⊢ <;> omega
    · refine (sum_rev bA bB vA vB dA dB s s' w hA hB gA gB lA lB hs hs' _ _ _ rfl rfl rfl hbe (by omega)).mono ?_
      rintro e w' ⟨v, ds, he, ho, hd, hn, hl, hb⟩
      refine ⟨bB, v, ds, he, ho, hd, ?_, hl, hb⟩
      rw [hn]
      unfold sgn sumV
      generalize num (liftD (max s s') s' dB) = y at *
      generalize num (liftD (max s s') s dA) = x at *
      cases bA <;> cases bB <;> simp at hbe ⊢ <;> omega
end Go.Proofs.Ytmleoagdelgddaa
/- The reference's Compare: the walk. -/
namespace Go.Proofs.Ytmleoagdelgddaa
open Go.RowKit Dec

/-- What Compare says of two numbers by their signs and digits. -/
def cmpN (b b' : Bool) (x y : Nat) : Int :=
  if b = b' then (if b = true then (if y < x then -1 else if x < y then 1 else 0) else (if x < y then -1 else if y < x then 1 else 0)) else (if b = true then -1 else 1)
theorem p10_nat (k : Nat) : p10 k = ((10 ^ k : Nat) : Int) := by unfold p10; push_cast; rfl
theorem val9_lift {m : Int} {s S : Nat} (hS : s ≤ S) (h9 : S ≤ 9) : val9 m s = m * ((10 ^ (S - s) : Nat) : Int) * p10 (9 - S) := by
  unfold val9
  rw [Int.toNat_natCast, show 9 - s = (S - s) + (9 - S) by omega, p10_add, p10_nat (S - s), Int.mul_assoc]
theorem cmp_is {m m' : Int} {s s' : Nat} (hv : Valid m s) (hv' : Valid m' s') :
    cmpN (decide (m < 0)) (decide (m' < 0)) (10 ^ (max s s' - s) * m.natAbs) (10 ^ (max s s' - s') * m'.natAbs) = Lib.compareInt (val9 m s) (val9 m' s') := by
  have h9 : max s s' ≤ 9 := by have := hv.2.2.2.1; have := hv'.2.2.2.1; omega
  rw [val9_lift (Nat.le_max_left s s') h9, val9_lift (Nat.le_max_right s s') h9]
  have hq := pow_pos10 (9 - max s s')
  have hq' : 0 < p10 (9 - max s s') := hq
  generalize p10 (9 - max s s') = Q at hq'
  have hp1 : 0 < 10 ^ (max s s' - s) := npow_pos10 _
  have hp2 : 0 < 10 ^ (max s s' - s') := npow_pos10 _
  generalize 10 ^ (max s s' - s) = p at *
  generalize 10 ^ (max s s' - s') = p' at *
  have cast1 : ((p * m.natAbs : Nat) : Int) = (p : Int) * (m.natAbs : Int) := by push_cast; rfl
  have cast2 : ((p' * m'.natAbs : Nat) : Int) = (p' : Int) * (m'.natAbs : Int) := by push_cast; rfl
  have sgn1 : m * (p : Int) = if m < 0 then -((p * m.natAbs : Nat) : Int) else ((p * m.natAbs : Nat) : Int) := by
    rw [cast1]
    split
    · rw [show (m.natAbs : Int) = -m by omega, Int.mul_neg, Int.neg_neg, Int.mul_comm]
    · rw [show (m.natAbs : Int) = m by omega, Int.mul_comm]
  have sgn2 : m' * (p' : Int) = if m' < 0 then -((p' * m'.natAbs : Nat) : Int) else ((p' * m'.natAbs : Nat) : Int) := by
    rw [cast2]
    split
    · rw [show (m'.natAbs : Int) = -m' by omega, Int.mul_neg, Int.neg_neg, Int.mul_comm]
    · rw [show (m'.natAbs : Int) = m' by omega, Int.mul_comm]
  have z1 : m < 0 → 0 < p * m.natAbs := fun h => Nat.mul_pos hp1 (by omega)
  have z2 : m' < 0 → 0 < p' * m'.natAbs := fun h => Nat.mul_pos hp2 (by omega)
  rw [sgn1, sgn2]
  generalize p * m.natAbs = x at *
  generalize p' * m'.natAbs = y at *
  clear cast1 cast2 sgn1 sgn2
  have hcmp : ∀ a b : Int, Lib.compareInt (a * Q) (b * Q) = Lib.compareInt a b := fun a b => by
    unfold Lib.compareInt
    have e1 : a * Q < b * Q ↔ a < b := Int.mul_lt_mul_right hq'
    have e2 : a * Q > b * Q ↔ a > b := Int.mul_lt_mul_right hq'
    simp only [e1, e2]
  rw [hcmp]
  unfold cmpN Lib.compareInt
  by_cases h1 : m < 0 <;> by_cases h2 : m' < 0 <;> simp only [h1, h2, decide_true, decide_false, if_true, if_false, reduceCtorEq, Bool.false_eq_true]
  · rcases Nat.lt_trichotomy x y with h | h | h
    · rw [if_neg (by omega), if_pos h, if_neg (by omega), if_pos (by omega)]
    · rw [if_neg (by omega), if_neg (by omega), if_neg (by omega), if_neg (by omega)]
    · rw [if_pos h, if_pos (by omega)]
  · have := z1 h1
    rw [if_pos (by omega)]
  · have := z2 h2
    rw [if_neg (by omega), if_pos (by omega)]
  · rcases Nat.lt_trichotomy x y with h | h | h
    · rw [if_pos h, if_pos (by omega)]
    · rw [if_neg (by omega), if_neg (by omega), if_neg (by omega), if_neg (by omega)]
    · rw [if_neg (by omega), if_pos h, if_neg (by omega), if_pos (by omega)]
theorem refcmp_bad (m s m' s' : Int) (w : World) (hv : ¬ (Valid m s ∧ Valid m' s')) :
    Calls Try.prog 77 #[.agg #[.int .i64 m, .int .i64 s], .agg #[.int .i64 m', .int .i64 s']] w fun e w' => e = .returned (.tuple #[.int .i64 0, .int .i64 1]) ∧ Below w.heap.size w w' := by
  have HA := Lib.hid (Whole.made w 40 #[.int .i64 m, .int .i64 s])
  by_cases h1 : Valid m s
  · have hd : decide (Valid m s) = true := decide_eq_true h1
    have hd' : decide (Valid m' s') = false := decide_eq_false (fun h => hv ⟨h1, h⟩)
    have HD := Lib.hid (And.intro hd hd')
    clear hv h1 hd hd'
    go_enter Try.func77, Try.ntmps77
    go_wp2_with fail
    refine (right_any m s _).mono ?_
    rintro e w1 ⟨rfl, hb⟩
    rw [HD.out.1]
    have hB : Whole w1 (w.heap.size + 1) 40 #[.int .i64 m', .int .i64 s'] := by
      have := (Whole.made (w.alloc (.cells #[.int .i64 m, .int .i64 s] 40)) 40 #[.int .i64 m', .int .i64 s']).here hb
      simpa using this
    have b0 : w1.cell? ⟨w.heap.size + 1, 0, none⟩ = some (.int .i64 m') := hB.reads 0
    have b1 : w1.cell? ⟨w.heap.size + 1, 1, none⟩ = some (.int .i64 s') := hB.reads 1
    have lb := hB.lt
    have HB := Lib.hid ((((Below.refl w.heap.size w).alloc (Nat.le_refl _) (.cells #[.int .i64 m, .int .i64 s] 40)).alloc (by simp) (.cells #[.int .i64 m', .int .i64 s'] 40)).trans (hb.mono (by simp; omega)))
    clear hb hB
    go_wp2_with fail
    refine (right_any m' s' _).mono ?_
    rintro e w2 ⟨rfl, hb⟩
    rw [HD.out.2]
    have HB2 := Lib.hid (HB.out.trans (hb.mono HB.out.size))
    clear hb
    go_wp2_with fail
    go_ret2
    exact ⟨rfl, HB2.out⟩
  · have hd : decide (Valid m s) = false := decide_eq_false h1
    have HD := Lib.hid hd
    clear hv h1 hd
    go_enter Try.func77, Try.ntmps77
    go_wp2_with fail
    refine (right_any m s _).mono ?_
    rintro e w1 ⟨rfl, hb⟩
    rw [HD.out]
    have HB := Lib.hid ((((Below.refl w.heap.size w).alloc (Nat.le_refl _) (.cells #[.int .i64 m, .int .i64 s] 40)).alloc (by simp) (.cells #[.int .i64 m', .int .i64 s'] 40)).trans (hb.mono (by simp; omega)))
    clear hb
    go_wp2_with fail
    go_ret2
    exact ⟨rfl, HB.out⟩
set_option maxRecDepth 100000 in
set_option maxHeartbeats 4000000 in
theorem refcmp_ok (m m' : Int) (s s' : Nat) (w : World) (hv : Valid m s) (hv' : Valid m' s') :
    Calls Try.prog 77 #[.agg #[.int .i64 m, .int .i64 s], .agg #[.int .i64 m', .int .i64 s']] w (fun e w' => e = .returned (.tuple #[.int .i64 (Lib.compareInt (val9 m s) (val9 m' s')), .int .i64 0]) ∧ Below w.heap.size w w') := by
  have hd : Hid (decide (Valid m s) = true) := decide_eq_true hv
  have hd' : Hid (decide (Valid m' s') = true) := decide_eq_true hv'
  have hcmp := cmp_is hv hv'
  have h1 := hv.1
  have h2 := hv.2.1
  have h3 := hv'.1
  have h4 := hv'.2.1
  have h5 := hv.2.2.2.1
  have h6 := hv'.2.2.2.1
  have HC := Lib.hid hcmp
  have HWA := Lib.hid (show Whole ((w.alloc (.cells #[.int .i64 m, .int .i64 s] 40)).alloc (.cells #[.int .i64 m', .int .i64 s'] 40)) w.heap.size 40 #[.int .i64 m, .int .i64 s] ∧ Whole ((w.alloc (.cells #[.int .i64 m, .int .i64 s] 40)).alloc (.cells #[.int .i64 m', .int .i64 s'] 40)) (w.heap.size + 1) 40 #[.int .i64 m', .int .i64 s'] ∧ Below w.heap.size w ((w.alloc (.cells #[.int .i64 m, .int .i64 s] 40)).alloc (.cells #[.int .i64 m', .int .i64 s'] 40)) from
    ⟨(Whole.made _ _ _).old _, by have := Whole.made (w.alloc (.cells #[.int .i64 m, .int .i64 s] 40)) 40 #[.int .i64 m', .int .i64 s']; simpa using this, ((Below.refl w.heap.size w).alloc (Nat.le_refl _) _).alloc (by simp) _⟩)
  clear hv hv' hcmp
  go_enter Try.func77, Try.ntmps77
  go_wp2_with fail
  refine (right_any m s _).mono ?_
  rintro e w1 ⟨rfl, hb⟩
  rw [hd.out]
  have HW1 := Lib.hid (show _ ∧ _ ∧ _ from ⟨HWA.out.1.here hb, HWA.out.2.1.here hb, HWA.out.2.2.trans (hb.mono HWA.out.2.2.size)⟩)
  clear hb HWA
  have b0 : w1.cell? ⟨w.heap.size + 1, 0, none⟩ = some (.int .i64 m') := HW1.out.2.1.reads 0
  have b1 : w1.cell? ⟨w.heap.size + 1, 1, none⟩ = some (.int .i64 s') := HW1.out.2.1.reads 1
  have lb := HW1.out.2.1.lt
  go_wp2_with fail
  refine (right_any m' s' _).mono ?_
  rintro e w2 ⟨rfl, hb⟩
  rw [hd'.out]
  have HW2 := Lib.hid (show _ ∧ _ ∧ _ from ⟨HW1.out.1.here hb, HW1.out.2.1.here hb, HW1.out.2.2.trans (hb.mono HW1.out.2.2.size)⟩)
  clear hb HW1 b0 b1 lb
  have a0 : w2.cell? ⟨w.heap.size, 0, none⟩ = some (.int .i64 m) := HW2.out.1.reads 0
  have a1 : w2.cell? ⟨w.heap.size, 1, none⟩ = some (.int .i64 s) := HW2.out.1.reads 1
  have la := HW2.out.1.lt
  go_wp2_with fail
  refine (of_num m s _ (by omega)).mono ?_
  rintro e w3 ⟨v6, rfl, hown, hb⟩
  obtain ⟨av6, cv6, rfl⟩ := own_slice' hown
  have HW3 := Lib.hid (show Whole (w3.alloc (.cells #[.bool (decide (m < 0)), .slice av6 (digs m.natAbs).length cv6, .int .i64 s] 113)) (w.heap.size + 1) 40 #[.int .i64 m', .int .i64 s'] ∧ Below w.heap.size w (w3.alloc (.cells #[.bool (decide (m < 0)), .slice av6 (digs m.natAbs).length cv6, .int .i64 s] 113)) ∧ NV (w3.alloc (.cells #[.bool (decide (m < 0)), .slice av6 (digs m.natAbs).length cv6, .int .i64 s] 113)) w3.heap.size (decide (m < 0)) (digs m.natAbs) s (.slice av6 (digs m.natAbs).length cv6) w2.heap.size ∧ w.heap.size ≤ w3.heap.size from by
    have h := HW2.out.2.2.trans (hb.mono HW2.out.2.2.size)
    exact ⟨(HW2.out.2.1.here hb).old _, h.alloc h.size _, NV.made hown, h.size⟩)
  clear hb HW2 a0 a1 la hown
  have b0 : (w3.alloc (.cells #[.bool (decide (m < 0)), .slice av6 (digs m.natAbs).length cv6, .int .i64 s] 113)).cell? ⟨w.heap.size + 1, 0, none⟩ = some (.int .i64 m') := HW3.out.1.reads 0
  have b1 : (w3.alloc (.cells #[.bool (decide (m < 0)), .slice av6 (digs m.natAbs).length cv6, .int .i64 s] 113)).cell? ⟨w.heap.size + 1, 1, none⟩ = some (.int .i64 s') := HW3.out.1.reads 1
  have lb := HW3.out.1.lt
  go_wp2_with fail
  refine (of_num m' s' _ (by omega)).mono ?_
  rintro e w4 ⟨v7, rfl, hown, hb⟩
  obtain ⟨av7, cv7, rfl⟩ := own_slice' hown
  have hl6 := lifted_len 0 m.natAbs (by omega)
  have hl7 := lifted_len 0 m'.natAbs (by omega)
  have hS : (max (s : Int) (s' : Int)) = ((max s s' : Nat) : Int) := by omega
  have hS9 : max s s' ≤ 9 := by omega
  have hlen6 : (digs m.natAbs).length ≤ 18 := digs_len 18 _ (by omega)
  have hlen7 : (digs m'.natAbs).length ≤ 18 := digs_len 18 _ (by omega)
  clear b0 b1 lb
  go_upto_region 5 with fail
  generalize hbA : decide (m < 0) = bA at *
  generalize hbB : decide (m' < 0) = bB at *
  have hu1 : m.natAbs ≤ 999999999999999999 := by omega
  have hu2 : m'.natAbs ≤ 999999999999999999 := by omega
  generalize m.natAbs = u at *
  generalize m'.natAbs = u' at *
  have HW4 := Lib.hid (show Below w.heap.size w (w4.alloc (.cells #[.bool bB, .slice av7 (digs u').length cv7, .int .i64 s'] 113)) ∧ NV (w4.alloc (.cells #[.bool bB, .slice av7 (digs u').length cv7, .int .i64 s'] 113)) w3.heap.size bA (digs u) s (.slice av6 (digs u).length cv6) w2.heap.size ∧ NV (w4.alloc (.cells #[.bool bB, .slice av7 (digs u').length cv7, .int .i64 s'] 113)) w4.heap.size bB (digs u') s' (.slice av7 (digs u').length cv7) _ ∧ w3.heap.size ≠ w4.heap.size ∧ w.heap.size ≤ w3.heap.size ∧ w.heap.size ≤ w4.heap.size from by
    have h := HW3.out.2.1.trans (hb.mono HW3.out.2.1.size)
    have hz := hb.size
    have hz2 := HW3.out.2.2.2
    simp at hz
    exact ⟨h.alloc h.size _, (HW3.out.2.2.1.later hb).old _, NV.made hown, by omega, by omega, by omega⟩)
  clear hb HW3 hown hl6 hl7
  generalize w3.heap.size = P6 at *
  generalize hW4 : w4.alloc (.cells #[.bool bB, .slice av7 (digs u').length cv7, .int .i64 s'] 113) = W4 at *
  generalize w4.heap.size = P7 at *
  clear hW4
  obtain ⟨a0, a1, a2, af, al⟩ := HW4.out.2.1.cells
  obtain ⟨b0, b1, b2, bf, bl⟩ := HW4.out.2.2.1.cells
  clear af bf
  go_wp2_with fail
  refine (lift_is bA _ u s (max s s') W4 HW4.out.2.1.row (by omega) (by omega) (by omega)).mono ?_
  rintro e w5 ⟨v5, rfl, hown, hb⟩
  obtain ⟨av5, cv5, rfl⟩ := own_slice' hown
  have ha5 := HW4.out.2.1.later hb
  have hb5 := HW4.out.2.2.1.later hb
  obtain ⟨a0', a1', a2', af', al'⟩ := ha5.cells
  have af0 := af' 0
  have af1 := af' 1
  have af2 := af' 2
  have k1 := below_set3 (HW4.out.1.trans (hb.mono HW4.out.1.size)) HW4.out.2.2.2.2.1 (.bool bA) (.slice av5 (lifted (max s s' - s) u).length cv5) (.int .i64 ((max s (max s s') : Nat) : Int))
  have k2 := ha5.store hown (b' := bA) (s' := ((max s (max s s') : Nat) : Int))
  have k3 := hb5.aside ha5.1 (Ne.symm HW4.out.2.2.2.1) (.bool bA) (.slice av5 (lifted (max s s' - s) u).length cv5) (.int .i64 ((max s (max s s') : Nat) : Int))
  have HW5 := Lib.hid (And.intro k1 (And.intro k2 (And.intro k3 HW4.out.2.2.2)))
  have hln5 := lifted_len (max s s' - s) u (by omega)
  clear k1 k2 k3 ha5 hb5 af' hown hb a0 a1 a2 al b0 b1 b2 bl
  go_upto_region 7 with fail
  generalize hW6 : ((w5.setCell ⟨P6, 0, none⟩ (.bool bA)).setCell ⟨P6, 1, none⟩ (.slice av5 (lifted (max s s' - s) u).length cv5)).setCell ⟨P6, 2, none⟩ (.int .i64 ((max s (max s s') : Nat) : Int)) = W6 at *
  clear hW6 a0' a1' a2' al' af0 af1 af2
  obtain ⟨b0, b1, b2, -, bl⟩ := HW5.out.2.2.1.cells
  go_wp2_with fail
  refine (lift_is bB _ u' s' (max s s') W6 HW5.out.2.2.1.row (by omega) (by omega) (by omega)).mono ?_
  rintro e w7 ⟨v8, rfl, hown, hb⟩
  obtain ⟨av8, cv8, rfl⟩ := own_slice' hown
  have ha7 := HW5.out.2.1.later hb
  have hb7 := HW5.out.2.2.1.later hb
  obtain ⟨b0', b1', b2', bf', bl'⟩ := hb7.cells
  have bf0 := bf' 0
  have bf1 := bf' 1
  have bf2 := bf' 2
  have k1 := below_set3 (HW5.out.1.trans (hb.mono HW5.out.1.size)) HW5.out.2.2.2.2.2 (.bool bB) (.slice av8 (lifted (max s s' - s') u').length cv8) (.int .i64 ((max s' (max s s') : Nat) : Int))
  have k2 := hb7.store hown (b' := bB) (s' := ((max s' (max s s') : Nat) : Int))
  have k3 := ha7.aside hb7.1 HW5.out.2.2.2.1 (.bool bB) (.slice av8 (lifted (max s s' - s') u').length cv8) (.int .i64 ((max s' (max s s') : Nat) : Int))
  have HW7 := Lib.hid (And.intro k1 (And.intro k2 k3))
  have hln8 := lifted_len (max s s' - s') u' (by omega)
  clear k1 k2 k3 ha7 hb7 bf' hown hb b0 b1 b2 bl HW5
  go_upto_region 8 with fail
  generalize hW8 : ((w7.setCell ⟨P7, 0, none⟩ (.bool bB)).setCell ⟨P7, 1, none⟩ (.slice av8 (lifted (max s s' - s') u').length cv8)).setCell ⟨P7, 2, none⟩ (.int .i64 ((max s' (max s s') : Nat) : Int)) = W8 at *
  clear hW8 b0' b1' b2' bl' bf0 bf1 bf2
  obtain ⟨a0, a1, -, -, al⟩ := HW7.out.2.2.cells
  obtain ⟨b0, b1, -, -, bl⟩ := HW7.out.2.1.cells
  have hxy := HC.out
  have hnum1 := lifted_num (max s s' - s) u
  have hnum2 := lifted_num (max s s' - s') u'
  rw [← hnum1, ← hnum2] at hxy
  have hl1 := less_any _ _ _ _ W8 HW7.out.2.2.reads HW7.out.2.1.reads (lifted_digs _ _) (lifted_digs _ _) (by omega) (by omega)
  have hl2 := less_any _ _ _ _ W8 HW7.out.2.1.reads HW7.out.2.2.reads (lifted_digs _ _) (lifted_digs _ _) (by omega) (by omega)
  have HL := Lib.hid (And.intro hl1 hl2)
  have HXY := Lib.hid hxy
  clear hxy hnum1 hnum2 hl1 hl2 HC
  generalize num (lifted (max s s' - s) u) = x at *
  generalize num (lifted (max s s' - s') u') = y at *
  go_wp2_with fail
  refine HL.out.1.mono ?_
  rintro e w9 ⟨rfl, rfl⟩
  go_wp2_with fail
  refine HL.out.2.mono ?_
  rintro e w10 ⟨rfl, rfl⟩
  have hfin : ∀ c : Int, cmpN bA bB x y = c → (Ending.returned (.tuple #[.int .i64 c, .int .i64 0]) = Ending.returned (.tuple #[.int .i64 (Lib.compareInt (val9 m s) (val9 m' s')), .int .i64 0]) ∧ Below w.heap.size w W8) := fun c h => ⟨by rw [← HXY.out, h], HW7.out.1⟩
  have HFIN := Lib.hid hfin
  clear hfin HL
  cases bA <;> cases bB
  · rcases Nat.lt_trichotomy x y with h | h | h
    · have q1 : decide (x < y) = true := decide_eq_true h
      have q2 : decide (y < x) = false := decide_eq_false (by omega)
      go_wp2_with fail
      go_ret2
      exact HFIN.out _ (by unfold cmpN; simp [h])
    · have q1 : decide (x < y) = false := decide_eq_false (by omega)
      have q2 : decide (y < x) = false := decide_eq_false (by omega)
      go_wp2_with fail
      go_ret2
      exact HFIN.out _ (by unfold cmpN; simp [h])
    · have q1 : decide (x < y) = false := decide_eq_false (by omega)
      have q2 : decide (y < x) = true := decide_eq_true h
      go_wp2_with fail
      go_ret2
      exact HFIN.out _ (by unfold cmpN; simp [h]; omega)
  · go_wp2_with fail
    go_ret2
    exact HFIN.out _ (by unfold cmpN; simp)
  · go_wp2_with fail
    go_ret2
    exact HFIN.out _ (by unfold cmpN; simp)
  · rcases Nat.lt_trichotomy x y with h | h | h
    · have q1 : decide (x < y) = true := decide_eq_true h
      have q2 : decide (y < x) = false := decide_eq_false (by omega)
      go_wp2_with fail
      go_ret2
      exact HFIN.out _ (by unfold cmpN; simp [h]; omega)
    · have q1 : decide (x < y) = false := decide_eq_false (by omega)
      have q2 : decide (y < x) = false := decide_eq_false (by omega)
      go_wp2_with fail
      go_ret2
      exact HFIN.out _ (by unfold cmpN; simp [h])
    · have q1 : decide (x < y) = false := decide_eq_false (by omega)
      have q2 : decide (y < x) = true := decide_eq_true h
      go_wp2_with fail
      go_ret2
      exact HFIN.out _ (by unfold cmpN; simp [h])
end Go.Proofs.Ytmleoagdelgddaa
/- The reference's Add: the walk. -/
namespace Go.Proofs.Ytmleoagdelgddaa
open Go.RowKit Dec

theorem sgn_lift (m : Int) (k : Nat) : sgn (decide (m < 0)) (10 ^ k * m.natAbs) = m * ((10 ^ k : Nat) : Int) := by
  unfold sgn
  have cast1 : ((10 ^ k * m.natAbs : Nat) : Int) = ((10 ^ k : Nat) : Int) * (m.natAbs : Int) := by push_cast; rfl
  rw [cast1]
  generalize ((10 ^ k : Nat) : Int) = p
  by_cases h : m < 0
  · simp only [h, decide_true, if_true]
    rw [show (m.natAbs : Int) = -m by omega, Int.mul_neg, Int.neg_neg, Int.mul_comm]
  · simp only [h, decide_false, Bool.false_eq_true, if_false]
    rw [show (m.natAbs : Int) = m by omega, Int.mul_comm]
theorem add_val {m m' : Int} {s s' : Nat} (hv : Valid m s) (hv' : Valid m' s') {M S E : Int}
    (h : Denotes (sgn (decide (m < 0)) (num (liftD (max s s') s (digs m.natAbs))) + sgn (decide (m' < 0)) (num (liftD (max s s') s' (digs m'.natAbs)))) (max s s') M S E) : Denotes (val9 m s + val9 m' s') 9 M S E := by
  have h9 : max s s' ≤ 9 := by have := hv.2.2.2.1; have := hv'.2.2.2.1; omega
  rw [liftD_num, liftD_num, (num_digs _).1, (num_digs _).1, sgn_lift, sgn_lift] at h
  refine h.scale ?_
  rw [val9_lift (Nat.le_max_left s s') h9, val9_lift (Nat.le_max_right s s') h9, ← Int.add_mul, Int.mul_assoc]
  congr 1
  show (10 : Int) ^ 9 = 10 ^ (9 - max s s') * 10 ^ (max s s')
  rw [← Int.pow_add]
  congr 1
  omega
theorem refadd_bad (m s m' s' : Int) (w : World) (hv : ¬ (Valid m s ∧ Valid m' s')) :
    Calls Try.prog 80 #[.agg #[.int .i64 m, .int .i64 s], .agg #[.int .i64 m', .int .i64 s']] w (IsArg w) := by
  have HWA := Lib.hid (three_dec w m s m' s')
  by_cases h1 : Valid m s
  · have hd : decide (Valid m s) = true := decide_eq_true h1
    have hd' : decide (Valid m' s') = false := decide_eq_false (fun h => hv ⟨h1, h⟩)
    have HD := Lib.hid (And.intro hd hd')
    clear hv h1 hd hd'
    go_enter Try.func80, Try.ntmps80
    go_wp2_with fail
    refine (right_any m s _).mono ?_
    rintro e w1 ⟨rfl, hb⟩
    rw [HD.out.1]
    have HW1 := Lib.hid (HWA.out.here hb)
    clear hb HWA
    have b0 : w1.cell? ⟨w.heap.size + 1, 0, none⟩ = some (.int .i64 m') := HW1.out.b.reads 0
    have b1 : w1.cell? ⟨w.heap.size + 1, 1, none⟩ = some (.int .i64 s') := HW1.out.b.reads 1
    have lb := HW1.out.b.lt
    go_wp2_with fail
    refine (right_any m' s' _).mono ?_
    rintro e w2 ⟨rfl, hb⟩
    rw [HD.out.2]
    have HW2 := Lib.hid (HW1.out.here hb)
    clear hb HW1 b0 b1 lb
    have r0 : w2.cell? ⟨w.heap.size + 1 + 1, 0, none⟩ = some (.int .i64 0) := HW2.out.r.reads 0
    have r1 : w2.cell? ⟨w.heap.size + 1 + 1, 1, none⟩ = some (.int .i64 0) := HW2.out.r.reads 1
    have z0 := HW2.out.r.thawed 0
    have z1 := HW2.out.r.thawed 1
    have lr := HW2.out.r.lt
    have hfin := (HW2.out.below.setCell (p := ⟨w.heap.size + 1 + 1, 0, none⟩) (by simp; omega) (.int .i64 0)).setCell (p := ⟨w.heap.size + 1 + 1, 1, none⟩) (by simp; omega) (.int .i64 0)
    have HF := Lib.hid hfin
    clear hfin
    go_wp2_with fail
    exact bodyPost_ret (v := .tuple #[.agg #[.int .i64 0, .int .i64 0], .int .i64 1]) (by simp [results, Try.results80, go_sem, r0, r1]) rfl ⟨rfl, HF.out⟩
  · have hd : decide (Valid m s) = false := decide_eq_false h1
    have HD := Lib.hid hd
    clear hv h1 hd
    go_enter Try.func80, Try.ntmps80
    go_wp2_with fail
    refine (right_any m s _).mono ?_
    rintro e w2 ⟨rfl, hb⟩
    rw [HD.out]
    have HW2 := Lib.hid (HWA.out.here hb)
    clear hb HWA
    have r0 : w2.cell? ⟨w.heap.size + 1 + 1, 0, none⟩ = some (.int .i64 0) := HW2.out.r.reads 0
    have r1 : w2.cell? ⟨w.heap.size + 1 + 1, 1, none⟩ = some (.int .i64 0) := HW2.out.r.reads 1
    have z0 := HW2.out.r.thawed 0
    have z1 := HW2.out.r.thawed 1
    have lr := HW2.out.r.lt
    have hfin := (HW2.out.below.setCell (p := ⟨w.heap.size + 1 + 1, 0, none⟩) (by simp; omega) (.int .i64 0)).setCell (p := ⟨w.heap.size + 1 + 1, 1, none⟩) (by simp; omega) (.int .i64 0)
    have HF := Lib.hid hfin
    clear hfin
    go_wp2_with fail
    exact bodyPost_ret (v := .tuple #[.agg #[.int .i64 0, .int .i64 0], .int .i64 1]) (by simp [results, Try.results80, go_sem, r0, r1]) rfl ⟨rfl, HF.out⟩
set_option maxRecDepth 100000 in
set_option maxHeartbeats 4000000 in
theorem refadd_ok (m m' : Int) (s s' : Nat) (w : World) (hv : Valid m s) (hv' : Valid m' s') :
    Calls Try.prog 80 #[.agg #[.int .i64 m, .int .i64 s], .agg #[.int .i64 m', .int .i64 s']] w (IsTold (val9 m s + val9 m' s') 9 w) := by
  have HWA := Lib.hid (three_dec w m s m' s')
  have hd : decide (Valid m s) = true := decide_eq_true hv
  have hd' : decide (Valid m' s') = true := decide_eq_true hv'
  have HD := Lib.hid (And.intro hd hd')
  have HVV := Lib.hid (And.intro hv hv')
  have h1 := hv.1
  have h2 := hv.2.1
  have h3 := hv'.1
  have h4 := hv'.2.1
  have h5 := hv.2.2.2.1
  have h6 := hv'.2.2.2.1
  clear hv hv' hd hd'
  go_enter Try.func80, Try.ntmps80
  go_wp2_with fail
  refine (right_any m s _).mono ?_
  rintro e w1 ⟨rfl, hb⟩
  rw [HD.out.1]
  have HW1 := Lib.hid (HWA.out.here hb)
  clear hb HWA
  have b0 : w1.cell? ⟨w.heap.size + 1, 0, none⟩ = some (.int .i64 m') := HW1.out.b.reads 0
  have b1 : w1.cell? ⟨w.heap.size + 1, 1, none⟩ = some (.int .i64 s') := HW1.out.b.reads 1
  have lb := HW1.out.b.lt
  go_wp2_with fail
  refine (right_any m' s' _).mono ?_
  rintro e w2 ⟨rfl, hb⟩
  rw [HD.out.2]
  have HW2 := Lib.hid (HW1.out.here hb)
  clear hb HW1 b0 b1 lb
  have a0 : w2.cell? ⟨w.heap.size, 0, none⟩ = some (.int .i64 m) := HW2.out.a.reads 0
  have a1 : w2.cell? ⟨w.heap.size, 1, none⟩ = some (.int .i64 s) := HW2.out.a.reads 1
  have b0 : w2.cell? ⟨w.heap.size + 1, 0, none⟩ = some (.int .i64 m') := HW2.out.b.reads 0
  have b1 : w2.cell? ⟨w.heap.size + 1, 1, none⟩ = some (.int .i64 s') := HW2.out.b.reads 1
  have la := HW2.out.a.lt
  have lb := HW2.out.b.lt
  have hlen6 : (digs m.natAbs).length ≤ 18 := digs_len 18 _ (by omega)
  have hlen7 : (digs m'.natAbs).length ≤ 18 := digs_len 18 _ (by omega)
  have hS : (max (s : Int) (s' : Int)) = ((max s s' : Nat) : Int) := by omega
  have hS9 : max s s' ≤ 9 := by omega
  go_wp2_with fail
  go_region_with (first
    | (go_at_call 78; (with_reducible refine (of_num m s _ (by omega)).mono ?_); rintro e w3 ⟨v3, rfl, hown, hb⟩; obtain ⟨av3, cv3, rfl⟩ := own_slice' hown; have h3' := HW2.out.drew.here hb; have b0' : w3.cell? ⟨w.heap.size + 1, 0, none⟩ = some (.int .i64 m') := h3'.b.reads 0; have b1' : w3.cell? ⟨w.heap.size + 1, 1, none⟩ = some (.int .i64 s') := h3'.b.reads 1; have lb' := h3'.b.lt; have HW3 := Lib.hid (And.intro h3' (own_row hown)); clear h3' hown hb)
    | (go_at_call 78; (with_reducible refine (of_num m' s' _ (by omega)).mono ?_); rintro e w4 ⟨v4, rfl, hown, hb⟩; obtain ⟨av4, cv4, rfl⟩ := own_slice' hown; have HW4 := Lib.hid (And.intro (HW3.out.1.here hb) (And.intro (row_below HW3.out.2 hb) (own_row hown))); clear hown hb)
    | (go_at_call 94; (with_reducible refine (rsum_any _ _ _ _ (digs m.natAbs) (digs m'.natAbs) s s' _ HW4.out.2.1 HW4.out.2.2 (num_digs _).2 (num_digs _).2 (by omega) (by omega) (by omega) (by omega)).mono ?_); rintro e w5 ⟨b5, v5, ds5, rfl, hown, hdg, hV, hln, hb⟩; obtain ⟨av5, cv5, rfl⟩ := own_slice' hown; have HW5 := Lib.hid (And.intro (HW4.out.1.here hb) (And.intro (own_row hown) (And.intro hdg hV))); clear hown hb hdg hV)
    | (go_at_call 79; (with_reducible refine (told_any _ _ ds5 (max s s') _ _ HW5.out.2.1 HW5.out.2.2.1 (by omega) (by omega) HW5.out.2.2.2).mono ?_); rintro e w6 ⟨M, S, E, rfl, hden, hb⟩; have h6' := HW5.out.1.here hb; have r0 : w6.cell? ⟨w.heap.size + 1 + 1, 0, none⟩ = some (.int .i64 0) := h6'.r.reads 0; have r1 : w6.cell? ⟨w.heap.size + 1 + 1, 1, none⟩ = some (.int .i64 0) := h6'.r.reads 1; have z0 := h6'.r.thawed 0; have z1 := h6'.r.thawed 1; have lr := h6'.r.lt; have hfin := (h6'.below.setCell (p := ⟨w.heap.size + 1 + 1, 0, none⟩) (by simp; omega) (.int .i64 M)).setCell (p := ⟨w.heap.size + 1 + 1, 1, none⟩) (by simp; omega) (.int .i64 S); have HF := Lib.hid (And.intro hden hfin); clear h6' hb hden hfin))
  all_goals
    go_wp2_with fail
    exact bodyPost_ret (v := .tuple #[.agg #[.int .i64 M, .int .i64 S], .int .i64 E]) (by simp [results, Try.results80, go_sem, r0, r1]) rfl ⟨M, S, E, rfl, add_val HVV.out.1 HVV.out.2 HF.out.1, HF.out.2⟩
end Go.Proofs.Ytmleoagdelgddaa
/- The reference's Mul: the walk. -/
namespace Go.Proofs.Ytmleoagdelgddaa
open Go.RowKit Dec

theorem own_at {w : World} {base n : Nat} {A : Option Addr} {c : Nat} {ds : List Int} (h : w.ownsRow base 3 1 (.slice A n c) n (ds.map (Value.int .i64))) {j : Nat} {d : Int} (hd : ds[j]? = some d) :
    ∃ g, A = some ⟨g, 0, none⟩ ∧ base ≤ g ∧ g < w.heap.size ∧ w.cell? ⟨g, j, none⟩ = some (.int .i64 d) := by
  obtain ⟨hl, h⟩ := h
  have hl : ds.length = n := by simpa using hl
  have hj := (List.getElem?_eq_some_iff.1 hd).1
  rcases h with ⟨e1, e2⟩ | ⟨g, cap, cur, e1, hg, hw, hnc, hc, hs, ht⟩
  · omega
  · injection e1 with e1 _ _
    have hw' : Whole w g 3 cur := hw
    refine ⟨g, e1, hg, hw'.lt, ?_⟩
    have e2 : (ds.map (Value.int .i64))[j]? = some (.int .i64 d) := by simp [hd]
    rw [← ht, List.getElem?_take, if_pos (by omega)] at e2
    rw [hw'.reads, ← e2, Array.getElem?_toList]

theorem Fr.cell' {w w' : World} {X : Nat} (h : Fr (fun k => k = X) w w') {p : Addr} (hp : p.block ≠ X) (hl : p.block < w.heap.size) : w'.cell? p = w.cell? p := by
  have := h.block p.block hl hp
  unfold World.cell?
  rw [this]

theorem mul_val {m m' : Int} {s s' : Nat} (hv : Valid m s) (hv' : Valid m' s') {M S E : Int}
    (h : Denotes (sgn (decide (m < 0) != decide (m' < 0)) (m.natAbs * m'.natAbs)) (s + s') M S E) : Denotes (val9 m s * val9 m' s') 18 M S E := by
  have h9 : s ≤ 9 := by have := hv.2.2.2.1; omega
  have h9' : s' ≤ 9 := by have := hv'.2.2.2.1; omega
  have e : sgn (decide (m < 0) != decide (m' < 0)) (m.natAbs * m'.natAbs) = m * m' := by
    unfold sgn
    have cast1 : ((m.natAbs * m'.natAbs : Nat) : Int) = (m.natAbs : Int) * (m'.natAbs : Int) := by push_cast; rfl
    rw [cast1]
    by_cases h1 : m < 0 <;> by_cases h2 : m' < 0 <;> simp only [h1, h2, decide_true, decide_false]
    · rw [show (m.natAbs : Int) = -m by omega, show (m'.natAbs : Int) = -m' by omega]
      simp [Int.neg_mul, Int.mul_neg]
    · rw [show (m.natAbs : Int) = -m by omega, show (m'.natAbs : Int) = m' by omega]
      simp [Int.neg_mul]
    · rw [show (m.natAbs : Int) = m by omega, show (m'.natAbs : Int) = -m' by omega]
      simp [Int.mul_neg]
    · rw [show (m.natAbs : Int) = m by omega, show (m'.natAbs : Int) = m' by omega]
      simp
  rw [e] at h
  refine h.scale ?_
  unfold val9
  rw [Int.toNat_natCast, Int.toNat_natCast]
  have k : (10 : Int) ^ 18 = p10 (9 - s) * p10 (9 - s') * 10 ^ (s + s') := by
    show (10 : Int) ^ 18 = 10 ^ (9 - s) * 10 ^ (9 - s') * 10 ^ (s + s')
    rw [← Int.pow_add, ← Int.pow_add]
    congr 1
    omega
  rw [k]
  generalize p10 (9 - s) = a
  generalize p10 (9 - s') = b
  generalize (10 : Int) ^ (s + s') = c
  simp only [Int.mul_left_comm, Int.mul_comm]
theorem iv_set (L : List Int) (j : Nat) (v : Int) : ((ivd L).toArray.setIfInBounds j (.int .i64 v)) = (ivd (L.set j v)).toArray := by
  simp [ivd, List.map_set]
theorem made_zero (n : Nat) : madeCells #[.int .i64 0] n = (ivd (List.replicate n 0)).toArray := by
  apply Array.toList_inj.1
  rw [toList_madeCells_one]
  simp [ivd]
theorem refmul_bad (m s m' s' : Int) (w : World) (hv : ¬ (Valid m s ∧ Valid m' s')) :
    Calls Try.prog 63 #[.agg #[.int .i64 m, .int .i64 s], .agg #[.int .i64 m', .int .i64 s']] w (IsArg w) := by
  have HWA := Lib.hid (three_dec w m s m' s')
  by_cases h1 : Valid m s
  · have hd : decide (Valid m s) = true := decide_eq_true h1
    have hd' : decide (Valid m' s') = false := decide_eq_false (fun h => hv ⟨h1, h⟩)
    have HD := Lib.hid (And.intro hd hd')
    clear hv h1 hd hd'
    go_enter Try.func63, Try.ntmps63
    go_wp2_with fail
    refine (right_any m s _).mono ?_
    rintro e w1 ⟨rfl, hb⟩
    rw [HD.out.1]
    have HW1 := Lib.hid (HWA.out.here hb)
    clear hb HWA
    have b0 : w1.cell? ⟨w.heap.size + 1, 0, none⟩ = some (.int .i64 m') := HW1.out.b.reads 0
    have b1 : w1.cell? ⟨w.heap.size + 1, 1, none⟩ = some (.int .i64 s') := HW1.out.b.reads 1
    have lb := HW1.out.b.lt
    go_wp2_with fail
    refine (right_any m' s' _).mono ?_
    rintro e w2 ⟨rfl, hb⟩
    rw [HD.out.2]
    have HW2 := Lib.hid (HW1.out.here hb)
    clear hb HW1 b0 b1 lb
    have r0 : w2.cell? ⟨w.heap.size + 1 + 1, 0, none⟩ = some (.int .i64 0) := HW2.out.r.reads 0
    have r1 : w2.cell? ⟨w.heap.size + 1 + 1, 1, none⟩ = some (.int .i64 0) := HW2.out.r.reads 1
    have z0 := HW2.out.r.thawed 0
    have z1 := HW2.out.r.thawed 1
    have lr := HW2.out.r.lt
    have hfin := (HW2.out.below.setCell (p := ⟨w.heap.size + 1 + 1, 0, none⟩) (by simp; omega) (.int .i64 0)).setCell (p := ⟨w.heap.size + 1 + 1, 1, none⟩) (by simp; omega) (.int .i64 0)
    have HF := Lib.hid hfin
    clear hfin
    go_wp2_with fail
    exact bodyPost_ret (v := .tuple #[.agg #[.int .i64 0, .int .i64 0], .int .i64 1]) (by simp [results, Try.results63, go_sem, r0, r1]) rfl ⟨rfl, HF.out⟩
  · have hd : decide (Valid m s) = false := decide_eq_false h1
    have HD := Lib.hid hd
    clear hv h1 hd
    go_enter Try.func63, Try.ntmps63
    go_wp2_with fail
    refine (right_any m s _).mono ?_
    rintro e w2 ⟨rfl, hb⟩
    rw [HD.out]
    have HW2 := Lib.hid (HWA.out.here hb)
    clear hb HWA
    have r0 : w2.cell? ⟨w.heap.size + 1 + 1, 0, none⟩ = some (.int .i64 0) := HW2.out.r.reads 0
    have r1 : w2.cell? ⟨w.heap.size + 1 + 1, 1, none⟩ = some (.int .i64 0) := HW2.out.r.reads 1
    have z0 := HW2.out.r.thawed 0
    have z1 := HW2.out.r.thawed 1
    have lr := HW2.out.r.lt
    have hfin := (HW2.out.below.setCell (p := ⟨w.heap.size + 1 + 1, 0, none⟩) (by simp; omega) (.int .i64 0)).setCell (p := ⟨w.heap.size + 1 + 1, 1, none⟩) (by simp; omega) (.int .i64 0)
    have HF := Lib.hid hfin
    clear hfin
    go_wp2_with fail
    exact bodyPost_ret (v := .tuple #[.agg #[.int .i64 0, .int .i64 0], .int .i64 1]) (by simp [results, Try.results63, go_sem, r0, r1]) rfl ⟨rfl, HF.out⟩
set_option maxRecDepth 100000 in
set_option maxHeartbeats 4000000 in
theorem refmul_ok (m m' : Int) (s s' : Nat) (w : World) (hv : Valid m s) (hv' : Valid m' s') :
    Calls Try.prog 63 #[.agg #[.int .i64 m, .int .i64 s], .agg #[.int .i64 m', .int .i64 s']] w (IsTold (val9 m s * val9 m' s') 18 w) := by
  obtain ⟨i0, hi, hz0, hz1, hz2⟩ := info_parts info3
  have HWA := Lib.hid (three_dec w m s m' s')
  have hd : decide (Valid m s) = true := decide_eq_true hv
  have hd' : decide (Valid m' s') = true := decide_eq_true hv'
  have HD := Lib.hid (And.intro hd hd')
  have HVV := Lib.hid (And.intro hv hv')
  have h1 := hv.1
  have h2 := hv.2.1
  have h3 := hv'.1
  have h4 := hv'.2.1
  have h5 := hv.2.2.2.1
  have h6 := hv'.2.2.2.1
  clear hv hv' hd hd'
  go_enter Try.func63, Try.ntmps63
  go_wp2_with fail
  refine (right_any m s _).mono ?_
  rintro e w1 ⟨rfl, hb⟩
  rw [HD.out.1]
  have HW1 := Lib.hid (HWA.out.here hb)
  clear hb HWA
  have b0 : w1.cell? ⟨w.heap.size + 1, 0, none⟩ = some (.int .i64 m') := HW1.out.b.reads 0
  have b1 : w1.cell? ⟨w.heap.size + 1, 1, none⟩ = some (.int .i64 s') := HW1.out.b.reads 1
  have lb := HW1.out.b.lt
  go_wp2_with fail
  refine (right_any m' s' _).mono ?_
  rintro e w2 ⟨rfl, hb⟩
  rw [HD.out.2]
  have HW2 := Lib.hid (HW1.out.here hb)
  clear hb HW1 b0 b1 lb
  have a0 : w2.cell? ⟨w.heap.size, 0, none⟩ = some (.int .i64 m) := HW2.out.a.reads 0
  have a1 : w2.cell? ⟨w.heap.size, 1, none⟩ = some (.int .i64 s) := HW2.out.a.reads 1
  have b0 : w2.cell? ⟨w.heap.size + 1, 0, none⟩ = some (.int .i64 m') := HW2.out.b.reads 0
  have b1 : w2.cell? ⟨w.heap.size + 1, 1, none⟩ = some (.int .i64 s') := HW2.out.b.reads 1
  have la := HW2.out.a.lt
  have lb := HW2.out.b.lt
  have hlen6 : (digs m.natAbs).length ≤ 18 := digs_len 18 _ (by omega)
  have hlen7 : (digs m'.natAbs).length ≤ 18 := digs_len 18 _ (by omega)
  go_wp2_with fail
  refine (of_num m s _ (by omega)).mono ?_
  rintro e w3 ⟨v3, rfl, hown, hb⟩
  obtain ⟨av3, cv3, rfl⟩ := own_slice' hown
  have h3' := HW2.out.here hb
  have b0' : w3.cell? ⟨w.heap.size + 1, 0, none⟩ = some (.int .i64 m') := h3'.b.reads 0
  have b1' : w3.cell? ⟨w.heap.size + 1, 1, none⟩ = some (.int .i64 s') := h3'.b.reads 1
  have lb' := h3'.b.lt
  have HW3 := Lib.hid (And.intro h3' hown)
  clear h3' hown hb a0 a1 b0 b1 la lb HW2
  go_wp2_with fail
  refine (of_num m' s' _ (by omega)).mono ?_
  rintro e w4 ⟨v4, rfl, hown, hb⟩
  obtain ⟨av4, cv4, rfl⟩ := own_slice' hown
  clear b0' b1' lb'
  go_upto_region 5 with fail
  generalize hbA : decide (m < 0) = bA at *
  generalize hbB : decide (m' < 0) = bB at *
  have hX := num_digs m.natAbs
  have hY := num_digs m'.natAbs
  have hW4 : Three w (w4.alloc (.cells #[.bool bB, .slice av4 (digs m'.natAbs).length cv4, .int .i64 s'] 113)) m s m' s' ∧ NV (w4.alloc (.cells #[.bool bB, .slice av4 (digs m'.natAbs).length cv4, .int .i64 s'] 113)) w3.heap.size bA (digs m.natAbs) s (.slice av3 (digs m.natAbs).length cv3) 0 ∧ NV (w4.alloc (.cells #[.bool bB, .slice av4 (digs m'.natAbs).length cv4, .int .i64 s'] 113)) w4.heap.size bB (digs m'.natAbs) s' (.slice av4 (digs m'.natAbs).length cv4) 0 := by
    have k1 := (HW3.out.1.here ((Below.refl _ _).alloc (Nat.le_refl _) (.cells #[.bool bA, .slice av3 (digs m.natAbs).length cv3, .int .i64 s] 113))).here hb
    have k2 := (NV.made (b := bA) (s := (s : Int)) (own_mono HW3.out.2 (Nat.zero_le _))).later hb
    exact ⟨k1.here ((Below.refl _ _).alloc (Nat.le_refl _) _), k2.old _, NV.made (own_mono hown (Nat.zero_le _))⟩
  have HW4 := Lib.hid hW4
  have HXY := Lib.hid (And.intro hX hY)
  have HU := Lib.hid (And.intro hbA hbB)
  generalize hW4' : w4.alloc (.cells #[.bool bB, .slice av4 (digs m'.natAbs).length cv4, .int .i64 s'] 113) = W4 at *
  clear hW4' hW4 hX hY hown hb HW3 hbA hbB
  generalize w3.heap.size = P6 at *
  generalize w4.heap.size = P7 at *
  generalize digs m.natAbs = X at *
  generalize digs m'.natAbs = Y at *
  obtain ⟨a0, a1, a2, -, la⟩ := HW4.out.2.1.cells
  obtain ⟨b0, b1, b2, -, lb⟩ := HW4.out.2.2.cells
  have hn1 : (X.length : Int) + (Y.length : Int) + 1 = ((X.length + Y.length + 1 : Nat) : Int) := by omega
  have hmk := fun W => run_make_row' (P := Try.prog) 25 3 (.int .i64 0) 8 Try.underlying25 (by kernel_rfl) rfl .i64 .i64 (X.length + Y.length + 1) (by omega) (by omega) W
  simp only [← hn1] at hmk
  clear hn1
  go_upto_region 7 with fail
  generalize hbx : (!(bA == bB)) = bx at *
  have hw8 := Whole.made W4 113 #[.bool bx, .slice none 0 0, .int .i64 ((s : Int) + (s' : Int))]
  have hwg := Whole.made (W4.alloc (.cells #[.bool bx, .slice none 0 0, .int .i64 ((s : Int) + (s' : Int))] 113)) 3 (madeCells #[.int .i64 0] (X.length + Y.length + 1))
  rw [made_zero] at hwg ⊢
  simp only [World.size_alloc] at hwg
  have hb6 : Below W4.heap.size W4 ((W4.alloc (.cells #[.bool bx, .slice none 0 0, .int .i64 ((s : Int) + (s' : Int))] 113)).alloc (.cells (ivd (List.replicate (X.length + Y.length + 1) 0)).toArray 3)) := ((Below.refl _ _).alloc (Nat.le_refl _) _).alloc (by simp) _
  have HW6 := Lib.hid (And.intro (HW4.out.1.here hb6) (And.intro (HW4.out.2.1.later hb6) (And.intro (HW4.out.2.2.later hb6) (And.intro (hw8.old (.cells (ivd (List.replicate (X.length + Y.length + 1) 0)).toArray 3)) hwg))))
  have hxr : ∀ j, (Value.slice av3 X.length cv3).ownBlock = some j → j ≠ W4.heap.size + 1 := fun j e => by have := (own_lt HW4.out.2.1.2 e).2.1; omega
  have hyr : ∀ j, (Value.slice av4 Y.length cv4).ownBlock = some j → j ≠ W4.heap.size + 1 := fun j e => by have := (own_lt HW4.out.2.2.2 e).2.1; omega
  have hwg4 : w.heap.size ≤ W4.heap.size + 1 := by have := HW4.out.1.below.size; omega
  have hwg8 : w.heap.size ≤ W4.heap.size := HW4.out.1.below.size
  have HBX := Lib.hid (And.intro hbx (And.intro hxr hyr))
  clear hw8 hwg hb6 hbx hxr hyr HW4 a0 a1 a2 la b0 b1 b2 lb hmk
  generalize hW6 : (W4.alloc (.cells #[.bool bx, .slice none 0 0, .int .i64 ((s : Int) + (s' : Int))] 113)).alloc (.cells (ivd (List.replicate (X.length + Y.length + 1) 0)).toArray 3) = W6 at *
  clear hW6
  generalize hg : W4.heap.size + 1 = g at *
  generalize hP8 : W4.heap.size = P8 at *
  clear hg hP8
  have hord : P6 ≠ g ∧ P7 ≠ g ∧ P8 ≠ g ∧ w.heap.size ≠ g ∧ w.heap.size + 1 ≠ g ∧ w.heap.size + 1 + 1 ≠ g := ⟨HW6.out.2.1.1.apart HW6.out.2.2.2.2 (by decide), HW6.out.2.2.1.1.apart HW6.out.2.2.2.2 (by decide), HW6.out.2.2.2.1.apart HW6.out.2.2.2.2 (by decide), HW6.out.1.a.apart HW6.out.2.2.2.2 (by decide), HW6.out.1.b.apart HW6.out.2.2.2.2 (by decide), HW6.out.1.r.apart HW6.out.2.2.2.2 (by decide)⟩
  go_wp2_with fail
  go_loopw [10] (fun iv wr => ∃ (i : Nat) (L : List Int), i ≤ X.length ∧ iv = .int .i64 i ∧ Hid (MulAt X Y L i 0) ∧ Whole wr g 3 (ivd L).toArray ∧ Fr (fun k => k = g) W6 wr) (fun iv _ => X.length - (intOf iv).toNat)
  case atStart => exact ⟨0, _, by omega, rfl, Lib.hid (MulAt.start X Y), HW6.out.2.2.2.2, Fr.refl _ _⟩
  case round =>
    obtain ⟨i, L, hiX, rfl, HM, hwl, hf⟩ := hrel
    obtain ⟨a0, a1, a2, -, la⟩ := HW6.out.2.1.cells
    obtain ⟨b0, b1, b2, -, lb⟩ := HW6.out.2.2.1.cells
    have a1' : wr.cell? ⟨P6, 1, none⟩ = some (.slice av3 X.length cv3) := (hf.cell' (p := ⟨P6, 1, none⟩) hord.1 la).trans a1
    have hsz := hf.size
    have la' : P6 < wr.heap.size := by omega
    have HL := Lib.hid (And.intro hwl hf)
    clear a0 a1 a2 b0 b2 hwl
    by_cases hlt : i < X.length
    · obtain ⟨x, hx⟩ : ∃ x, X[i]? = some x := ⟨_, List.getElem?_eq_getElem hlt⟩
      obtain ⟨gx, hgx, -, hgl, hgc⟩ := own_at HW6.out.2.1.2 hx
      have hgne := HBX.out.2.1 gx (by rw [hgx]; rfl)
      have hdx : digitAt X i = x := by rw [digitAt_nat, List.getD_eq_getElem?_getD, hx]; rfl
      have HGX := Lib.hid (And.intro hgx (And.intro hgc hdx))
      clear hx hgx hgc hdx hf
      go_wp2_with fail
      go_loopw [11] (fun kv ws => ∃ (k : Nat) (L : List Int), k ≤ Y.length ∧ kv = .int .i64 k ∧ Hid (MulAt X Y L i k) ∧ Whole ws g 3 (ivd L).toArray ∧ Fr (fun k => k = g) W6 ws) (fun kv _ => Y.length - (intOf kv).toNat)
      case atStart => exact ⟨0, L, by omega, rfl, HM, HL.out.1, HL.out.2⟩
      case round =>
        obtain ⟨k, L, hkY, rfl, HM, hwl, hf⟩ := hrel
        have a1' : wr.cell? ⟨P6, 1, none⟩ = some (.slice av3 X.length cv3) := (hf.cell' (p := ⟨P6, 1, none⟩) hord.1 la).trans HW6.out.2.1.cells.2.1
        have b1' : wr.cell? ⟨P7, 1, none⟩ = some (.slice av4 Y.length cv4) := (hf.cell' (p := ⟨P7, 1, none⟩) hord.2.1 lb).trans b1
        have hsz := hf.size
        have la' : P6 < wr.heap.size := by omega
        have lb' : P7 < wr.heap.size := by omega
        have hlen := HM.out.len
        by_cases hkl : k < Y.length
        · obtain ⟨y, hy⟩ : ∃ y, Y[k]? = some y := ⟨_, List.getElem?_eq_getElem hkl⟩
          obtain ⟨gy, hgy, -, hgyl, hgyc⟩ := own_at HW6.out.2.2.1.2 hy
          have hgyne := HBX.out.2.2 gy (by rw [hgy]; rfl)
          have hdy : digitAt Y k = y := by rw [digitAt_nat, List.getD_eq_getElem?_getD, hy]; rfl
          obtain ⟨c, hc⟩ : ∃ c, L[i + k]? = some c := ⟨_, List.getElem?_eq_getElem (by omega)⟩
          have hst := HM.out.step HXY.out.1.2 HXY.out.2.2 hc
          have hdX := digitAt_le HXY.out.1.2 i
          have hdY := digitAt_le HXY.out.2.2 k
          have hbc := HM.out.bnd c (List.mem_of_getElem? hc)
          rw [HGX.out.2.2, hdy] at hst
          rw [HGX.out.2.2] at hdX
          rw [hdy] at hdY
          have cL : wr.cell? ⟨g, i + k, none⟩ = some (.int .i64 c) := by rw [hwl.reads]; simp [ivd, hc]
          have fL := hwl.thawed (i + k)
          have lg := hwl.lt
          have cX : wr.cell? ⟨gx, i, none⟩ = some (.int .i64 x) := (hf.cell' (p := ⟨gx, i, none⟩) hgne hgl).trans HGX.out.2.1
          have cY : wr.cell? ⟨gy, k, none⟩ = some (.int .i64 y) := (hf.cell' (p := ⟨gy, k, none⟩) hgyne hgyl).trans hgyc
          have lgx : gx < wr.heap.size := by omega
          have lgy : gy < wr.heap.size := by omega
          have hik : i * Y.length + k ≤ 18 * 18 + 18 := by
            have : i * Y.length ≤ 18 * 18 := Nat.mul_le_mul (by omega) hlen7
            omega
          have hxy0 : 0 ≤ x * y := Int.mul_nonneg hdX.1 hdY.1
          have hxy1 : x * y ≤ 81 := by
            have := Int.mul_le_mul hdX.2 hdY.2 hdY.1 (by decide)
            omega
          have hw1 : IntKind.i64.wrap (x * y) = x * y := IntWalk.i64_in _ (by omega)
          have hw2 : IntKind.i64.wrap (c + x * y) = c + x * y := IntWalk.i64_in _ (by omega)
          have hset := hwl.set (i + k) (.int .i64 (c + x * y))
          rw [iv_set] at hset
          have HN := Lib.hid (And.intro hst (And.intro hset (hf.setB (i + k) (.int .i64 (c + x * y))).drew))
          have HGY := Lib.hid hgy
          have HAX := Lib.hid HGX.out.1
          clear hy hgy hgyc hdy hc hst hdX hdY hbc hwl hf hset hik HM
          obtain rfl := HAX.out
          obtain rfl := HGY.out
          have p0 : (0 : Int) ≤ (i : Int) + (k : Int) := by omega
          have p1 : (i : Int) + (k : Int) < ((X.length + Y.length + 1 : Nat) : Int) := by omega
          have p2 : (0 : Int) ≤ (i : Int) := by omega
          have p3 : (i : Int) < (X.length : Int) := by omega
          have p4 : (0 : Int) ≤ (k : Int) := by omega
          have p5 : (k : Int) < (Y.length : Int) := by omega
          go_wp2_with fail
          go_region
          all_goals
            go_wp2_with fail
            go_roundw
            case rel => exact ⟨k + 1, _, by omega, by go_num, Lib.hid HN.out.1, HN.out.2.1, HN.out.2.2⟩
            case measure => simp [intOf]; omega
        · obtain rfl : k = Y.length := by omega
          have HN := Lib.hid (And.intro (HM.out.next HXY.out.1.2) (And.intro hwl hf))
          clear hwl hf HM
          go_wp2_with fail
          go_roundw
          case rel => exact ⟨i + 1, L, by omega, by go_num, Lib.hid HN.out.1, HN.out.2.1, HN.out.2.2⟩
          case measure => simp [intOf]; omega
    · obtain rfl : i = X.length := by omega
      have HC0 := Lib.hid (CarAt.start HM.out hlen6 hlen7)
      clear hf HM
      go_wp2_with fail
      go_loopw [12] (fun iv ws => ∃ (i : Nat) (L : List Int), i ≤ X.length + Y.length ∧ iv = .int .i64 i ∧ Hid (CarAt L (X.length + Y.length + 1) (num X * num Y) i) ∧ Whole ws g 3 (ivd L).toArray ∧ Fr (fun k => k = g) W6 ws) (fun iv _ => X.length + Y.length - (intOf iv).toNat)
      case atStart => exact ⟨0, L, by omega, rfl, HC0, HL.out.1, HL.out.2⟩
      case round =>
        obtain ⟨i, L, hiL, rfl, HM, hwl, hf⟩ := hrel
        have hlen := HM.out.len
        have hsz := hf.size
        have lg := hwl.lt
        by_cases hli : i < X.length + Y.length
        · obtain ⟨a, ha⟩ : ∃ a, L[i]? = some a := ⟨_, List.getElem?_eq_getElem (by omega)⟩
          obtain ⟨b, hb⟩ : ∃ b, L[i + 1]? = some b := ⟨_, List.getElem?_eq_getElem (by omega)⟩
          have hst := HM.out.step ha hb
          have ba := HM.out.bnd a (List.mem_of_getElem? ha)
          have bb := HM.out.bnd b (List.mem_of_getElem? hb)
          have ca : wr.cell? ⟨g, i, none⟩ = some (.int .i64 a) := by rw [hwl.reads]; simp [ivd, ha]
          have cb : wr.cell? ⟨g, i + 1, none⟩ = some (.int .i64 b) := by rw [hwl.reads]; simp [ivd, hb]
          have fa := hwl.thawed i
          have fb := hwl.thawed (i + 1)
          have h1 := hwl.set (i + 1) (.int .i64 (b + a / 10))
          have h2 := h1.set i (.int .i64 (a % 10))
          rw [iv_set] at h1
          rw [iv_set, iv_set] at h2
          have HN := Lib.hid (And.intro hst (And.intro h2 ((hf.setB (i + 1) (.int .i64 (b + a / 10))).drew.setB i (.int .i64 (a % 10)))))
          clear ha hb hst hwl hf h1 h2 HM
          have p0 : (0 : Int) ≤ (i : Int) + 1 := by omega
          have p1 : (i : Int) + 1 < ((X.length + Y.length + 1 : Nat) : Int) := by omega
          have p2 : (0 : Int) ≤ (i : Int) := by omega
          have p3 : (i : Int) < ((X.length + Y.length + 1 : Nat) : Int) := by omega
          go_wp2_with fail
          go_region
          all_goals
            go_wp2_with fail
            go_roundw
            case rel => exact ⟨i + 1, _, by omega, by go_num, Lib.hid HN.out.1, HN.out.2.1, HN.out.2.2⟩
            case measure => simp [intOf]; omega
        · obtain rfl : i = X.length + Y.length := by omega
          have hend := HM.out.end HXY.out.1.2 HXY.out.2.2 rfl
          have hrow : Row (wr.setCell ⟨P8, 1, none⟩ (.slice (some ⟨g, 0, none⟩) (X.length + Y.length + 1) (X.length + Y.length + 1))) (.slice (some ⟨g, 0, none⟩) L.length (X.length + Y.length + 1)) L := by
            refine .inr ⟨g, 0, X.length + Y.length + 1, rfl, by omega, fun j d hd => ?_⟩
            rw [(hwl.away (p := ⟨P8, 1, none⟩) (Ne.symm hord.2.2.1) _).reads, Nat.zero_add]
            simp [ivd, hd]
          rw [hlen] at hrow
          have hw8 := HW6.out.2.2.2.1.frame hf hord.2.2.1
          have hTh : Three w wr m s m' s' := ⟨HW6.out.1.a.frame hf hord.2.2.2.1, HW6.out.1.b.frame hf hord.2.2.2.2.1, HW6.out.1.r.frame hf hord.2.2.2.2.2, HW6.out.1.below.trans (hf.below HW6.out.1.below.size (fun j hj e => by omega))⟩
          have hRne : w.heap.size + 1 + 1 ≠ P8 := hTh.r.apart hw8 (by decide)
          have hR9 := hTh.r.away (p := ⟨P8, 1, none⟩) hRne (.slice (some ⟨g, 0, none⟩) (X.length + Y.length + 1) (X.length + Y.length + 1))
          have hB9 := hTh.below.setCell (p := ⟨P8, 1, none⟩) hwg8 (.slice (some ⟨g, 0, none⟩) (X.length + Y.length + 1) (X.length + Y.length + 1))
          have htold : Calls Try.prog 79 #[.agg #[.bool bx, .slice (some ⟨g, 0, none⟩) (X.length + Y.length + 1) (X.length + Y.length + 1), .int .i64 ((s : Int) + (s' : Int))]] (wr.setCell ⟨P8, 1, none⟩ (.slice (some ⟨g, 0, none⟩) (X.length + Y.length + 1) (X.length + Y.length + 1))) (IsTold (sgn bx (num L)) (s + s') (wr.setCell ⟨P8, 1, none⟩ (.slice (some ⟨g, 0, none⟩) (X.length + Y.length + 1) (X.length + Y.length + 1)))) :=
            told_any bx _ L (s + s') (sgn bx (num L)) _ hrow hend.1 (by omega) (by omega) rfl
          have c0 : wr.cell? ⟨P8, 0, none⟩ = some (.bool bx) := hw8.reads 0
          have c1 : wr.cell? ⟨P8, 1, none⟩ = some (.slice none 0 0) := hw8.reads 1
          have c2 : wr.cell? ⟨P8, 2, none⟩ = some (.int .i64 ((s : Int) + (s' : Int))) := hw8.reads 2
          have f1 := hw8.thawed 1
          have l8 := hw8.lt
          have HT := Lib.hid (And.intro htold (And.intro hR9 (And.intro hB9 hend.2)))
          clear hend hrow hw8 hTh hR9 hB9 htold hwl hf HM hlen
          go_wp2_with fail
          refine HT.out.1.mono ?_
          rintro e w10 ⟨M, S, E, rfl, hden, hb10⟩
          have hR10 := HT.out.2.1.here hb10
          have r0 : w10.cell? ⟨w.heap.size + 1 + 1, 0, none⟩ = some (.int .i64 0) := hR10.reads 0
          have r1 : w10.cell? ⟨w.heap.size + 1 + 1, 1, none⟩ = some (.int .i64 0) := hR10.reads 1
          have z0 := hR10.thawed 0
          have z1 := hR10.thawed 1
          have lr := hR10.lt
          have hfin := ((HT.out.2.2.1.trans (hb10.mono HT.out.2.2.1.size)).setCell (p := ⟨w.heap.size + 1 + 1, 0, none⟩) (by simp; omega) (.int .i64 M)).setCell (p := ⟨w.heap.size + 1 + 1, 1, none⟩) (by simp; omega) (.int .i64 S)
          rw [HT.out.2.2.2, HXY.out.1.1, HXY.out.2.1, ← HBX.out.1, ← HU.out.1, ← HU.out.2] at hden
          have HF := Lib.hid (And.intro (mul_val HVV.out.1 HVV.out.2 hden) hfin)
          clear hden hfin hR10 hb10
          go_wp2_with fail
          exact bodyPost_ret (v := .tuple #[.agg #[.int .i64 M, .int .i64 S], .int .i64 E]) (by simp [results, Try.results63, go_sem, r0, r1]) rfl ⟨M, S, E, rfl, HF.out.1, HF.out.2⟩
end Go.Proofs.Ytmleoagdelgddaa
