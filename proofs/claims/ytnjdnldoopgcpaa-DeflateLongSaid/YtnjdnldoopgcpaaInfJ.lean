/- slices.Repeat at one number. -/
import Derived.Test.YtnjdnldoopgcpaaInfH
import Derived.Test.YtnjdnldoopgcpaaShelf
import Derived.Laws.CopyOwn
import Derived.Deep.RegionLaw
namespace Go.Proofs.Ytnjdnldoopgcpaa
open Go.RowKit

def repL2 (v : Int) (m k : Nat) : List Value := List.replicate m (Value.int .i64 v) ++ List.replicate (k - m) (Value.int .i64 0)
theorem repL2_len (v : Int) {m k : Nat} (h : m ≤ k) : (repL2 v m k).length = k := by unfold repL2; simp; omega
theorem repL2_splice (v : Int) {m k j : Nat} (h : m + j ≤ k) : splice (repL2 v m k) m (List.replicate j (Value.int .i64 v)) = repL2 v (m + j) k := by
  unfold splice repL2
  have e1 : (List.replicate m (Value.int .i64 v) ++ List.replicate (k - m) (Value.int .i64 0)).take m = List.replicate m (Value.int .i64 v) := by
    rw [List.take_append_of_le_length (by simp)]
    simp
  have e2 : (List.replicate m (Value.int .i64 v) ++ List.replicate (k - m) (Value.int .i64 0)).drop (m + (List.replicate j (Value.int .i64 v)).length) = List.replicate (k - (m + j)) (Value.int .i64 0) := by
    rw [List.drop_append, List.drop_eq_nil_of_le (by simp), List.nil_append, List.drop_replicate, List.length_replicate, List.length_replicate]
    congr 1
    omega
  rw [e1, e2, ← List.append_assoc, List.replicate_append_replicate]
theorem repL2_zero (v : Int) (k : Nat) : madeCells #[.int .i64 0] k = (repL2 v 0 k).toArray := by
  apply Array.ext
  · simp [madeCells, repL2]
  · intro i h1 h2
    simp [madeCells, repL2, Nat.mod_one]
theorem repL2_full (v : Int) (k : Nat) : repL2 v k k = iiv (List.replicate k v) := by unfold repL2 iiv; simp
set_option maxRecDepth 100000 in
set_option maxHeartbeats 1000000 in
theorem repeat_any (A : Option Addr) (c : Nat) (v : Int) (k : Nat) (w : World) (h : IntsAt w A 1 c [v]) (h1 : 1 ≤ k) (hk : k ≤ 1000) :
    Calls Try.prog 45 #[.slice A 1 c, .int .i64 (k : Int)] w fun e w' => ∃ G, e = .returned (.slice (some ⟨G, 0, none⟩) k k) ∧ w.heap.size ≤ G ∧ Whole w' G 3 (iiv (List.replicate k v)).toArray ∧ Below w.heap.size w w' := by
  have hmk := fun W => run_make_row' (P := Try.prog) 50 3 (.int .i64 0) 8 Try.underlying50 (by kernel_rfl) rfl .i64 .i64 k (by omega) (by omega) W
  have hcap := h.cap
  have htop := h.top
  have HM : Hid (Calls Try.prog 64 #[.int .u64 1, .int .u64 (k : Int)] w fun e w' => e = .returned (.tuple #[.int .u64 0, .int .u64 (k : Int)]) ∧ w' = w) := Lib.hid (by
    have := Try.bits_Mul 1 k (by omega) (by omega) w
    rw [Nat.one_mul, Nat.div_eq_of_lt (by omega), Nat.mod_eq_of_lt (by omega)] at this
    exact this)
  obtain ⟨R, o, rfl, hR, hc⟩ := h.at_ (by decide)
  have c0 : w.cell? ⟨R, o, none⟩ = some (.int .i64 v) := hc 0 v rfl
  have d1 : decide ((k : Int) < 0) = false := decide_eq_false (by omega)
  have d2 : decide ((k : Int) > 9223372036854775807) = false := decide_eq_false (by omega)
  have ew1 : IntKind.u64.wrap (k : Int) = (k : Int) := by rw [IntKind.wrap_u64]; omega
  have ew2 : IntKind.i64.wrap (k : Int) = (k : Int) := by rw [IntKind.wrap_i64]; omega
  obtain ⟨wA, hwA⟩ : ∃ wA, w.alloc (.cells (madeCells #[.int .i64 0] k) 3) = wA := ⟨_, rfl⟩
  have hbA : Below w.heap.size w wA := by rw [← hwA]; exact (Below.refl _ _).alloc (Nat.le_refl _) _
  have HG := Lib.hid (show Whole wA w.heap.size 3 (repL2 v 0 k).toArray by rw [← hwA, ← repL2_zero]; exact Whole.made _ _ _)
  have HB := Lib.hid hbA
  have HC0 := Lib.hid ((hbA.cell (p := ⟨R, o, none⟩) hR).trans c0)
  clear h hc c0 hbA
  go_enter Try.func45, Try.ntmps45
  go_wp2_with fail
  refine HM.out.mono ?_
  rintro e w2 ⟨rfl, hw2⟩
  subst hw2
  go_wp2_with ((refine wpList_copy_splice rfl _ _ 50 50 rfl 3 Try.underlying50 (by kernel_rfl) _ _ _ _ _ _ rfl rfl w2.heap.size 0 (repL2 v 0 k) 3 HG.out (List.replicate 1 (Value.int .i64 v)) ?p1 ?p2 ?p3 ?p4 w2.heap.size w2 HB.out (Nat.le_refl _) ?_))
  case p1 => rw [List.length_replicate]; show 1 = min 1 k; omega
  case p2 =>
    intro j u hj
    match j, hj with
    | 0, hj =>
      simp at hj
      subst hj
      exact HC0.out
    | j + 1, hj => simp at hj
  case p3 => simp [repL2_len v (Nat.zero_le k)]; omega
  case p4 => simp [Value.oneCell']
  intro w3 hg3 hb3
  have hW3 : Whole w3 w2.heap.size 3 (repL2 v 1 k).toArray := by
    have h' : splice (repL2 v 0 k) 0 [Value.int .i64 v] = repL2 v 1 k := repL2_splice v (m := 0) (j := 1) (by omega)
    have := hg3.out
    rw [h'] at this
    exact this
  have H3 := Lib.hid (And.intro hW3 hb3)
  clear hg3 hb3 hW3 HG
  go_wp2_with fail
  go_loopw [8] (fun s8 wr => ∃ m : Nat, s8 = .int .i64 (m : Int) ∧ 1 ≤ m ∧ m ≤ k ∧ Hid (Whole wr w2.heap.size 3 (repL2 v m k).toArray ∧ Below w2.heap.size w2 wr)) (fun s8 _ => k - (intOf s8).toNat)
  case atStart => exact ⟨1, rfl, by omega, by omega, H3⟩
  case round =>
    clear H3
    obtain ⟨m, rfl, hm1, hmk2, HR⟩ := hrel
    by_cases hlt : m < k
    · have d3 : decide ((m : Int) < (k : Int)) = true := decide_eq_true (by omega)
      obtain ⟨j, hj⟩ : ∃ j, j = min m (k - m) := ⟨_, rfl⟩
      have hj1 : 1 ≤ j := by omega
      have hmj : m + j ≤ k := by omega
      have ewj : IntKind.i64.wrap ((m : Int) + (j : Int)) = ((m + j : Nat) : Int) := by rw [IntKind.wrap_i64]; omega
      have b1 : (0 : Int) ≤ (m : Int) := by omega
      have b2 : (m : Int) ≤ (k : Int) := by omega
      have hcs : (List.replicate j (Value.int .i64 v)).length = Nat.min m (k - m) := by rw [List.length_replicate, hj]
      have hsrc : ∀ i u, (List.replicate j (Value.int .i64 v))[i]? = some u → wr.cell? ((⟨w2.heap.size, 0, none⟩ : Addr).add i) = some u := fun i u hu => by
        have hi : i < j := by have := (List.getElem?_eq_some_iff.1 hu).1; simpa using this
        have e : u = Value.int .i64 v := by rw [List.getElem?_replicate, if_pos hi] at hu; injection hu with hu; exact hu.symm
        rw [e]
        rw [gaddr_add (a := ⟨w2.heap.size, 0, none⟩) rfl i]
        show wr.cell? ⟨w2.heap.size, 0 + i, none⟩ = _
        have him : i < m := by omega
        rw [Nat.zero_add, HR.out.1.reads i, List.getElem?_toArray]
        unfold repL2
        rw [List.getElem?_append_left (by rw [List.length_replicate]; exact him), List.getElem?_replicate, if_pos him]
      have HS := Lib.hid (And.intro hcs hsrc)
      clear hcs hsrc hj
      go_upto_region 9 with fail
      have hS : True := trivial
      refine wp_region_C (fun _ => True) (by kernel_rfl) ?_
      refine wpAnyC_take (i := 0) (v := ?v1) rfl (by kernel_rfl) (fun _ _ _ h => h) (Or.inl ⟨by rfl, ?y1⟩) hS ?r1
      case y1 => intro wq _; go_simp; all_goals (first | with_reducible rfl | go_num | (simp; done) | (simp; omega) | skip)
      try simp only [Act.put, List.setIfInBounds_toArray, List.set_cons_zero, List.set_cons_succ]
      refine wpAnyC_take (i := 1) (v := ?v2) rfl (by kernel_rfl) (fun _ _ _ h => h) (Or.inl ⟨by rfl, ?y2⟩) hS ?r2
      case y2 => intro wq _; go_simp; all_goals (first | with_reducible rfl | go_num | (simp; done) | (simp; omega) | skip)
      try simp only [Act.put, List.setIfInBounds_toArray, List.set_cons_zero, List.set_cons_succ]
      refine wpAnyC_take (i := 2) (v := ?v3) rfl (by kernel_rfl) (fun _ _ _ h => h) (Or.inl ⟨by rfl, ?y3⟩) hS ?r3
      case y3 => intro wq _; go_simp; all_goals (first | with_reducible rfl | go_num | (simp; done) | (simp; omega) | skip)
      try simp only [Act.put, List.setIfInBounds_toArray, List.set_cons_zero, List.set_cons_succ]
      refine wpAnyC_take (i := 4) (v := ?v4) rfl (by kernel_rfl) (fun _ _ _ h => h) (Or.inl ⟨by rfl, ?y4⟩) hS ?r4
      case y4 => intro wq _; go_simp; all_goals (first | with_reducible rfl | go_num | (simp; done) | (simp; omega) | skip)
      try simp only [Act.put, List.setIfInBounds_toArray, List.set_cons_zero, List.set_cons_succ]
      refine wpAnyC_take (i := 5) (v := ?v5) rfl (by kernel_rfl) (fun _ _ _ h => h) (Or.inl ⟨by rfl, ?y5⟩) hS ?r5
      case y5 => intro wq _; go_simp; all_goals (first | with_reducible rfl | go_num | (simp; done) | (simp; omega) | skip)
      try simp only [Act.put, List.setIfInBounds_toArray, List.set_cons_zero, List.set_cons_succ]
      refine wpAnyC_take (i := 3) (v := .slice (some ⟨w2.heap.size, m, none⟩) (k - m) (k - m)) rfl (by kernel_rfl) (fun _ _ _ h => h) (Or.inl ⟨by rfl, ?y6⟩) hS ?r6
      case y6 => intro wq _; go_simp; all_goals (first | omega | (simp; omega))
      try simp only [Act.put, List.setIfInBounds_toArray, List.set_cons_zero, List.set_cons_succ]
      refine wpAnyC_take (i := 6) (v := .slice (some ⟨w2.heap.size, 0, none⟩) m k) rfl (by kernel_rfl) (fun _ _ _ h => h) (Or.inl ⟨by rfl, ?y7⟩) hS ?r7
      case y7 => intro wq _; go_simp; all_goals (first | omega | (simp; omega))
      try simp only [Act.put, List.setIfInBounds_toArray, List.set_cons_zero, List.set_cons_succ]
      refine wpAnyC_one (j := 7) (by kernel_rfl) rfl (fun K hK => ?_)
      refine step_copy_splice rfl (.tmp 41) (.tmp 44) 50 50 rfl 3 Try.underlying50 (by kernel_rfl) (some ⟨w2.heap.size, m, none⟩) (some ⟨w2.heap.size, 0, none⟩) (k - m) (k - m) m k rfl rfl w2.heap.size m (repL2 v m k) 3 HR.out.1 (List.replicate j (Value.int .i64 v)) HS.out.1 (fun _ => ⟨rfl, _, rfl, HS.out.2⟩) ?p3 ?p4 w2.heap.size w2 HR.out.2.drew (Nat.le_refl _) ?_
      case p3 => rw [repL2_len v (by omega), List.length_replicate]; exact hmj
      case p4 => intro u hu; rw [List.eq_of_mem_replicate hu]; rfl
      intro w4 hg4 hb4
      refine hK.out _ _ ⟨trivial, ?_⟩
      clear hK K
      try simp only [Act.put, List.setIfInBounds_toArray, List.set_cons_zero, List.set_cons_succ]
      rw [List.length_replicate]
      refine wpAnyC_take (i := 8) (v := ?v8) rfl (by kernel_rfl) (fun _ _ _ h => h) (Or.inl ⟨by rfl, ?y8⟩) hS ?r8
      case y8 => intro wq _; go_simp; all_goals (first | with_reducible rfl | go_num | (simp; done) | (simp; omega) | skip)
      try simp only [Act.put, List.setIfInBounds_toArray, List.set_cons_zero, List.set_cons_succ]
      refine wpAnyC_take (i := 9) (v := ?v9) rfl (by kernel_rfl) (fun _ _ _ h => h) (Or.inl ⟨by rfl, ?y9⟩) hS ?r9
      case y9 => intro wq _; go_simp; all_goals (first | with_reducible rfl | go_num | (simp; done) | (simp; omega) | skip)
      try simp only [Act.put, List.setIfInBounds_toArray, List.set_cons_zero, List.set_cons_succ]
      refine wpAnyC_done (by kernel_rfl) ?_ _
      have h' := repL2_splice v hmj
      have hW4 : Whole w4 w2.heap.size 3 (repL2 v (m + j) k).toArray := by
        have := hg4.out
        rw [h'] at this
        exact this
      have H4 := Lib.hid (And.intro hW4 hb4)
      clear hg4 hb4 hW4 h'
      go_wp2_with fail
      go_roundw
      case rel => exact ⟨m + j, by go_num, by omega, hmj, H4⟩
      case measure => simp [intOf]; omega
    · obtain rfl : m = k := by omega
      have d3 : decide ((m : Int) < (m : Int)) = false := by simp
      go_wp2_with fail
      go_ret
      exact ⟨w2.heap.size, rfl, Nat.le_refl _, by rw [← repL2_full]; exact HR.out.1, HR.out.2⟩
end Go.Proofs.Ytnjdnldoopgcpaa
