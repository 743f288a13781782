/- slices.Chunk at []byte: the iterator over the chunks of some bytes. -/
import Derived.Test.YtbbckpdpahkfkaaPredMath
import Derived.Test.YtbbckpdpahkfkaaByteStr
import Derived.Test.YtbbckpdpahkfkaaIter
import Derived.Test.YtbbckpdpahkfkaaKept
import Derived.Test.YtbbckpdpahkfkaaStillIn
import Derived.Shelf.Abstract
import Derived.OwnWalkIn
import Derived.TacticsInMore
import Derived.LoopNIn
import Derived.LoopIn
import Derived.Sort.LoopGhostIn
import Derived.Sort.QuietIn
import Derived.IntWalk
namespace Go.Proofs.Ytbbckpdpahkfkaa
open Go.RowKit
attribute [local go_sem] Oper.semAt_some

theorem Bytes.fr {w w' : World} {A : Option Addr} {n c : Nat} {bs : List Nat} {S : Nat → Prop} (h : Bytes w A n c bs) (hf : Fr S w w') (hn : 0 < n → ∀ R o, A = some ⟨R, o, none⟩ → R < w.heap.size → ¬ S R) : Bytes w' A n c bs :=
  ⟨h.len, h.cap, h.top, h.byte, fun h0 => by
    obtain ⟨R, o, e, hR, hc⟩ := h.at_ h0
    exact ⟨R, o, e, Nat.lt_of_lt_of_le hR hf.size, fun i b hb => (World.cell?_of_block (w := w) (hf.block R hR (hn h0 R o e hR))).trans (hc i b hb)⟩⟩
theorem Bytes.putObj {w : World} {A : Option Addr} {n c l : Nat} {bs : List Nat} {o : Obj} (o' : Obj) (h : Bytes w A n c bs) (hl : w.heap[l]? = some o) (ho : o.isCells = false) : Bytes (w.putObj l o') A n c bs :=
  ⟨h.len, h.cap, h.top, h.byte, fun h0 => by
    obtain ⟨R, k, e, hR, hc⟩ := h.at_ h0
    refine ⟨R, k, e, by simpa using hR, fun i b hb => ?_⟩
    have := hc i b hb
    rw [← this]
    refine World.cell?_of_block (World.putObj_heap_other (fun e => ?_))
    have e : R = l := e
    subst e
    unfold World.cell? at this
    rw [hl] at this
    cases o <;> simp_all [Obj.isCells]⟩
theorem Bytes.drewN {w : World} {A : Option Addr} {n c : Nat} {bs : List Nat} (h : Bytes w A n c bs) (j : Nat) : Bytes (w.drewN j) A n c bs := h.fr ((Fr.refl (fun _ => False) w).drewN j) (fun _ _ _ _ _ h => h)
/-- A slice that lies below block n₀ or in no block. -/
def LowA (n₀ : Nat) (A : Option Addr) : Prop := ∀ R o, A = some ⟨R, o, none⟩ → R < n₀
/-- The m-th chunk of a slice. -/
theorem Bytes.chunk {w : World} {R o n c : Nat} {bs : List Nat} (h : Bytes w (some ⟨R, o, none⟩) n c bs) (K m e : Nat) (h0 : 0 < n) (he : e = (rowM bs K m).length) : Bytes w (some ⟨R, o + m * K, none⟩) e e (rowM bs K m) := by
  have hl := h.len
  have hcap := h.cap
  have htop := h.top
  subst he
  have hle : (rowM bs K m).length ≤ n := by unfold rowM; rw [List.length_take, List.length_drop]; omega
  refine ⟨rfl, Nat.le_refl _, by omega, fun b hb => h.byte b (List.mem_of_mem_drop (List.mem_of_mem_take hb)), fun _ => ?_⟩
  obtain ⟨R', o', e, hR, hc⟩ := h.at_ h0
  injection e with e
  injection e with e1 e2
  subst e1 e2
  refine ⟨R, o + m * K, rfl, hR, fun i b hb => ?_⟩
  have hi := (List.getElem?_eq_some_iff.1 hb).1
  unfold rowM at hb hi
  rw [List.length_take] at hi
  rw [List.getElem?_take, if_pos (by omega), List.getElem?_drop] at hb
  rw [Nat.add_assoc]
  exact hc _ _ hb
theorem slice_from (R o n c P : Nat) (hp : P ≤ n) (hc : P < c) (W : World) :
    (Instr.sliceAt 22 (.slice (some ⟨R, o, none⟩) n c) (some (.int .i64 (P : Int))) none none).run Try.prog W = .ok (.slice (some ⟨R, o + P, none⟩) (n - P) (c - P)) W := by
  have U : Try.prog.underlying 22 = some (.slice (Try.prog.elem 22)) := by kernel_rfl
  have S : (sizeOf (Try.prog.elem 22)).run Try.prog W = .ok 1 W := by kernel_rfl
  have e : ¬ (c = P) := by omega
  rw [run_sliceAt_slice (h := U), run_slice_l (ht := U) (h0 := by omega) (h1 := by omega), S]
  simp [Result.andThen, sliced, e, Addr.add]
theorem slice_lhm (R o n c P Q : Nat) (hc : Q ≤ c) (hPQ : P < Q) (W : World) :
    (Instr.sliceAt 22 (.slice (some ⟨R, o, none⟩) n c) (some (.int .i64 (P : Int))) (some (.int .i64 (Q : Int))) (some (.int .i64 (Q : Int)))).run Try.prog W = .ok (.slice (some ⟨R, o + P, none⟩) (Q - P) (Q - P)) W := by
  have U : Try.prog.underlying 22 = some (.slice (Try.prog.elem 22)) := by kernel_rfl
  have S : (sizeOf (Try.prog.elem 22)).run Try.prog W = .ok 1 W := by kernel_rfl
  have e : ¬ (Q = P) := by omega
  rw [run_sliceAt_slice (h := U), run_slice_lhm (ht := U) (h0 := by omega) (h1 := by omega) (h2 := by omega) (h3 := by omega), S]
  simp [Result.andThen, sliced, e, Addr.add]
/-- The two boxes of the iterator. -/
structure TCh (B1 B2 n₀ : Nat) (A : Option Addr) (c K : Nat) (b : List Nat) (W : World) : Prop where
  row : Boxed W B1 22 (.slice A b.length c)
  many : Boxed W B2 3 (.int .i64 (K : Int))
  bytes : Bytes W A b.length c b
  low : 0 < b.length → LowA n₀ A
theorem TCh.fr {B1 B2 n₀ : Nat} {A : Option Addr} {c K : Nat} {b : List Nat} {W W' : World} {S : Nat → Prop} (h : TCh B1 B2 n₀ A c K b W) (hf : Fr S W W') (h1 : ¬ S B1) (h2 : ¬ S B2) (hS : ∀ k, k < n₀ → ¬ S k) : TCh B1 B2 n₀ A c K b W' :=
  ⟨(hf.block B1 h.row.lt h1).trans h.row, (hf.block B2 h.many.lt h2).trans h.many, h.bytes.fr hf (fun h0 R o e _ => hS R (h.low h0 R o e)), h.low⟩
/-- What a round keeps. -/
def KCh (B1 B2 n₀ : Nat) (W W' : World) : Prop := Fr (fun k => n₀ ≤ k ∧ k ≠ B1 ∧ k ≠ B2) W W'
theorem KCh.trans {B1 B2 n₀ : Nat} {a b c : World} (h : KCh B1 B2 n₀ a b) (k : KCh B1 B2 n₀ b c) : KCh B1 B2 n₀ a c := Fr.trans h k (fun _ _ e => e)
/-- How yield is called. -/
def YCh (n₀ K : Nat) (b : List Nat) (m : Nat) (vs : Array Value) (t : Nat) (W : World) : Prop :=
  m * K < b.length ∧ t = m + 1 ∧ ∃ R o e, e = (rowM b K m).length ∧ vs = #[.slice (some ⟨R, o, none⟩) e e] ∧ Bytes W (some ⟨R, o, none⟩) e e (rowM b K m) ∧ R < n₀
set_option maxRecDepth 100000 in
set_option maxHeartbeats 4000000 in
theorem chunk_iter (B1 B2 n₀ n : Nat) (A : Option Addr) (c K : Nat) (hn : 1 ≤ n) (b : List Nat) (hK : 1 ≤ K) (hK2 : K ≤ 1000000000) (hb2 : b.length ≤ 1000000000) :
    Iter Fence.wide n Try.prog 32 #[.pointer (some ⟨B1, 0, none⟩), .pointer (some ⟨B2, 0, none⟩)] (fun _ => False) (fun _ => TCh B1 B2 n₀ A c K b) (YCh n₀ K b) (fun m => b.length ≤ m * K) (KCh B1 B2 n₀) 0 := by
  intro l I Ix W hI hIx hY hI0 hT0
  refine callsIn_of_wp Try.func32 rfl trivial ?_ rfl
  simp only [Try.ntmps32, List.size_toArray, List.length_cons, List.length_nil, Nat.reduceAdd, Nat.reduceSub, Array.replicate_succ, Array.replicate_zero, List.push_toArray, List.append_toArray, List.nil_append, List.cons_append]
  gi_wp2
  gi_loopg [4, 5] b.length (fun g s4 _ wr => ∃ m : Nat, b.length - m * K = g ∧ s4 = .int .i64 ((m * K : Nat) : Int) ∧ m * K ≤ b.length + K ∧ I m wr ∧ TCh B1 B2 n₀ A c K b wr)
  case atStart => exact ⟨0, by simp, by simp, by simp, hI0, hT0⟩
  case round =>
    obtain ⟨m, hg, rfl, hle, hi, ht⟩ := hrel
    have HI := Lib.hid hi
    have HT := Lib.hid ht
    have HG := Lib.hid hg
    have c1 := ht.row.cell
    have c2 := ht.many.cell
    have hcap := ht.bytes.cap
    have htop := ht.bytes.top
    have hP : (m + 1) * K = m * K + K := by rw [Nat.add_mul, Nat.one_mul]
    have HPS := Lib.hid hP
    clear hg hi ht hP
    by_cases hlt : m * K < b.length
    · obtain ⟨R, o, hA, hR, hcell⟩ := HT.out.bytes.at_ (by omega)
      have HA := Lib.hid hA
      clear hcell hA
      have hlow := HT.out.low (by omega) R o HA.out
      obtain ⟨e, he⟩ : ∃ e, e = (rowM b K m).length := ⟨_, rfl⟩
      have he2 : (e < K ∧ e = b.length - m * K) ∨ (e = K ∧ K ≤ b.length - m * K) := by
        rw [he]; unfold rowM; rw [List.length_take, List.length_drop]; omega
      have HY := Lib.hid (show YCh n₀ K b m #[.slice (some ⟨R, o + m * K, none⟩) e e] (m + 1) wr.drew from
        ⟨hlt, rfl, R, o + m * K, e, he, rfl, (by have := HT.out.bytes; rw [HA.out] at this; exact (this.chunk K m e (by omega) he).fr (Fr.drew (Fr.refl (fun _ => False) wr)) (fun _ _ _ _ _ h => h)), hlow⟩)
      have HF := Lib.hid (show I m wr.drew ∧ TCh B1 B2 n₀ A c K b wr.drew from
        have hf : Fr (fun _ => False) wr wr.drew := Fr.drew (Fr.refl _ wr)
        ⟨hI _ _ _ HI.out hf ⟨m, HT.out⟩, HT.out.fr hf (fun h => h) (fun h => h) (fun _ _ h => h)⟩)
      clear he
      obtain rfl := HA.out
      obtain ⟨P, hP⟩ : ∃ P, m * K = P := ⟨_, rfl⟩
      rw [hP] at hlt hle he2
      simp only [hP]
      have HPP := Lib.hid hP
      clear hP
      have hc1 : P < c := by omega
      rcases he2 with ⟨hk1, hk2⟩ | ⟨hk1, hk2⟩
      · have hL : b.length - P = e := hk2.symm
        have hsl := slice_from R o b.length c P (by omega) hc1
        rw [hL] at hsl
        have HL := Lib.hid hL
        have he3 : P + e ≤ b.length := by omega
        have htn : ((P : Int) + (e : Int)).toNat - P = e := by omega
        have hnn : ¬ (((P : Int) + (e : Int)).toNat = P) := by omega
        clear hL hk2
        gi_wp2
        refine wpIn_region_still_tail open_wide 6 (by kernel_rfl) (by kernel_rfl) ?_
        simp only [List.take_succ_cons, List.take_zero, List.drop_succ_cons, List.drop_zero]
        repeat ((with_reducible refine wpStill_step (fun KK hK => ?_)); go_simp; refine hK _ ?_; clear hK KK)
        refine wpStill_nil ?_
        have hyj := HY.out
        rw [HPP.out] at hyj
        obtain ⟨fn, tmps, assign, body, hy, hR2⟩ := hY _ _ _ _ HF.out.1 HF.out.2 hyj
        have HR2 := Lib.hid hR2
        clear hyj hR2
        gi_wp2
        refine HR2.out.mono ?_
        rintro ee W3 (⟨rfl, hJ3, hK3⟩ | ⟨rfl, hJx3⟩)
        · have ht3 := HF.out.2.fr hK3 (fun e => e.2.1 rfl) (fun e => e.2.2 rfl) (fun k hk e => by omega)
          have c13 := ht3.row.cell
          have c23 := ht3.many.cell
          have HN := Lib.hid (And.intro hJ3 ht3)
          clear hJ3 hK3 ht3
          gi_wp2
          gi_roundg (b.length - (m + 1) * K)
          case measure => have := HPS.out; have := HPP.out; have := HG.out; omega
          case rel => exact ⟨m + 1, rfl, by rw [HPS.out, HPP.out, Int.natCast_add], by have := HPS.out; have := HPP.out; omega, HN.out.1, HN.out.2⟩
        · gi_wp2
          refine bodyPost_ret (results_none rfl _ _ _) rfl ?_
          exact ⟨⟨_, rfl⟩, .inr ⟨_, hJx3⟩⟩
      · obtain rfl := hk1
        obtain ⟨L, hL⟩ : ∃ L, b.length - P = L := ⟨_, rfl⟩
        have hk3 : e ≤ L := by omega
        have hsl := slice_from R o b.length c P (by omega) hc1
        rw [hL] at hsl
        have HL := Lib.hid hL
        have he3 : P + e ≤ b.length := by omega
        have htn : ((P : Int) + (e : Int)).toNat - P = e := by omega
        have hnn : ¬ (((P : Int) + (e : Int)).toNat = P) := by omega
        clear hL hk2
        gi_wp2
        refine wpIn_region_still_tail open_wide 6 (by kernel_rfl) (by kernel_rfl) ?_
        simp only [List.take_succ_cons, List.take_zero, List.drop_succ_cons, List.drop_zero]
        repeat ((with_reducible refine wpStill_step (fun KK hK => ?_)); go_simp; refine hK _ ?_; clear hK KK)
        refine wpStill_nil ?_
        have hyj := HY.out
        rw [HPP.out] at hyj
        obtain ⟨fn, tmps, assign, body, hy, hR2⟩ := hY _ _ _ _ HF.out.1 HF.out.2 hyj
        have HR2 := Lib.hid hR2
        clear hyj hR2
        gi_wp2
        refine HR2.out.mono ?_
        rintro ee W3 (⟨rfl, hJ3, hK3⟩ | ⟨rfl, hJx3⟩)
        · have ht3 := HF.out.2.fr hK3 (fun e => e.2.1 rfl) (fun e => e.2.2 rfl) (fun k hk e => by omega)
          have c13 := ht3.row.cell
          have c23 := ht3.many.cell
          have HN := Lib.hid (And.intro hJ3 ht3)
          clear hJ3 hK3 ht3
          gi_wp2
          gi_roundg (b.length - (m + 1) * e)
          case measure => have := HPS.out; have := HPP.out; have := HG.out; omega
          case rel => exact ⟨m + 1, rfl, by rw [HPS.out, HPP.out, Int.natCast_add], by have := HPS.out; have := HPP.out; omega, HN.out.1, HN.out.2⟩
        · gi_wp2
          refine bodyPost_ret (results_none rfl _ _ _) rfl ?_
          exact ⟨⟨_, rfl⟩, .inr ⟨_, hJx3⟩⟩
    · gi_wp2
      go_end0
      exact ⟨⟨_, rfl⟩, .inl ⟨m, by omega, HI.out⟩⟩
end Go.Proofs.Ytbbckpdpahkfkaa
