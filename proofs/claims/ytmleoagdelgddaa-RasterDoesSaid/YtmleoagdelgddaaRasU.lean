/- raster: Check. -/
import Derived.Test.YtmleoagdelgddaaRasP
import Derived.Test.YtmleoagdelgddaaRegionC
import Derived.Test.YtmleoagdelgddaaIter
import Derived.Test.YtmleoagdelgddaaKept
import Derived.Test.YtmleoagdelgddaaStillIn
import Derived.Shelf.Abstract
import Derived.OwnWalkIn
import Derived.TacticsInMore
import Derived.LoopNIn
import Derived.LoopIn
import Derived.Sort.LoopGhostIn
import Derived.Sort.QuietIn
import Derived.IntWalk
namespace Go.Proofs.Ytmleoagdelgddaa
open Go.RowKit Dec

/-- What an image of the format is. -/
theorem fmt_of {W H B C : Int} (h : fmtB W H B C = true) : ∃ W' H' B' C' : Nat, W = W' ∧ H = H' ∧ B = B' ∧ C = C' ∧ 0 < W' ∧ 0 < H' ∧ W' * H' ≤ 65536 ∧ (B' = 1 ∨ B' = 2 ∨ B' = 4 ∨ B' = 8 ∨ B' = 16) ∧ 1 ≤ C' ∧ C' ≤ 4 := by
  unfold fmtB sizeB bitsB at h
  simp only [Bool.and_eq_true, decide_eq_true_eq] at h
  obtain ⟨⟨⟨h1, h2, h3⟩, h4⟩, h5, h6⟩ := h
  obtain ⟨W', rfl⟩ : ∃ k : Nat, W = k := ⟨W.toNat, by omega⟩
  obtain ⟨H', rfl⟩ : ∃ k : Nat, H = k := ⟨H.toNat, by omega⟩
  obtain ⟨B', rfl⟩ : ∃ k : Nat, B = k := ⟨B.toNat, by omega⟩
  obtain ⟨C', rfl⟩ : ∃ k : Nat, C = k := ⟨C.toNat, by omega⟩
  refine ⟨W', H', B', C', rfl, rfl, rfl, rfl, by omega, by omega, ?_, by omega, by omega, by omega⟩
  have h7 : W' ≤ 65536 / H' := by
    have : ((65536 / H' : Nat) : Int) = 65536 / (H' : Int) := rfl
    omega
  have h8 := Nat.mul_le_mul_right H' h7
  have h9 := Nat.div_mul_le_self 65536 H'
  omega
/-- The bytes of a row. -/
def rowS (W B C : Nat) : Nat := (W * C * B + 7) / 8
/-- Is the image sound? -/
def chkB (W H B C : Int) (n : Nat) : Bool := fmtB W H B C && decide ((n : Int) = H * (rowS W.toNat B.toNat C.toNat : Int))
set_option maxRecDepth 100000 in
set_option maxHeartbeats 4000000 in
theorem rchk_bad (W H B C : Int) (A : Option Addr) (n c : Nat) (w : World) (hF : fmtB W H B C = false) :
    Calls Try.prog 17 #[.agg #[.int .i64 W, .int .i64 H, .int .i64 B, .int .i64 C, .slice A n c]] w fun e w' => e = .returned (.int .i64 1) ∧ Below w.heap.size w w' := by
  have HF := Lib.hid (fun w => hasFormat_any W H B C A n c w)
  rw [hF] at HF
  have HW := Lib.hid (Whole.made w 24 #[.int .i64 W, .int .i64 H, .int .i64 B, .int .i64 C, .slice A n c])
  have HV := (Below.refl w.heap.size w).alloc (Nat.le_refl _) (.cells #[.int .i64 W, .int .i64 H, .int .i64 B, .int .i64 C, .slice A n c] 24)
  clear hF
  go_enter Try.func17, Try.ntmps17
  go_wp2_with fail
  generalize hW0 : w.alloc (.cells #[.int .i64 W, .int .i64 H, .int .i64 B, .int .i64 C, .slice A n c] 24) = W0 at *
  have lI := HW.out.lt
  have HC : Hid (∀ v, Below W0.heap.size W0 v → (fun v => (v.cell? ⟨w.heap.size, 0, none⟩ = some (.int .i64 W) ∧ v.cell? ⟨w.heap.size, 1, none⟩ = some (.int .i64 H) ∧ v.cell? ⟨w.heap.size, 2, none⟩ = some (.int .i64 B) ∧ v.cell? ⟨w.heap.size, 3, none⟩ = some (.int .i64 C) ∧ v.cell? ⟨w.heap.size, 4, none⟩ = some (.slice A n c)) ∧ Below W0.heap.size W0 v) v) := Lib.hid (fun v k => ⟨img_cells (HW.out.here k), k⟩)
  have hS := HC.out W0.drew ((Below.refl W0.heap.size W0).drew)
  refine wp_region_C (fun v => (v.cell? ⟨w.heap.size, 0, none⟩ = some (.int .i64 W) ∧ v.cell? ⟨w.heap.size, 1, none⟩ = some (.int .i64 H) ∧ v.cell? ⟨w.heap.size, 2, none⟩ = some (.int .i64 B) ∧ v.cell? ⟨w.heap.size, 3, none⟩ = some (.int .i64 C) ∧ v.cell? ⟨w.heap.size, 4, none⟩ = some (.slice A n c)) ∧ Below W0.heap.size W0 v) (by kernel_rfl) ?_
  refine wpAnyC_take (i := 0) (v := .agg #[.int .i64 W, .int .i64 H, .int .i64 B, .int .i64 C, .slice A n c]) rfl (by kernel_rfl) (fun _ _ _ h => h) (Or.inl ⟨by rfl, ?y0⟩) hS ?r0
  case y0 => rintro wq ⟨⟨c0, c1, c2, c3, c4⟩, -⟩; go_simp; all_goals (first | with_reducible rfl | (simp only []; done) | (simp []; done) | (simp; omega) | skip)
  try simp only [Act.put, List.setIfInBounds_toArray, List.set_cons_zero, List.set_cons_succ]
  refine wpAnyC_one (j := 1) (by kernel_rfl) rfl (fun K hK => ?_)
  go_simp
  go_at_call 31
  refine (HF.out _).mono ?_
  rintro e V ⟨rfl, kk⟩
  have hbv : Below W0.heap.size W0 V := ((Below.refl W0.heap.size W0).drew).trans kk
  have hS := HC.out V hbv
  clear kk
  go_wp2_with fail
  refine hK.out _ _ ⟨hS, ?_⟩
  clear hK K
  try simp only [Act.put, List.setIfInBounds_toArray, List.set_cons_zero, List.set_cons_succ]
  refine wpAnyC_take (i := 2) (v := .bool true) rfl (by kernel_rfl) (fun _ _ _ h => h) (Or.inl ⟨by rfl, ?y2⟩) hS ?r2
  case y2 => intro wq _; go_simp; all_goals (first | with_reducible rfl | (simp only []; done) | (simp []; done) | (simp; omega) | skip)
  try simp only [Act.put, List.setIfInBounds_toArray, List.set_cons_zero, List.set_cons_succ]
  refine wpAnyC_take (i := 3) (v := .bool true) rfl (by kernel_rfl) (fun _ _ _ h => h) (Or.inl ⟨by rfl, ?y3⟩) hS ?r3
  case y3 => intro wq _; go_simp; all_goals (first | with_reducible rfl | (simp only []; done) | (simp []; done) | (simp; omega) | skip)
  try simp only [Act.put, List.setIfInBounds_toArray, List.set_cons_zero, List.set_cons_succ]
  refine wpAnyC_take (i := 4) (v := undef) rfl (by kernel_rfl) (fun _ _ _ h => h) (Or.inr ⟨by rfl, rfl⟩) hS ?r4
  try simp only [Act.put, List.setIfInBounds_toArray, List.set_cons_zero, List.set_cons_succ]
  refine wpAnyC_take (i := 5) (v := undef) rfl (by kernel_rfl) (fun _ _ _ h => h) (Or.inr ⟨by rfl, rfl⟩) hS ?r5
  try simp only [Act.put, List.setIfInBounds_toArray, List.set_cons_zero, List.set_cons_succ]
  refine wpAnyC_take (i := 6) (v := undef) rfl (by kernel_rfl) (fun _ _ _ h => h) (Or.inr ⟨by rfl, rfl⟩) hS ?r6
  try simp only [Act.put, List.setIfInBounds_toArray, List.set_cons_zero, List.set_cons_succ]
  refine wpAnyC_take (i := 7) (v := undef) rfl (by kernel_rfl) (fun _ _ _ h => h) (Or.inr ⟨by rfl, rfl⟩) hS ?r7
  try simp only [Act.put, List.setIfInBounds_toArray, List.set_cons_zero, List.set_cons_succ]
  refine wpAnyC_take (i := 8) (v := undef) rfl (by kernel_rfl) (fun _ _ _ h => h) (Or.inr ⟨by rfl, rfl⟩) hS ?r8
  try simp only [Act.put, List.setIfInBounds_toArray, List.set_cons_zero, List.set_cons_succ]
  refine wpAnyC_take (i := 9) (v := undef) rfl (by kernel_rfl) (fun _ _ _ h => h) (Or.inr ⟨by rfl, rfl⟩) hS ?r9
  try simp only [Act.put, List.setIfInBounds_toArray, List.set_cons_zero, List.set_cons_succ]
  refine wpAnyC_take (i := 10) (v := undef) rfl (by kernel_rfl) (fun _ _ _ h => h) (Or.inr ⟨by rfl, rfl⟩) hS ?r10
  try simp only [Act.put, List.setIfInBounds_toArray, List.set_cons_zero, List.set_cons_succ]
  refine wpAnyC_take (i := 11) (v := undef) rfl (by kernel_rfl) (fun _ _ _ h => h) (Or.inr ⟨by rfl, rfl⟩) hS ?r11
  try simp only [Act.put, List.setIfInBounds_toArray, List.set_cons_zero, List.set_cons_succ]
  refine wpAnyC_take (i := 12) (v := undef) rfl (by kernel_rfl) (fun _ _ _ h => h) (Or.inr ⟨by rfl, rfl⟩) hS ?r12
  try simp only [Act.put, List.setIfInBounds_toArray, List.set_cons_zero, List.set_cons_succ]
  refine wpAnyC_take (i := 13) (v := .bool true) rfl (by kernel_rfl) (fun _ _ _ h => h) (Or.inl ⟨by rfl, ?y13⟩) hS ?r13
  case y13 => intro wq _; go_simp; all_goals (first | with_reducible rfl | (simp only []; done) | (simp []; done) | (simp; omega) | skip)
  try simp only [Act.put, List.setIfInBounds_toArray, List.set_cons_zero, List.set_cons_succ]
  refine wpAnyC_done (by kernel_rfl) ?_ _
  go_wp2_with fail
  go_ret
  exact ⟨rfl, HV.trans (hS.2.mono HV.size)⟩
set_option maxRecDepth 100000 in
set_option maxHeartbeats 4000000 in
theorem rchk_fmt (W H B C : Nat) (A : Option Addr) (n c S : Nat) (w : World) (hF : fmtB (W : Int) (H : Int) (B : Int) (C : Int) = true) (hS : (W * C * B + 7) / 8 = S) (hb : W * C * B ≤ 10000000) (hb2 : W * C ≤ 10000000) (hHS : H * S ≤ 1000000000) (b : Bool) (hn : decide (n = H * S) = b) :
    Calls Try.prog 17 #[.agg #[.int .i64 (W : Int), .int .i64 (H : Int), .int .i64 (B : Int), .int .i64 (C : Int), .slice A n c]] w fun e w' => e = .returned (.int .i64 (if b then 0 else 1)) ∧ Below w.heap.size w w' := by
  have HF := Lib.hid (fun w => hasFormat_any (W : Int) (H : Int) (B : Int) (C : Int) A n c w)
  rw [hF] at HF
  have HR := Lib.hid (fun w => rowSize_any (H : Int) W B C A n c w hb hb2)
  rw [hS] at HR
  obtain ⟨G, hG⟩ : ∃ G, H * S = G := ⟨_, rfl⟩
  rw [hG] at hHS hn
  have e1 : IntKind.i64.wrap ((H : Int) * (S : Int)) = (G : Int) := by rw [← Int.natCast_mul, hG, IntKind.wrap_i64]; omega
  have HW := Lib.hid (Whole.made w 24 #[.int .i64 (W : Int), .int .i64 (H : Int), .int .i64 (B : Int), .int .i64 (C : Int), .slice A n c])
  have HV := (Below.refl w.heap.size w).alloc (Nat.le_refl _) (.cells #[.int .i64 (W : Int), .int .i64 (H : Int), .int .i64 (B : Int), .int .i64 (C : Int), .slice A n c] 24)
  have hk : (b = true ∧ n = G) ∨ (b = false ∧ ¬ n = G ∧ ¬ (n : Int) = (G : Int)) := by
    cases b
    · exact .inr ⟨rfl, of_decide_eq_false hn, by have := of_decide_eq_false hn; omega⟩
    · exact .inl ⟨rfl, of_decide_eq_true hn⟩
  clear hF hS hG hn hb hb2
  rcases hk with ⟨rfl, rfl⟩ | ⟨rfl, hk, hk2⟩
  all_goals
    go_enter Try.func17, Try.ntmps17
    go_wp2_with fail
    generalize hW0 : w.alloc (.cells #[.int .i64 (W : Int), .int .i64 (H : Int), .int .i64 (B : Int), .int .i64 (C : Int), .slice A n c] 24) = W0 at *
    have HK := Below.refl W0.heap.size W0
    have lI := HW.out.lt
    go_region_held3 (fun v => v.cell? ⟨w.heap.size, 0, none⟩ = some (.int .i64 (W : Int)) ∧ v.cell? ⟨w.heap.size, 1, none⟩ = some (.int .i64 (H : Int)) ∧ v.cell? ⟨w.heap.size, 2, none⟩ = some (.int .i64 (B : Int)) ∧ v.cell? ⟨w.heap.size, 3, none⟩ = some (.int .i64 (C : Int)) ∧ v.cell? ⟨w.heap.size, 4, none⟩ = some (.slice A n c))
      (first | with_reducible exact img_cells (HW.out.here HK) | with_reducible exact img_cells (HW.out.here (Below.drew HK)))
      (first
        | (go_at_call 31; (with_reducible refine (HF.out _).mono ?_); rintro x v ⟨rfl, kk⟩; have HK := (Below.drew HK).trans (kk.mono (Below.drew HK).size))
        | (go_at_call 32; (with_reducible refine (HR.out _).mono ?_); rintro x v ⟨rfl, kk⟩; have HK := HK.trans (kk.mono HK.size)))
    all_goals
      go_wp2_with fail
      go_ret
      exact ⟨rfl, HV.trans (HK.mono HV.size)⟩
/-- The sizes of a sound image. -/
theorem fmt_sizes {W H B C : Nat} (h0 : 0 < W) (h1 : 0 < H) (h2 : W * H ≤ 65536) (hB : B = 1 ∨ B = 2 ∨ B = 4 ∨ B = 8 ∨ B = 16) (hC : 1 ≤ C) (hC4 : C ≤ 4) :
    0 < W * C ∧ W * C ≤ 262144 ∧ H * (W * C) ≤ 262144 ∧ W * C * B ≤ 4194304 ∧ H * rowS W B C ≤ 786432 := by
  have k1 : W ≤ W * H := Nat.le_mul_of_pos_right W h1
  have k2 : W * C ≤ W * 4 := Nat.mul_le_mul_left _ hC4
  have k3 : 0 < W * C := Nat.mul_pos h0 hC
  have k4 : H * (W * C) ≤ 262144 := by
    rw [← Nat.mul_assoc, Nat.mul_comm H W]
    have : W * H * C ≤ W * H * 4 := Nat.mul_le_mul_left _ hC4
    omega
  have k5 : W * C * B ≤ W * C * 16 := Nat.mul_le_mul_left _ (by omega)
  refine ⟨k3, by omega, k4, by omega, ?_⟩
  unfold rowS
  have k6 : (W * C * B + 7) / 8 ≤ W * C * 3 := by omega
  have k7 : H * ((W * C * B + 7) / 8) ≤ H * (W * C * 3) := Nat.mul_le_mul_left _ k6
  have k8 : H * (W * C * 3) = H * (W * C) * 3 := (Nat.mul_assoc _ _ _).symm
  omega
/-- Check at any image. -/
theorem rcheck_any (W H B C : Int) (A : Option Addr) (n c : Nat) (w : World) :
    Calls Try.prog 17 #[.agg #[.int .i64 W, .int .i64 H, .int .i64 B, .int .i64 C, .slice A n c]] w fun e w' => e = .returned (.int .i64 (if chkB W H B C n then 0 else 1)) ∧ Below w.heap.size w w' := by
  cases hF : fmtB W H B C
  · have hk : chkB W H B C n = false := by unfold chkB; rw [hF]; rfl
    rw [hk]
    exact rchk_bad W H B C A n c w hF
  · obtain ⟨W', H', B', C', rfl, rfl, rfl, rfl, h0, h1, h2, hB, hC, hC4⟩ := fmt_of hF
    obtain ⟨z1, z2, z3, z4, z5⟩ := fmt_sizes h0 h1 h2 hB hC hC4
    have hk : chkB (W' : Int) (H' : Int) (B' : Int) (C' : Int) n = decide (n = H' * rowS W' B' C') := by
      unfold chkB
      rw [hF, Bool.true_and, Int.toNat_natCast, Int.toNat_natCast, Int.toNat_natCast, ← Int.natCast_mul]
      exact decide_eq_decide.2 ⟨fun h => by omega, fun h => by omega⟩
    rw [hk]
    exact rchk_fmt W' H' B' C' A n c (rowS W' B' C') w hF rfl (by omega) (by omega) (by omega) _ rfl
end Go.Proofs.Ytmleoagdelgddaa
/- raster: the iterator over an image's samples. -/
namespace Go.Proofs.Ytmleoagdelgddaa
open Go.RowKit Dec
attribute [local go_sem] Oper.semAt_some

theorem Bytes.fr {w w' : World} {A : Option Addr} {n c : Nat} {bs : List Nat} {S : Nat → Prop} (h : Bytes w A n c bs) (hf : Fr S w w') (hn : 0 < n → ∀ R o, A = some ⟨R, o, none⟩ → R < w.heap.size → ¬ S R) : Bytes w' A n c bs :=
  ⟨h.len, h.cap, h.top, h.byte, fun h0 => by
    obtain ⟨R, o, e, hR, hc⟩ := h.at_ h0
    exact ⟨R, o, e, Nat.lt_of_lt_of_le hR hf.size, fun i b hb => (World.cell?_of_block (w := w) (hf.block R hR (hn h0 R o e hR))).trans (hc i b hb)⟩⟩
/-- A slice that lies below block n₀ or in no block. -/
def LowA (n₀ : Nat) (A : Option Addr) : Prop := ∀ R o, A = some ⟨R, o, none⟩ → R < n₀
/-- The iterator's image. -/
structure TIm (B1 n₀ : Nat) (W H B C : Nat) (A : Option Addr) (n c : Nat) (bs : List Nat) (w : World) : Prop where
  im : Whole w B1 24 #[.int .i64 (W : Int), .int .i64 (H : Int), .int .i64 (B : Int), .int .i64 (C : Int), .slice A n c]
  bytes : Bytes w A n c bs
  low : 0 < n → LowA n₀ A
theorem TIm.fr {B1 n₀ W H B C : Nat} {A : Option Addr} {n c : Nat} {bs : List Nat} {w w' : World} {S : Nat → Prop} (h : TIm B1 n₀ W H B C A n c bs w) (hf : Fr S w w') (h1 : ¬ S B1) (hS : ∀ k, k < n₀ → ¬ S k) : TIm B1 n₀ W H B C A n c bs w' :=
  ⟨(hf.block B1 h.im.lt h1).trans h.im, h.bytes.fr hf (fun h0 R o e _ => hS R (h.low h0 R o e)), h.low⟩
/-- What a round keeps. -/
def KIm (B1 n₀ : Nat) (W W' : World) : Prop := Fr (fun k => n₀ ≤ k ∧ k ≠ B1) W W'
/-- How yield is called. -/
def YIm (N B S P : Nat) (bs : List Nat) (m : Nat) (vs : Array Value) (t : Nat) (_ : World) : Prop :=
  m < N ∧ t = m + 1 ∧ vs = #[.int .i64 (m : Int), .int .i64 ((smp bs B S P m : Nat) : Int)]
theorem fr_below {w w' : World} (h : Below w.heap.size w w') : Fr (fun _ => False) w w' := ⟨h.os, h.tape, h.output, h.size, fun i hi _ => h.block i hi⟩
set_option maxRecDepth 100000 in
set_option maxHeartbeats 4000000 in
theorem samples_iter (B1 n₀ n : Nat) (W H B C P S N : Nat) (A : Option Addr) (l c : Nat) (hn : 1 ≤ n) (bs : List Nat) (hP : W * C = P) (hS : (P * B + 7) / 8 = S) (h0 : 0 < P) (hH : H * P ≤ 262144) (hP2 : P ≤ 262144) (hB : B = 1 ∨ B = 2 ∨ B = 4 ∨ B = 8 ∨ B = 16) (hl : l = H * S) (hN : H * P = N) :
    Iter Fence.wide n Try.prog 47 #[.pointer (some ⟨B1, 0, none⟩)] (fun _ => False) (fun _ => TIm B1 n₀ W H B C A l c bs) (YIm N B S P bs) (fun m => N ≤ m) (KIm B1 n₀) 0 := by
  intro ll I Ix w hI hIx hY hI0 hT0
  have HPR := Lib.hid (fun w => perRow_any (W : Int) (H : Int) (B : Int) (C : Int) A l c (P : Int) w (by rw [← Int.natCast_mul, hP, IntKind.wrap_i64]; omega))
  have HGT := Lib.hid (fun (m : Nat) (hm : m < N) (w : World) (ht : TIm B1 n₀ W H B C A l c bs w) => get_any H W B C m P S A l c bs w ht.bytes hP hS h0 hH hB hl (by rw [hN]; exact hm))
  have hNb : N ≤ 262144 := by omega
  have e1 : IntKind.i64.wrap ((H : Int) * (P : Int)) = (N : Int) := by rw [← Int.natCast_mul, hN, IntKind.wrap_i64]; omega
  clear hP hS hH hB hl hN
  refine callsIn_of_wp Try.func47 rfl trivial ?_ rfl
  simp only [Try.ntmps47, List.size_toArray, List.length_cons, List.length_nil, Nat.reduceAdd, Nat.reduceSub, Array.replicate_succ, Array.replicate_zero, List.push_toArray, List.append_toArray, List.nil_append, List.cons_append]
  have HT := Lib.hid hT0
  have HI := Lib.hid hI0
  have lI := hT0.im.lt
  clear hT0 hI0
  gi_wp2
  refine wpIn_wide.2 ?_
  have HK := Below.refl w.heap.size w
  go_region_held3 (fun v => v.cell? ⟨B1, 0, none⟩ = some (.int .i64 (W : Int)) ∧ v.cell? ⟨B1, 1, none⟩ = some (.int .i64 (H : Int)) ∧ v.cell? ⟨B1, 2, none⟩ = some (.int .i64 (B : Int)) ∧ v.cell? ⟨B1, 3, none⟩ = some (.int .i64 (C : Int)) ∧ v.cell? ⟨B1, 4, none⟩ = some (.slice A l c))
    (first | with_reducible exact img_cells (HT.out.im.here HK) | with_reducible exact img_cells (HT.out.im.here (Below.drew HK)))
    (first
      | (go_at_call 27; (with_reducible refine (HPR.out _).mono ?_); rintro x v ⟨rfl, kk⟩; have HK := (Below.drew HK).trans (kk.mono (Below.drew HK).size)))
  all_goals
    have HS := Lib.hid (fr_below HK)
    have hi1 := hI _ _ _ HI.out HS.out ⟨0, HT.out⟩
    have ht1 := HT.out.fr HS.out (fun h => h) (fun _ _ h => h)
    clear HK
    gi_wp2
    gi_loopg [9] N (fun g s9 wr => ∃ m : Nat, N - m = g ∧ s9 = .int .i64 (m : Int) ∧ m ≤ N ∧ I m wr ∧ TIm B1 n₀ W H B C A l c bs wr)
    case atStart => exact ⟨0, by simp, by simp, by omega, hi1, ht1⟩
    case round =>
      obtain ⟨m, hg, rfl, hle, hi, ht⟩ := hrel
      have HJ := Lib.hid hi
      have HU := Lib.hid ht
      have HG := Lib.hid hg
      obtain ⟨c0, c1, c2, c3, c4⟩ := img_cells ht.im
      clear hg hi ht
      by_cases hlt : m < N
      · have hgt := HGT.out m hlt
        gi_wp2_with (refine ⟨trivial, ?_⟩; gi_at_call 48; refine (callsIn_wide.2 (hgt _ HU.out)).mono ?_; rintro e w1 ⟨rfl, hb1⟩)
        have hs1 := fr_below hb1
        have hj1 := hI _ _ _ HJ.out hs1 ⟨m, HU.out⟩
        have hu1 := HU.out.fr hs1 (fun h => h) (fun _ _ h => h)
        obtain ⟨fn, tmps, assign, body, hy, hR2⟩ := hY _ _ _ _ hj1 hu1 ⟨hlt, rfl, rfl⟩
        have HR2 := Lib.hid hR2
        have HV := Lib.hid hu1
        clear hR2 hs1 hj1 hu1 hb1
        go_simp
        refine HR2.out.mono ?_
        rintro ee W3 (⟨rfl, hJ3, hK3⟩ | ⟨rfl, hJx3⟩)
        · have ht3 := HV.out.fr hK3 (fun e => e.2 rfl) (fun k hk e => by omega)
          have HN := Lib.hid (And.intro hJ3 ht3)
          clear hJ3 hK3 ht3
          gi_wp2
          gi_roundg (N - (m + 1))
          case measure => have := HG.out; omega
          case rel => exact ⟨m + 1, rfl, by go_num, by omega, HN.out.1, HN.out.2⟩
        · gi_wp2
          refine bodyPost_ret (results_none rfl _ _ _) rfl ?_
          exact ⟨⟨_, rfl⟩, .inr ⟨_, hJx3⟩⟩
      · gi_wp2
        go_end0
        exact ⟨⟨_, rfl⟩, .inl ⟨m, by omega, HJ.out⟩⟩
end Go.Proofs.Ytmleoagdelgddaa
/- raster: Samples where Check says no; the call of the iterator. -/
namespace Go.Proofs.Ytmleoagdelgddaa
open Go.RowKit Dec

theorem samples_call (F : Fence) (hF : Open_ F) (k : Nat) (v : Value) (a b c d e : Value) (w : World) (hv : v = .agg #[a, b, c, d, e]) :
    CallsIn F k Try.prog 28 #[v] w fun x w' => x = .returned (.func (.func 47) #[] #[.pointer (some ⟨w.heap.size, 0, none⟩)]) ∧ w' = w.alloc (.cells #[a, b, c, d, e] 24) := by
  subst hv
  refine hF.calls ?_
  go_enter Try.func28, Try.ntmps28
  go_wp2
  go_ret
  exact ⟨rfl, rfl⟩
set_option maxRecDepth 100000 in
set_option maxHeartbeats 4000000 in
theorem samples_bad (W H B C : Int) (A : Option Addr) (n c : Nat) (w : World) (hk : chkB W H B C n = false) :
    Calls Try.prog 10 #[.agg #[.int .i64 W, .int .i64 H, .int .i64 B, .int .i64 C, .slice A n c]] w fun e w' => e = .returned (.tuple #[.slice none 0 0, .int .i64 1]) ∧ Below w.heap.size w w' := by
  have HC := Lib.hid (fun w => rcheck_any W H B C A n c w)
  rw [hk] at HC
  have HV := (Below.refl w.heap.size w).alloc (Nat.le_refl _) (.cells #[.int .i64 W, .int .i64 H, .int .i64 B, .int .i64 C, .slice A n c] 24)
  go_enter Try.func10, Try.ntmps10
  go_wp2_with fail
  refine (HC.out _).mono ?_
  rintro x v ⟨rfl, kk⟩
  go_wp2_with fail
  go_ret2
  exact ⟨rfl, HV.trans (kk.mono HV.size)⟩
end Go.Proofs.Ytmleoagdelgddaa
/- raster: Samples where Check says yes: the row that is made. -/
namespace Go.Proofs.Ytmleoagdelgddaa
open Go.RowKit Dec
attribute [local go_sem] Oper.semAt_some

theorem infoI : (Try.prog.info? 3).map (fun i => (i.zero, i.size, i.bytes)) = some (some (.int .i64 0), 1, 8) := by kernel_rfl
/-- The values of numbers. -/
def nvs (l : List Nat) : List Value := l.map fun b : Nat => Value.int .i64 (b : Int)
set_option maxRecDepth 100000 in
theorem make_ints (n : Nat) (hn : n ≤ 10000000) (w : World) :
    (Instr.makeSlice 25 (.int .i64 (n : Int)) (.int .i64 (n : Int))).run Try.prog w = .ok (.slice (some ⟨w.heap.size, 0, none⟩) n n) (w.alloc (.cells (nvs (List.replicate n 0)).toArray 3)) := by
  obtain ⟨i, hi, hz, hs, hy⟩ := info_parts infoI
  have := run_make (P := Try.prog) w 25 3 i _ Try.underlying25 hi hz .i64 .i64 n n (by omega) (by omega) (by rw [hy]; omega) (by omega)
  simp only [Int.toNat_natCast, hs] at this
  rw [show (Value.int .i64 0).cells = #[.int .i64 0] from by rfl] at this
  rw [this]
  congr 3
  apply Array.ext_getElem?
  intro j
  by_cases hj : j < n
  · simp [madeCells, nvs, hj, Nat.mod_one]
  · rw [Array.getElem?_eq_none (by simp [madeCells]; omega), Array.getElem?_eq_none (by simp [nvs]; omega)]
/-- What lies where the samples are to come: the image's box L, the row's box D, the row R. -/
structure SRow (w : World) (L D R N : Nat) (im : Array Value) (l : List Nat) (v : World) : Prop where
  below : Below w.heap.size w v
  low : w.heap.size ≤ L ∧ L < v.heap.size ∧ w.heap.size ≤ D ∧ w.heap.size ≤ R ∧ L ≠ D ∧ L ≠ R ∧ D ≠ R
  im : Whole v L 24 im
  box : Boxed v D 25 (.slice (some ⟨R, 0, none⟩) N N)
  row : Whole v R 3 (nvs l).toArray
  len : l.length = N
theorem TIm.kept {B1 n₀ W H B C : Nat} {A : Option Addr} {n c : Nat} {bs : List Nat} {w w' : World} (h : TIm B1 n₀ W H B C A n c bs w) (k : Kept n₀ (fun _ => False) w w') : TIm B1 n₀ W H B C A n c bs w' :=
  ⟨k.whole h.im (fun e => e), ⟨h.bytes.len, h.bytes.cap, h.bytes.top, h.bytes.byte, fun h0 => by
    obtain ⟨R, o, e, hR, hc⟩ := h.bytes.at_ h0
    exact ⟨R, o, e, Nat.lt_of_lt_of_le hR k.size, fun i b hb => (World.cell?_of_block (k.low R (h.low h0 R o e) hR)).trans (hc i b hb)⟩⟩, h.low⟩
theorem SRow.kept {w v v' : World} {L D R N : Nat} {im : Array Value} {l : List Nat} (h : SRow w L D R N im l v) (k : Kept w.heap.size (fun _ => False) v v') : SRow w L D R N im l v' :=
  ⟨k.below h.below (Nat.le_refl _), ⟨h.low.1, Nat.lt_of_lt_of_le h.low.2.1 k.size, h.low.2.2⟩, k.whole h.im (fun e => e), k.boxed h.box (fun e => e), k.whole h.row (fun e => e), h.len⟩
theorem SRow.later {w v v' : World} {L D R N : Nat} {im : Array Value} {l : List Nat} (h : SRow w L D R N im l v) (k : Below v.heap.size v v') : SRow w L D R N im l v' :=
  ⟨h.below.trans (k.mono h.below.size), ⟨h.low.1, Nat.lt_of_lt_of_le h.low.2.1 k.size, h.low.2.2⟩, h.im.here k, (k.block D h.box.lt).trans h.box, h.row.here k, h.len⟩
/-- The three ways in which the row and its box are made. -/
theorem srow_a {w w1 v : World} {L N : Nat} {im : Array Value} {l : List Nat} (hb : Below w.heap.size w w1) (hL : w.heap.size ≤ L) (hi : Whole w1 L 24 im) (hk : Below w1.heap.size w1 v) (hl : l.length = N) :
    SRow w L (v.heap.size + 1) v.heap.size N im l ((v.alloc (.cells (nvs l).toArray 3)).alloc (.cells #[.slice (some ⟨v.heap.size, 0, none⟩) N N] 25)) := by
  have h1 := hb.size
  have h2 := hk.size
  have h3 := hi.lt
  have y := Boxed.new (v.alloc (.cells (nvs l).toArray 3)) 25 (.slice (some ⟨v.heap.size, 0, none⟩) N N)
  simp only [World.size_alloc] at y
  exact ⟨((hb.trans (hk.mono h1)).alloc (by omega) _).alloc (by simp; omega) _, ⟨hL, by simp; omega, by omega, by omega, by omega, by omega, by omega⟩, ((hi.here hk).old _).old _, y, (Whole.made v _ _).old _, hl⟩
theorem srow_b {w w1 v : World} {L N : Nat} {im : Array Value} {l : List Nat} (hb : Below w.heap.size w w1) (hL : w.heap.size ≤ L) (hi : Whole w1 L 24 im) (hk : Below w1.heap.size w1 v) (hl : l.length = N) :
    SRow w L v.heap.size (v.heap.size + 1) N im l ((v.alloc (.cells #[.slice (some ⟨v.heap.size + 1, 0, none⟩) N N] 25)).alloc (.cells (nvs l).toArray 3)) := by
  have h1 := hb.size
  have h2 := hk.size
  have h3 := hi.lt
  have y := Whole.made (v.alloc (.cells #[.slice (some ⟨v.heap.size + 1, 0, none⟩) N N] 25)) 3 (nvs l).toArray
  simp only [World.size_alloc] at y
  exact ⟨((hb.trans (hk.mono h1)).alloc (by omega) _).alloc (by simp; omega) _, ⟨hL, by simp; omega, by omega, by omega, by omega, by omega, by omega⟩, ((hi.here hk).old _).old _, (Boxed.new v _ _).alloc _, y, hl⟩
theorem srow_c {w w1 v : World} {L D N : Nat} {im : Array Value} {l : List Nat} {u : Value} (hb : Below w.heap.size w w1) (hL : w.heap.size ≤ L) (hi : Whole w1 L 24 im) (hk : Below w1.heap.size w1 v) (hD : Whole v D 25 #[u]) (hD1 : w1.heap.size ≤ D) (hl : l.length = N) :
    SRow w L D v.heap.size N im l ((v.setCell ⟨D, 0, none⟩ (.slice (some ⟨v.heap.size, 0, none⟩) N N)).alloc (.cells (nvs l).toArray 3)) := by
  have h1 := hb.size
  have h2 := hk.size
  have h3 := hi.lt
  have h4 := hD.lt
  have y := Whole.made (v.setCell ⟨D, 0, none⟩ (.slice (some ⟨v.heap.size, 0, none⟩) N N)) 3 (nvs l).toArray
  simp only [World.size_setCell] at y
  exact ⟨((hb.trans (hk.mono h1)).setCell (p := ⟨D, 0, none⟩) (by show w.heap.size ≤ D; omega) _).alloc (by simp; omega) _, ⟨hL, by simp; omega, by omega, by omega, by omega, by omega, by omega⟩, ((hi.here hk).away (p := ⟨D, 0, none⟩) (by show L ≠ D; omega) _).old _, ((hD.set 0 _).old _ : Whole _ D _ _), y, hl⟩
end Go.Proofs.Ytmleoagdelgddaa
