/- The walk of PredictUp. -/
import Derived.Test.YtjligbfijjejmaaPredX
import Derived.Test.YtjligbfijjejmaaPredUpM
import Derived.Test.YtjligbfijjejmaaLaidGen
namespace Go.Proofs.Ytjligbfijjejmaa
open Go.RowKit

set_option maxRecDepth 100000 in
set_option maxHeartbeats 4000000 in
theorem up_law (A : Option Addr) (n c : Nat) (bs : List Nat) (many : Int) (w : World) (h : Bytes w A n c bs) :
    Calls Try.prog 6 #[.slice A n c, .int .i64 many] w (True_ w) := by
  have hl := h.len
  subst hl
  have hcap := h.cap
  have htop := h.top
  have HB := Lib.hid h
  clear h
  by_cases g1 : bs.length < 1
  · go_enter Try.func6, Try.ntmps6
    go_wp2_with fail
    refine (awake_any _).mono ?_
    rintro e w1 ⟨rfl, hb1⟩
    have HB1 := Lib.hid hb1
    clear hb1
    go_wp2
    go_ret
    exact ⟨rfl, HB1.out⟩
  by_cases g2 : 200 < bs.length
  · go_enter Try.func6, Try.ntmps6
    go_wp2_with fail
    refine (awake_any _).mono ?_
    rintro e w1 ⟨rfl, hb1⟩
    have HB1 := Lib.hid hb1
    clear hb1
    go_wp2
    go_ret
    exact ⟨rfl, HB1.out⟩
  by_cases g3 : many < 0
  · go_enter Try.func6, Try.ntmps6
    go_wp2_with fail
    refine (awake_any _).mono ?_
    rintro e w1 ⟨rfl, hb1⟩
    have HB1 := Lib.hid hb1
    clear hb1
    go_wp2
    go_ret
    exact ⟨rfl, HB1.out⟩
  by_cases g4 : 20 < many
  · go_enter Try.func6, Try.ntmps6
    go_wp2_with fail
    refine (awake_any _).mono ?_
    rintro e w1 ⟨rfl, hb1⟩
    have HB1 := Lib.hid hb1
    clear hb1
    go_wp2
    go_ret
    exact ⟨rfl, HB1.out⟩
  obtain ⟨M, rfl⟩ : ∃ M : Nat, many = M := ⟨many.toNat, by omega⟩
  have hM : M ≤ 20 := by omega
  have hlen1 : 1 ≤ bs.length := by omega
  have hlen2 : bs.length ≤ 200 := by omega
  have hE := up_ok hlen1 hlen2 hM
  have hbyte := HB.out.byte
  have hlM : ∀ k, k ≤ M → k * bs.length ≤ 4000 := fun k hk => Nat.le_trans (Nat.mul_le_mul (Nat.le_trans hk hM) hlen2) (by omega)
  have hwn := up_want hbyte 1 M M (Nat.le_refl _)
  have hXl := doN_len 1 bs.length 1 2 (repB bs M) M
  obtain ⟨X, hX⟩ : ∃ X, doN 1 bs.length 1 2 (repB bs M) M = X := ⟨_, rfl⟩
  rw [hX] at hE hwn hXl
  have hX40 : X.length ≤ 4020 := by
    rw [hXl]
    exact Nat.le_trans (Nat.mul_le_mul hM (show 1 + bs.length ≤ 201 by omega)) (by omega)
  have hmul : IntKind.i64.wrap ((M : Int) * ((bs.length : Int) + 1)) = ((X.length : Nat) : Int) := by
    have e : (M : Int) * ((bs.length : Int) + 1) = ((X.length : Nat) : Int) := by rw [hXl]; push_cast; rw [Int.add_comm 1]
    rw [e]
    exact IntWalk.i64_in _ (by omega)
  have HL := Lib.hid (And.intro hlM (And.intro hwn (And.intro hbyte (And.intro hE hXl))))
  clear hE hbyte hlM hwn hX hXl
  go_enter Try.func6, Try.ntmps6
  go_wp2
  have hP := Whole.made w 23 #[.int .i64 12, .int .i64 1, .int .i64 8, .int .i64 (bs.length : Int)]
  have hb0 : Below w.heap.size w (w.alloc (.cells #[.int .i64 12, .int .i64 1, .int .i64 8, .int .i64 (bs.length : Int)] 23)) := (Below.refl _ _).alloc (Nat.le_refl _) _
  have H0 := Lib.hid (And.intro hP hb0)
  clear hP hb0
  go_loopw [6, 7] (fun lv iv wr => ∃ k : Nat, k ≤ M ∧ iv = .int .i64 (k : Nat) ∧ wr.ownsRow (w.heap.size + 1) 5 1 lv (k * bs.length) (bvs (repB bs k)) ∧ Whole wr w.heap.size 23 #[.int .i64 12, .int .i64 1, .int .i64 8, .int .i64 (bs.length : Int)] ∧ Below w.heap.size w wr) (fun _ iv _ => M - (intOf iv).toNat)
  case atStart => exact ⟨0, by omega, rfl, by rw [Nat.zero_mul]; exact World.ownsRow_nil _ _ _ _, H0.out.1, H0.out.2⟩
  case round =>
    obtain ⟨k, hk, rfl, hown, hwh, hbl⟩ := hrel
    obtain ⟨al, cl, rfl⟩ := own_slice hown
    have hsz := hbl.size
    have hlt0 := hwh.lt
    have HR := Lib.hid (And.intro hown (And.intro hwh hbl))
    clear hown hwh hbl
    by_cases hlt : k < M
    · have hy := HB.out.below HR.out.2.2
      have HY := Lib.hid hy
      clear hy
      go_wp2_with (at_builtin; refine wpList_app rfl _ _ rfl (w.heap.size + 1) (k * bs.length) bs.length c _ (repB bs k) bs A rfl rfl HR.out.1 HY.out (by have := HL.out.1 k (by omega); omega) (by omega) ?_)
      intro v' w5 hown5 hgrow
      have hw5 : Whole w5 w.heap.size 23 #[.int .i64 12, .int .i64 1, .int .i64 8, .int .i64 (bs.length : Int)] := HR.out.2.1.kept hgrow (by
        intro e
        have := (own_lt HR.out.1 e.symm).1
        omega)
      have hb5 : Below w.heap.size w w5 := HR.out.2.2.grown hgrow HR.out.2.2.size (fun j e => by
        have := (own_lt HR.out.1 e).1
        omega)
      rw [← Nat.succ_mul] at hown5
      have H5 := Lib.hid (And.intro (show w5.ownsRow (w.heap.size + 1) 5 1 v' ((k + 1) * bs.length) (bvs (repB bs (k + 1))) from hown5) (And.intro hw5 hb5))
      obtain ⟨a5, c5, rfl⟩ := own_slice hown5
      clear hown5 hgrow hw5 hb5
      go_wp2_with fail
      exact ⟨⟨k + 1, by omega, by go_num, H5.out.1, H5.out.2.1, H5.out.2.2⟩, by simp [intOf]; omega⟩
    · obtain rfl : k = M := by omega
      have hrep : ∀ b ∈ repB bs k, b < 256 := by
        have : ∀ q, ∀ b ∈ repB bs q, b < 256 := fun q => by
          induction q with
          | zero => intro b hb; simp [repB] at hb
          | succ q ih =>
            intro b hb
            rcases List.mem_append.1 hb with e | e
            · exact ih b e
            · exact HL.out.2.2.1 b e
        exact this k
      obtain ⟨A2, c2, R2, he2, -, -, hr8⟩ := Row8.of_own HR.out.1 hrep
      injection he2 with e1 e2 e3
      subst e1
      subst e3
      have hby := hr8.bytes
      have k0 := HR.out.2.1.reads 0
      have k1 := HR.out.2.1.reads 1
      have k2 := HR.out.2.1.reads 2
      have k3 := HR.out.2.1.reads 3
      simp only [List.getElem?_toArray, List.getElem?_cons_zero, List.getElem?_cons_succ] at k0 k1 k2 k3
      have HY := Lib.hid hby
      clear hby hr8 hrep
      go_wp2_with fail
      have Q := do_any ⟨12, 1, 8, bs.length⟩ 2 al (k * bs.length) cl (repB bs k) wr HY.out
      rw [HL.out.2.2.2.1] at Q
      refine Q.mono ?_
      clear Q
      rintro e w2 ⟨A2, c2, rfl, hy2, hb2⟩
      have hbr := HR.out.2.2.trans (hb2.mono HR.out.2.2.size)
      have hs2 := hbr.size
      have HZ := Lib.hid (And.intro hy2 (And.intro hbr (HB.out.below hbr)))
      clear hy2 hb2 hbr k0 k1 k2 k3
      go_wp2
      go_loopw [10] (fun iv wq => ∃ i : Nat, i ≤ X.length ∧ iv = .int .i64 (i : Nat) ∧ Below w2.heap.size w2 wq) (fun iv _ => X.length - (intOf iv).toNat)
      case atStart => exact ⟨0, by omega, rfl, by (repeat (first | with_reducible exact Below.refl _ _ | with_reducible refine Below.drew ?_ | with_reducible refine bdrewN ?_ _ | (with_reducible refine Below.setCell ?_ ?_ _; rotate_left; focus (first | exact Nat.le_refl _ | omega | (simp; omega) | (simp; done))) | (with_reducible refine Below.alloc ?_ ?_ _; rotate_left; focus (first | exact Nat.le_refl _ | omega | (simp; omega) | (simp; done))) | (with_reducible refine Below.trans ?_ (Below.mono (by assumption) ?_); rotate_left; focus (first | exact Nat.le_refl _ | omega | (simp; omega) | (simp; done)))))⟩
      case round =>
        obtain ⟨i, hi, rfl, hbi⟩ := hrel
        have HI := Lib.hid hbi
        clear hbi
        by_cases hil : i < X.length
        · have hx := HL.out.2.1 i (by rw [← HL.out.2.2.2.2]; exact hil)
          have hyi := (HZ.out.1.below HI.out)
          have hri := (HZ.out.2.2.below HI.out)
          obtain ⟨R, o, rfl, hR, hc⟩ := hyi.at_ (by show 0 < X.length; omega)
          have gx := hc i _ hx
          obtain ⟨R3, o3, rfl, hR3, hc3⟩ := hri.at_ (by omega)
          have HC := Lib.hid hc3
          obtain ⟨j, hj⟩ : ∃ j, i % (bs.length + 1) = j := ⟨_, rfl⟩
          have hjl : j < bs.length + 1 := by rw [← hj]; exact Nat.mod_lt _ (by omega)
          have hrem : (i : Int) % ((bs.length : Int) + 1) = (j : Int) := by rw [← hj]; push_cast; rfl
          unfold wantM at gx
          rw [hj] at gx
          clear hyi hri hc hc3 hx
          rcases Nat.eq_zero_or_pos j with hj0 | hj0
          · subst hj0
            rw [if_pos rfl] at gx
            clear hj
            go_wp2_with fail
            exact ⟨⟨i + 1, by omega, by go_num, HI.out⟩, by simp [intOf]; omega⟩
          · rw [if_neg (by omega)] at gx
            by_cases hi1 : i < bs.length + 1
            · rw [if_pos hi1] at gx
              have gr := HC.out (j - 1) (bs.getD (j - 1) 0) (by rw [List.getElem?_eq_getElem (by omega), List.getD_eq_getElem?_getD, List.getElem?_eq_getElem (by omega)]; rfl)
              obtain ⟨q, rfl⟩ : ∃ q, j = q + 1 := ⟨j - 1, by omega⟩
              rw [Nat.add_sub_cancel] at gx gr
              clear hj
              go_wp2_with fail
              exact ⟨⟨i + 1, by omega, by go_num, HI.out⟩, by simp [intOf]; omega⟩
            · rw [if_neg hi1] at gx
              clear hj
              go_wp2_with fail
              exact ⟨⟨i + 1, by omega, by go_num, HI.out⟩, by simp [intOf]; omega⟩
        · obtain rfl : i = X.length := by omega
          go_wp2_with fail
          refine (awake_any _).mono ?_
          rintro e w3 ⟨rfl, hb3⟩
          have HB3 := Lib.hid hb3
          clear hb3
          go_wp2
          go_ret
          have e := HI.out
          have e2 := HB3.out
          have e3 := HZ.out.2.1
          exact ⟨rfl, (e3.trans (e.mono e3.size)).trans (e2.mono (by have := e.size; have := e3.size; simp; omega))⟩
end Go.Proofs.Ytjligbfijjejmaa
