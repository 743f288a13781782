/- The walk of BitsWrites. -/
import Derived.Test.YtaophopgmmjbeaaBitsRefP
import Derived.Test.YtaophopgmmjbeaaBitsRefC
import Derived.Test.YtaophopgmmjbeaaBitsReadsC
namespace Go.Proofs.Ytaophopgmmjbeaa
open Go.RowKit

/-- What a call puts: the number, how many bits, the error. -/
def nextP (M T : Nat) (x : OpV) : Nat × Nat × Int := if x.ok then (M + 2 ^ T * x.v.toNat, T + x.n.toNat, 0) else (M, T, 1)
theorem nextP_le (M T : Nat) (x : OpV) : (nextP M T x).2.1 ≤ T + 24 := by
  unfold nextP
  split
  · rename_i h
    have := OpV.ok_iff.1 h
    show T + x.n.toNat ≤ T + 24
    omega
  · show T ≤ T + 24
    omega
theorem wput_all {B base M T : Nat} {v : Value} {w : World} (x : OpV) (h : WD w B base v M T) (hT : T ≤ 100000) :
    Calls Try.prog 21 #[.pointer (some ⟨B, 0, none⟩), .int .i64 x.v, .int .i64 x.n] w fun e w' => e = .returned (.int .i64 (nextP M T x).2.2) ∧ Wrote B base v (nextP M T x).1 (nextP M T x).2.1 w w' := by
  unfold nextP
  cases ho : x.ok with
  | true =>
    obtain ⟨h1, h2, h3, h4⟩ := OpV.ok_iff.1 ho
    obtain ⟨k, hk⟩ : ∃ k : Nat, x.n = k := ⟨x.n.toNat, by omega⟩
    obtain ⟨V, hV⟩ : ∃ V : Nat, x.v = V := ⟨x.v.toNat, by omega⟩
    rw [hk, hV, Int.toNat_natCast] at h4
    rw [if_pos rfl, hk, hV, Int.toNat_natCast, Int.toNat_natCast]
    exact put_any _ _ _ _ k V _ _ h (by omega) (Int.ofNat_lt.1 h4) (by omega)
  | false =>
    rw [if_neg (by simp)]
    have hno : ¬ (x.ok = true) := by rw [ho]; simp
    rw [OpV.ok_iff] at hno
    refine (put_bad B x.v x.n w (by omega)).mono ?_
    rintro e w' ⟨rfl, rfl⟩
    exact ⟨rfl, v, h, Fr.refl _ _, fun g hg => .inl hg⟩
theorem xput_all {base M T : Nat} {lv : Value} {w : World} (x : OpV) (h : w.ownsRow base 4 1 lv T (bitsV M T)) (hM : M < 2 ^ T) (hT : T ≤ 100000) (hb : base ≤ w.heap.size) (hx : x.v ≤ 9223372036854775807) :
    Calls Try.prog 20 #[lv, .int .i64 x.v, .int .i64 x.n] w (XPut base lv (nextP M T x).1 (nextP M T x).2.1 (nextP M T x).2.2 w) := by
  obtain ⟨al, cl, rfl⟩ := own_slice h
  by_cases hbad : x.n < 0 ∨ 24 < x.n ∨ x.v < 0
  · have ho : x.ok = false := by
      cases ho : x.ok with
      | false => rfl
      | true => have := OpV.ok_iff.1 ho; omega
    unfold nextP
    rw [if_neg (by rw [ho]; simp)]
    refine (xput_bad (.slice al T cl) x.v x.n w hbad ⟨_, _, _, rfl⟩).mono ?_
    rintro e w' ⟨rfl, rfl⟩
    exact ⟨_, rfl, h, Fr.refl _ _, fun g hg => .inl hg⟩
  · obtain ⟨k, hk⟩ : ∃ k : Nat, x.n = k := ⟨x.n.toNat, by omega⟩
    obtain ⟨V, hV⟩ : ∃ V : Nat, x.v = V := ⟨x.v.toNat, by omega⟩
    rw [hk, hV]
    refine (xput_any base M T V k _ w h hM (by omega) (by omega) hb (by omega)).mono ?_
    intro e w' hp
    unfold PutX at hp
    unfold nextP
    by_cases hlt : V < 2 ^ k
    · rw [if_pos hlt] at hp
      have ho : x.ok = true := OpV.ok_iff.2 ⟨by omega, by omega, by omega, by rw [hk, hV, Int.toNat_natCast]; exact Int.ofNat_lt.2 hlt⟩
      rw [if_pos ho, hk, hV, Int.toNat_natCast, Int.toNat_natCast]
      exact hp
    · rw [if_neg hlt] at hp
      have ho : ¬ (x.ok = true) := fun h => hlt (by
        have h4 := (OpV.ok_iff.1 h).2.2.2
        rw [hk, hV, Int.toNat_natCast] at h4
        exact Int.ofNat_lt.1 h4)
      rw [if_neg ho]
      exact hp
/-- What is known at the head of the loop. -/
structure Wr1 (w wr : World) (M T : Nat) (v lv : Value) : Prop where
  wd : WD wr w.heap.size w.heap.size v M T
  own : wr.ownsRow w.heap.size 4 1 lv T (bitsV M T)
  below : Below w.heap.size w wr
theorem Wr1.below' {w wr w' : World} {M T : Nat} {v lv : Value} (h : Wr1 w wr M T v lv) (hf : Fr (fun _ => False) wr w') : Wr1 w w' M T v lv :=
  ⟨h.wd.frame hf (fun h => h) (fun _ _ h => h), own_frame h.own hf (fun _ _ h => h), h.below.trans (hf.below h.below.size (fun _ _ h => h))⟩
/-- A call of the reference's Put leaves the writer. -/
theorem Wr1.refput {w wr w' : World} {M T M' T' : Nat} {v lv lv' : Value} (h : Wr1 w wr M T v lv) (hb : Bits' w.heap.size lv lv' M' T' wr w') :
    WD w' w.heap.size w.heap.size v M T ∧ w'.ownsRow w.heap.size 4 1 lv' T' (bitsV M' T') ∧ Below w.heap.size w w' := by
  obtain ⟨h1, h2, h3⟩ := hb
  refine ⟨h.wd.frame h2 (fun e => ?_) (fun g hg e => ?_), h1, h.below.trans (h2.below h.below.size (fun j hj e => by have := (own_lt h.own e.symm).1; omega))⟩
  · obtain ⟨_, _, cs, k1⟩ := own_lt h.own e.symm
    obtain ⟨cs2, k2⟩ := h.wd.whole
    exact k1.apart k2 (by decide) rfl
  · obtain ⟨_, _, cs, k1⟩ := own_lt h.own e.symm
    obtain ⟨_, _, cs2, k2⟩ := h.wd.row hg
    exact k1.apart k2 (by decide) rfl
/-- A call of the writer leaves the reference's bits. -/
theorem wrote_bits {w w1 w' : World} {M T M' T' N U : Nat} {v lv : Value} (hwd : WD w1 w.heap.size w.heap.size v M T) (hown : w1.ownsRow w.heap.size 4 1 lv U (bitsV N U)) (hb : Below w.heap.size w w1) (h : Wrote w.heap.size w.heap.size v M' T' w1 w') :
    ∃ v', WD w' w.heap.size w.heap.size v' M' T' ∧ w'.ownsRow w.heap.size 4 1 lv U (bitsV N U) ∧ Below w.heap.size w w' := by
  obtain ⟨v', h1, h2, h3⟩ := h
  refine ⟨v', h1, own_frame hown h2 (fun g hg e => ?_), hb.trans (h2.below hb.size (fun j hj e => ?_))⟩
  · obtain ⟨_, _, cs, k1⟩ := own_lt hown hg
    rcases e with e | e
    · obtain ⟨cs2, k2⟩ := hwd.whole
      exact k1.apart k2 (by decide) e
    · obtain ⟨_, _, cs2, k2⟩ := hwd.row e.symm
      exact k1.apart k2 (by decide) rfl
  · rcases e with e | e
    · omega
    · have := (hwd.row e.symm).1; omega
theorem bls_own {w : World} {base T M : Nat} {lv : Value} (h : w.ownsRow base 4 1 lv T (bitsV M T)) : ∃ A c, lv = .slice A T c ∧ Bls w A T c M := by
  obtain ⟨A, c, rfl, h1, h2, h3⟩ := own_bits h
  refine ⟨A, c, rfl, h1, h2, fun h0 => ?_⟩
  rcases h3 with ⟨_, e, _⟩ | ⟨R, cur, e, _, hw, hc⟩
  · omega
  · exact ⟨R, 0, e, hw.lt, fun i hi => by rw [hw.reads, Nat.zero_add]; exact hc i hi⟩
theorem bytes_digits (bs : List Nat) (hb : ∀ b ∈ bs, b < 256) : bs = (List.range bs.length).map fun j => digit (num bs) j := by
  apply List.ext_getElem
  · simp
  · intro i h1 h2
    simp only [List.getElem_map, List.getElem_range]
    exact (digit_num bs hb i bs[i] (List.getElem?_eq_getElem h1)).symm
theorem Bls.drew {w : World} {A : Option Addr} {n c N : Nat} (h : Bls w A n c N) : Bls w.drew A n c N := ⟨h.cap, h.top, h.at_⟩
/-- Where a row's cells lie, and that there are so many. -/
theorem row_room {w : World} {R n c : Nat} {A : Option Addr} {bs : List Nat} (h : Row8 w R A n c bs) : ∃ o, 0 < n → A = some ⟨R, o, none⟩ ∧ ∃ cur, Whole w R 5 cur ∧ o + n ≤ cur.size := by
  by_cases hn : 0 < n
  · obtain ⟨o, cur, e, hw, hc⟩ := h.rest hn
    have hl := h.len
    refine ⟨o, fun _ => ⟨e, cur, hw, ?_⟩⟩
    have h1 : n - 1 < bs.length := by omega
    have := hc (n - 1) bs[n - 1] (List.getElem?_eq_getElem h1)
    have := (Array.getElem?_eq_some_iff.1 this).1
    omega
  · exact ⟨0, fun h => absurd h hn⟩
theorem ref_str {w : World} {g M T : Nat} {bs : List Nat} (hw : Whole w g 5 (rowB (M % 2 ^ T) ((T + 7) / 8) ((T + 7) / 8))) (hM : M < 2 ^ T) (hb : ∀ b ∈ bs, b < 256) (hn : num bs = M) (hl : bs.length = (T + 7) / 8) (hT : T ≤ 100000) :
    (convert 22 9 (.slice (some ⟨g, 0, none⟩) ((T + 7) / 8) ((T + 7) / 8))).run Try.prog w = .ok (.string (strB bs)) w := by
  rw [Nat.mod_eq_of_lt hM, ← hn, ← hl] at hw
  rw [← hl]
  exact (row_bytes hw hb (by omega)).str
end Go.Proofs.Ytaophopgmmjbeaa
