/- A writer and a row of bits beside it. -/
import Derived.Test.YtpcofdhhnfichaaHBitsWrK
import Derived.Test.YtpcofdhhnfichaaHBitsRefC
namespace Go.Proofs.Ytpcofdhhnfichaa
open Go.RowKit

theorem WD.lt {w : World} {B base M T : Nat} {v : Value} (h : WD w B base v M T) : M < 2 ^ T := by
  obtain ⟨word, held, bs, hs, hh, rfl, rfl, -⟩ := h
  have h1 := num_lt bs hs.byte
  have h2 := hs.low
  rw [Nat.pow_add, Nat.pow_mul, show (2 : Nat) ^ 8 = 256 from rfl]
  have h3 : 256 ^ bs.length * (word + 1) ≤ 256 ^ bs.length * 2 ^ held := Nat.mul_le_mul_left _ h2
  rw [Nat.mul_add] at h3
  omega
theorem bitsV_put {M T V k : Nat} (h : M < 2 ^ T) : bitsV (M + 2 ^ T * V) (T + k) = bitsV M T ++ bitsV V k := by
  unfold bitsV
  rw [List.range_add, List.map_append, List.map_map]
  congr 1
  · apply List.map_congr_left
    intro i hi
    have hi : i < T := List.mem_range.1 hi
    rw [Nat.add_comm, Nat.testBit_two_pow_mul_add _ h, if_pos hi]
  · apply List.map_congr_left
    intro i _
    show Value.bool ((M + 2 ^ T * V).testBit (T + i)) = _
    rw [Nat.add_comm, Nat.testBit_two_pow_mul_add _ h, if_neg (by omega), Nat.add_sub_cancel_left]
theorem bitsV_one (N m : Nat) : ∀ u ∈ bitsV N m, u.oneCell' = true := by
  intro u hu
  obtain ⟨b, _, rfl⟩ := List.mem_map.1 hu
  rfl
theorem tb_div (V i : Nat) : V.testBit i = (V / 2 ^ i % 2 == 1) := by
  rw [Nat.testBit_eq_decide_div_mod_eq]
  by_cases h : V / 2 ^ i % 2 = 1 <;> simp [h]
/-- What is known at the head of the loop. -/
structure Wr1 (w wr : World) (M T : Nat) (v lv : Value) : Prop where
  wd : WD wr w.heap.size w.heap.size v M T
  own : wr.ownsRow w.heap.size 4 1 lv T (bitsV M T)
  below : Below w.heap.size w wr
theorem Wr1.below' {w wr w' : World} {M T : Nat} {v lv : Value} (h : Wr1 w wr M T v lv) (hf : Fr (fun _ => False) wr w') : Wr1 w w' M T v lv :=
  ⟨h.wd.frame hf (fun h => h) (fun _ _ h => h), own_frame h.own hf (fun _ _ h => h), h.below.trans (hf.below h.below.size (fun _ _ h => h))⟩
/-- A call of the writer leaves the reference's bits. -/
theorem wrote_bits {w w1 w' : World} {M T M' T' N U : Nat} {v lv : Value} (hwd : WD w1 w.heap.size w.heap.size v M T) (hown : w1.ownsRow w.heap.size 4 1 lv U (bitsV N U)) (hb : Below w.heap.size w w1) (h : Wrote w.heap.size w.heap.size v M' T' w1 w') :
    ∃ v', WD w' w.heap.size w.heap.size v' M' T' ∧ w'.ownsRow w.heap.size 4 1 lv U (bitsV N U) ∧ Below w.heap.size w w' := by
  obtain ⟨v', h1, h2, h3⟩ := h
  refine ⟨v', h1, own_frame hown h2 (fun g hg e => ?_), hb.trans (h2.below hb.size (fun j hj e => ?_))⟩
  · obtain ⟨_, _, cs, k1⟩ := own_lt hown hg
    rcases e with e | e
    · obtain ⟨cs2, k2⟩ := hwd.whole
      exact k1.apart k2 (by decide) e
    · obtain ⟨_, _, cs2, k2⟩ := hwd.row e.symm
      exact k1.apart k2 (by decide) rfl
  · rcases e with e | e
    · omega
    · have := (hwd.row e.symm).1; omega
theorem bls_own {w : World} {base T M : Nat} {lv : Value} (h : w.ownsRow base 4 1 lv T (bitsV M T)) : ∃ A c, lv = .slice A T c ∧ Bls w A T c M := by
  obtain ⟨A, c, rfl, h1, h2, h3⟩ := own_bits h
  refine ⟨A, c, rfl, h1, h2, fun h0 => ?_⟩
  rcases h3 with ⟨_, e, _⟩ | ⟨R, cur, e, _, hw, hc⟩
  · omega
  · exact ⟨R, 0, e, hw.lt, fun i hi => by rw [hw.reads, Nat.zero_add]; exact hc i hi⟩
theorem bytes_digits (bs : List Nat) (hb : ∀ b ∈ bs, b < 256) : bs = (List.range bs.length).map fun j => digit (num bs) j := by
  apply List.ext_getElem
  · simp
  · intro i h1 h2
    simp only [List.getElem_map, List.getElem_range]
    exact (digit_num bs hb i bs[i] (List.getElem?_eq_getElem h1)).symm
theorem Bls.drew {w : World} {A : Option Addr} {n c N : Nat} (h : Bls w A n c N) : Bls w.drew A n c N := ⟨h.cap, h.top, h.at_⟩
/-- Where a row's cells lie, and that there are so many. -/
theorem row_room {w : World} {R n c : Nat} {A : Option Addr} {bs : List Nat} (h : Row8 w R A n c bs) : ∃ o, 0 < n → A = some ⟨R, o, none⟩ ∧ ∃ cur, Whole w R 5 cur ∧ o + n ≤ cur.size := by
  by_cases hn : 0 < n
  · obtain ⟨o, cur, e, hw, hc⟩ := h.rest hn
    have hl := h.len
    refine ⟨o, fun _ => ⟨e, cur, hw, ?_⟩⟩
    have h1 : n - 1 < bs.length := by omega
    have := hc (n - 1) bs[n - 1] (List.getElem?_eq_getElem h1)
    have := (Array.getElem?_eq_some_iff.1 this).1
    omega
  · exact ⟨0, fun h => absurd h hn⟩
theorem ref_str {w : World} {g M T : Nat} {bs : List Nat} (hw : Whole w g 5 (rowB (M % 2 ^ T) ((T + 7) / 8) ((T + 7) / 8))) (hM : M < 2 ^ T) (hb : ∀ b ∈ bs, b < 256) (hn : num bs = M) (hl : bs.length = (T + 7) / 8) (hT : T ≤ 100000) :
    (convert 35 9 (.slice (some ⟨g, 0, none⟩) ((T + 7) / 8) ((T + 7) / 8))).run Try.prog w = .ok (.string (strB bs)) w := by
  rw [Nat.mod_eq_of_lt hM, ← hn, ← hl] at hw
  rw [← hl]
  exact (row_bytes hw hb (by omega)).str
end Go.Proofs.Ytpcofdhhnfichaa
