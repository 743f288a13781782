/- Rows of bits in memory, as the bits of a number; the reference's Own, Of, Number. -/
import Derived.Test.YtpcofdhhnfichaaHDigits
import Derived.Laws.AppendOwnNone
namespace Go.Proofs.Ytpcofdhhnfichaa
open Go.RowKit

theorem infoB : (Try.prog.info? 4).map (fun i => (i.zero, i.size, i.bytes)) = some (some (.bool false), 1, 1) := by kernel_rfl
/-- The first m bits of a number, as values. -/
def bitsV (N m : Nat) : List Value := (List.range m).map fun i => .bool (N.testBit i)
theorem bitsV_length (N m : Nat) : (bitsV N m).length = m := by simp [bitsV]
theorem bitsV_snoc (N m : Nat) : bitsV N (m + 1) = bitsV N m ++ [.bool (N.testBit m)] := by simp [bitsV, List.range_succ]
theorem bitsV_at {N m i : Nat} (h : i < m) : (bitsV N m)[i]? = some (.bool (N.testBit i)) := by simp [bitsV, h]
theorem bit_of (bs : List Nat) (hb : ∀ b ∈ bs, b < 256) {i k b : Nat} (h : bs[i]? = some b) (hk : k < 8) : (num bs).testBit (8 * i + k) = (b / 2 ^ k % 2 == 1) := by
  have hd := digit_num bs hb i b h
  unfold digit at hd
  have e1 : num bs / 2 ^ (8 * i + k) = num bs / 256 ^ i / 2 ^ k := by
    rw [Nat.pow_add, Nat.pow_mul, ← Nat.div_div_eq_div_mul]
  have e2 : num bs / 256 ^ i / 2 ^ k % 2 = b / 2 ^ k % 2 := by
    have h0 : num bs / 256 ^ i = 256 * (num bs / 256 ^ i / 256) + b := by omega
    rw [h0]
    obtain ⟨j, hj⟩ : ∃ j, 8 = k + 1 + j := ⟨7 - k, by omega⟩
    have : 256 = 2 ^ k * (2 * 2 ^ j) := by
      rw [show (256 : Nat) = 2 ^ 8 from rfl, hj, Nat.pow_add, Nat.pow_succ, Nat.mul_assoc]
    rw [this, Nat.mul_assoc, Nat.mul_add_div (Nat.two_pow_pos k), Nat.mul_assoc 2]
    omega
  rw [Nat.testBit_eq_decide_div_mod_eq, e1, e2]
  by_cases h : b / 2 ^ k % 2 = 1 <;> simp [h]
theorem own_bits {w : World} {base : Nat} {v : Value} {N m : Nat} (h : w.ownsRow base 4 1 v m (bitsV N m)) : ∃ A c, v = .slice A m c ∧ m ≤ c ∧ c ≤ 9223372036854775807 ∧
    ((A = none ∧ m = 0 ∧ c = 0) ∨ ∃ R cur, A = some ⟨R, 0, none⟩ ∧ base ≤ R ∧ Whole w R 4 cur ∧ ∀ i, i < m → cur[i]? = some (.bool (N.testBit i))) := by
  obtain ⟨hl, h⟩ := h
  rcases h with ⟨rfl, rfl⟩ | ⟨g, cap, cur, rfl, hg, hw, hnc, hc, hs, ht⟩
  · exact ⟨none, 0, rfl, by omega, by omega, .inl ⟨rfl, rfl, rfl⟩⟩
  · refine ⟨_, cap, rfl, hnc, by unfold maxLen at hc; omega, .inr ⟨g, cur, rfl, hg, hw, fun i hi => ?_⟩⟩
    have e1 := bitsV_at (N := N) hi
    rw [← ht, List.getElem?_take, if_pos (by omega), Array.getElem?_toList] at e1
    exact e1

/-- What Of answers: the bits of bytes, a row of its own. -/
def OfIs (bs : List Nat) (w : World) (e : Ending) (w' : World) : Prop := ∃ v, e = .returned v ∧ w'.ownsRow w.heap.size 4 1 v (8 * bs.length) (bitsV (num bs) (8 * bs.length)) ∧ Below w.heap.size w w'
set_option maxRecDepth 100000 in
set_option maxHeartbeats 4000000 in
theorem of_any (bs : List Nat) (n c : Nat) (A : Option Addr) (w : World) (h : Bytes w A n c bs) (hn : n ≤ 1000000) :
    Calls Try.prog 18 #[.slice A n c] w (OfIs bs w) := by
  obtain ⟨i0, hi0, hz0, hz1, hz2⟩ := info_parts infoB
  have hl := h.len
  subst hl
  have hcap := h.cap
  have H := Lib.hid h
  clear h
  go_enter Try.func18, Try.ntmps18
  go_wp2
  go_loopw [3, 4, 5, 6] (fun x y _ _ wr => ∃ i : Nat, i ≤ bs.length ∧ y = .int .i64 i ∧ wr.ownsRow w.heap.size 4 1 x (8 * i) (bitsV (num bs) (8 * i)) ∧ Below w.heap.size w wr) (fun _ y _ _ _ => bs.length - (intOf y).toNat)
  case atStart => exact ⟨0, by omega, rfl, World.ownsRow_nil _ _ _ _, Below.refl _ _⟩
  case round =>
    obtain ⟨i, hi, rfl, hown, hb⟩ := hrel
    obtain ⟨ax, cx, rfl⟩ := own_slice hown
    have HO := Lib.hid (And.intro hown hb)
    by_cases hlt : i < bs.length
    · obtain ⟨R, o, hA, hR, hcell⟩ := H.out.at_ (by omega)
      obtain ⟨x, hx⟩ : ∃ x, bs[i]? = some x := ⟨bs[i], List.getElem?_eq_getElem hlt⟩
      have hx1 := H.out.byte x (List.mem_of_getElem? hx)
      have hc1 : wr.cell? ⟨R, o + i, none⟩ = some (.int .u8 x) := (hb.cell (p := ⟨R, o + i, none⟩) hR).trans (hcell i x hx)
      have HX := Lib.hid hx
      have HA := Lib.hid hA
      clear hx hcell hA hown hb
      obtain rfl := HA.out
      go_wp2_with fail
      obtain ⟨wo, rfl⟩ : ∃ wo : World, wo = wr := ⟨_, rfl⟩
      go_loopw [3, 5, 6] (fun p q r wr => ∃ k : Nat, k ≤ 8 ∧ r = .int .i64 k ∧ q = .int .i64 (x / 2 ^ k : Nat) ∧ wr.ownsRow w.heap.size 4 1 p (8 * i + k) (bitsV (num bs) (8 * i + k)) ∧ Below w.heap.size w wr) (fun _ _ r _ => 8 - (intOf r).toNat)
      case atStart => exact ⟨0, by omega, rfl, by simp, HO.out⟩
      case round =>
        obtain ⟨k, hk, rfl, rfl, hown, hb⟩ := hrel
        obtain ⟨ax2, cx2, rfl⟩ := own_slice hown
        have HI := Lib.hid (And.intro hown hb)
        have hsz := hb.size
        clear hown hb
        by_cases hk8 : k < 8
        · have hbit := bit_of bs H.out.byte HX.out hk8
          have HBT := Lib.hid hbit
          have hq : x / 2 ^ k < 256 := Nat.lt_of_le_of_lt (Nat.div_le_self _ _) hx1
          have hq2 : x / 2 ^ k / 2 = x / 2 ^ (k + 1) := by rw [Nat.div_div_eq_div_mul, Nat.pow_succ]
          have HQ := Lib.hid hq2
          clear hbit hq2
          generalize x / 2 ^ k = y at *
          go_wp2_with (at_builtin; refine wpList_append_own _ rfl _ _ 39 rfl w.heap.size 4 i0 (.bool false) 1 1 Try.underlying39 hi0 hz0 hz1 hz2 rfl (by decide) _ _ _ rfl (HI.out.1.alloc _) ⟨wr.heap.size, 0, none⟩ 1 1 [.bool ((y : Int) % 2 == 1)] rfl rfl (World.news_of_block (cs := #[.bool ((y : Int) % 2 == 1)]) (t := 4) (fr := (0, 0)) (heap_alloc_new wr _)) (by simp [Value.oneCell']) ?c3 ?c4 ?c5 ?_)
          case c3 => unfold maxLen; omega
          case c4 => omega
          case c5 => simp; omega
          intro v'' w3 hown3 hgrow _
          have hb3 : Below w.heap.size w w3 := HI.out.2.trans (((Below.refl _ _).alloc hsz _).grown hgrow (by simp; omega) (fun k e => (own_lt HI.out.1 e).1))
          have hown4 : w3.ownsRow w.heap.size 4 1 v'' (8 * i + (k + 1)) (bitsV (num bs) (8 * i + (k + 1))) := by
            rw [← Nat.add_assoc, bitsV_snoc, HBT.out]
            have e : ((y : Int) % 2 == 1) = (y % 2 == 1) := by
              rw [Bool.eq_iff_iff, beq_iff_eq, beq_iff_eq]; omega
            rwa [e] at hown3
          obtain ⟨a5, c5, rfl⟩ := own_slice hown4
          have H3 := Lib.hid (And.intro hown4 hb3)
          clear hown3 hown4 hb3 hgrow
          go_wp2
          go_roundw
          case rel => exact ⟨k + 1, by omega, by go_num, by rw [← HQ.out]; rfl, H3.out⟩
          case measure => simp [intOf]; omega
        · obtain rfl : k = 8 := by omega
          go_wp2
          go_roundw
          case rel => exact ⟨i + 1, by omega, by go_num, HI.out⟩
          case measure => simp [intOf]; omega
    · obtain rfl : i = bs.length := by omega
      clear hown hb
      go_wp2
      go_ret
      exact ⟨_, rfl, HO.out⟩
/-- A slice that reads as the bits of a number, nil let in. -/
structure Bls (w : World) (A : Option Addr) (n c N : Nat) : Prop where
  cap : n ≤ c
  top : c ≤ 9223372036854775807
  at_ : 0 < n → ∃ R o, A = some ⟨R, o, none⟩ ∧ R < w.heap.size ∧ ∀ i, i < n → w.cell? ⟨R, o + i, none⟩ = some (.bool (N.testBit i))
theorem num_step (N i m : Nat) (h : i < m) : N / 2 ^ i % 2 ^ (m - i) = 2 * (N / 2 ^ (i + 1) % 2 ^ (m - (i + 1))) + (if N.testBit i then 1 else 0) := by
  obtain ⟨q, hq⟩ : ∃ q, m - i = q + 1 := ⟨m - i - 1, by omega⟩
  rw [hq, show m - (i + 1) = q by omega, Nat.testBit_eq_decide_div_mod_eq]
  have e : N / 2 ^ (i + 1) = N / 2 ^ i / 2 := by rw [Nat.div_div_eq_div_mul, Nat.pow_succ]
  rw [e]
  generalize N / 2 ^ i = x
  rw [Nat.pow_succ, Nat.mul_comm, Nat.mod_mul]
  by_cases h : x % 2 = 1
  · simp [h]; omega
  · simp [h]; omega
set_option maxRecDepth 100000 in
set_option maxHeartbeats 4000000 in
theorem number_any (A : Option Addr) (n c N : Nat) (w : World) (h : Bls w A n c N) (hn : n ≤ 24) :
    Calls Try.prog 40 #[.slice A n c] w fun e w' => e = .returned (.int .i64 (N % 2 ^ n : Nat)) ∧ w' = w := by
  have hcap := h.cap
  have H := Lib.hid h
  clear h
  go_enter Try.func40, Try.ntmps40
  go_wp2
  go_loop [3, 4] (fun x y => ∃ i : Nat, i ≤ n ∧ y = .int .i64 ((i : Int) - 1) ∧ x = .int .i64 (N / 2 ^ i % 2 ^ (n - i) : Nat)) (fun _ y => (intOf y + 1).toNat)
  case atStart => exact ⟨n, Nat.le_refl _, rfl, by rw [Nat.sub_self, Nat.pow_zero, Nat.mod_one]; rfl⟩
  case round =>
    obtain ⟨i, hi, rfl, rfl⟩ := hrel
    by_cases hlt : 0 < i
    · obtain ⟨i, rfl⟩ : ∃ k, i = k + 1 := ⟨i - 1, by omega⟩
      obtain ⟨R, o, hA, hR, hcell⟩ := H.out.at_ (by omega)
      have hc := hcell i (by omega)
      have hst := num_step N i n (by omega)
      have hb : N / 2 ^ (i + 1) % 2 ^ (n - (i + 1)) < 2 ^ 24 := Nat.lt_of_lt_of_le (Nat.mod_lt _ (Nat.two_pow_pos _)) (Nat.pow_le_pow_right (by omega) (by omega))
      have HS := Lib.hid hst
      have HA := Lib.hid hA
      clear hst hA hcell
      obtain rfl := HA.out
      generalize N / 2 ^ (i + 1) % 2 ^ (n - (i + 1)) = z at *
      rw [show ((i + 1 : Nat) : Int) - 1 = i by omega]
      cases hbit : N.testBit i with
      | true =>
        rw [hbit] at hc
        have HB := Lib.hid hbit
        clear hbit
        go_wp2
        go_round
        case rel => exact ⟨i, by omega, rfl, by rw [HS.out, HB.out]; exact congrArg (Value.int .i64) (by simp)⟩
        case measure => simp [intOf]
      | false =>
        rw [hbit] at hc
        have HB := Lib.hid hbit
        clear hbit
        go_wp2
        go_round
        case rel => exact ⟨i, by omega, rfl, by rw [HS.out, HB.out]; exact congrArg (Value.int .i64) (by simp)⟩
        case measure => simp [intOf]
    · obtain rfl : i = 0 := by omega
      go_wp2
      go_ret
      exact ⟨by simp, rfl⟩
end Go.Proofs.Ytpcofdhhnfichaa
