/- The reader's calls and the reference's, at any number: both answer the same. -/
import Derived.Test.YtaophopgmmjbeaaBitsRefC
namespace Go.Proofs.Ytaophopgmmjbeaa
open Go.RowKit

/-- What Bits answers at place p of L bits, and the place behind. -/
def ansB (N L p : Nat) (k : Int) : Int × Int × Nat :=
  if k < 0 ∨ 24 < k then (0, 1, p) else if L < p + k.toNat then (0, 6, p) else ((N / 2 ^ p % 2 ^ k.toNat : Nat), 0, p + k.toNat)
/-- Behind a call of the reader. -/
def RAns (B R N L : Nat) (t : Int × Int × Nat) (w : World) (e : Ending) (w' : World) : Prop :=
  e = .returned (.tuple #[.int .i64 t.1, .int .i64 t.2.1]) ∧ RD w' B R (N / 2 ^ t.2.2) (L - t.2.2) ∧ Fr (fun j => j = B) w w' ∧ t.2.2 ≤ L
theorem rbits_all (B R N L p : Nat) (k : Int) (w : World) (h : RD w B R (N / 2 ^ p) (L - p)) (hp : p ≤ L) :
    Calls Try.prog 11 #[.pointer (some ⟨B, 0, none⟩), .int .i64 k] w (RAns B R N L (ansB N L p k) w) := by
  unfold ansB
  by_cases h1 : k < 0 ∨ 24 < k
  · rw [if_pos h1]
    refine (rbits_bad B k w h1).mono ?_
    rintro e w' ⟨rfl, rfl⟩
    exact ⟨rfl, h, Fr.refl _ _, hp⟩
  · rw [if_neg h1]
    obtain ⟨n, rfl⟩ : ∃ n : Nat, k = n := ⟨k.toNat, by omega⟩
    rw [Int.toNat_natCast]
    by_cases h2 : L < p + n
    · rw [if_pos h2]
      refine (rbits_more B R _ _ n w h (by omega) (by omega)).mono ?_
      rintro e w' ⟨rfl, j, rfl⟩
      exact ⟨rfl, RS.drewN' h j, (Fr.refl _ _).drewN j, hp⟩
    · rw [if_neg h2]
      refine (rbits_any B R _ _ n w h (by omega) (by omega)).mono ?_
      rintro e w' ⟨rfl, hr, hg⟩
      rw [Nat.div_div_eq_div_mul, ← Nat.pow_add, show L - p - n = L - (p + n) by omega] at hr
      exact ⟨rfl, hr, (Fr.of_grown hg).more (fun j _ e => by injection e), (by show p + n ≤ L; omega)⟩
/-- Behind a call of the reference's reader. -/
def XAns (X R N L c : Nat) (A : Option Addr) (t : Int × Int × Nat) (w : World) (e : Ending) (w' : World) : Prop :=
  e = .returned (.tuple #[.int .i64 t.1, .int .i64 t.2.1]) ∧ XR w' X R N L t.2.2 A c ∧ Fr (fun j => j = X) w w'
theorem xbits_all (X R N L p c : Nat) (A : Option Addr) (k : Int) (w : World) (h : XR w X R N L p A c) :
    Calls Try.prog 12 #[.pointer (some ⟨X, 0, none⟩), .int .i64 k] w (XAns X R N L c A (ansB N L p k) w) := by
  unfold ansB
  by_cases h1 : k < 0 ∨ 24 < k
  · rw [if_pos h1]
    refine (xbits_bad X k w h1).mono ?_
    rintro e w' ⟨rfl, rfl⟩
    exact ⟨rfl, h, Fr.refl _ _⟩
  · rw [if_neg h1]
    obtain ⟨n, rfl⟩ : ∃ n : Nat, k = n := ⟨k.toNat, by omega⟩
    rw [Int.toNat_natCast]
    by_cases h2 : L < p + n
    · rw [if_pos h2]
      refine (xbits_more X R N L p c n A w h (by omega) h2).mono ?_
      rintro e w' ⟨rfl, j, rfl⟩
      exact ⟨rfl, h.drewN j, (Fr.refl _ _).drewN j⟩
    · rw [if_neg h2]
      refine (xbits_any X R N L p c n A w h (by omega) (by omega)).mono ?_
      rintro e w' ⟨rfl, hr, hg⟩
      exact ⟨rfl, hr, hg⟩
theorem up8_skip {L p : Nat} (hp : p ≤ L) (hL : L % 8 = 0) : p + (L - p) % 8 = up8 p ∧ up8 p ≤ L := by unfold up8; omega
theorem ralign_all (B R N L p : Nat) (w : World) (h : RD w B R (N / 2 ^ p) (L - p)) (hp : p ≤ L) (hL : L ≤ 10000) (h8 : L % 8 = 0) :
    Calls Try.prog 13 #[.pointer (some ⟨B, 0, none⟩)] w fun e w' => e = .returned (.int .i64 0) ∧ RD w' B R (N / 2 ^ up8 p) (L - up8 p) ∧ Fr (fun j => j = B) w w' := by
  refine (ralign_any B R _ _ w h (by omega)).mono ?_
  rintro e w' ⟨rfl, hr, hg⟩
  have hu := up8_skip hp h8
  rw [Nat.div_div_eq_div_mul, ← Nat.pow_add, hu.1, show L - p - (L - p) % 8 = L - up8 p by omega] at hr
  exact ⟨rfl, hr, (Fr.of_grown hg).more (fun j _ e => by injection e)⟩
/-- What Bytes answers at place p of L bits: how many bytes, the error, the place behind. -/
def ansY (L p : Nat) (k : Int) : Nat × Int × Nat :=
  if k < 0 then (0, 1, p) else if L < up8 p + 8 * k.toNat then (0, 6, up8 p) else (k.toNat, 0, up8 p + 8 * k.toNat)
/-- The bytes that Bytes answers. -/
def bytesY (N p n : Nat) : List Nat := (List.range n).map fun j => digit (N / 2 ^ up8 p) j
theorem bytesY_lt (N p n : Nat) : ∀ b ∈ bytesY N p n, b < 256 := by
  intro b hb
  obtain ⟨j, _, rfl⟩ := List.mem_map.1 hb
  exact digit_lt _ _
theorem digit_mod (M n j : Nat) (h : j < n) : digit (M % 2 ^ (8 * n)) j = digit M j := by
  unfold digit
  rw [Nat.pow_mul]
  obtain ⟨d, rfl⟩ : ∃ d, n = j + (1 + d) := ⟨n - j - 1, by omega⟩
  rw [show (2 : Nat) ^ 8 = 256 from rfl, Nat.pow_add, Nat.mod_mul_right_div_self, Nat.pow_add, Nat.pow_one, Nat.mod_mul_right_mod]
theorem rowB_mod (M n : Nat) : rowB (M % 2 ^ (8 * n)) n n = rowB M n n := by
  unfold rowB
  congr 1
  apply List.map_congr_left
  intro j hj
  have h : j < n := List.mem_range.1 hj
  rw [if_pos h, if_pos h, digit_mod M n j h]
theorem row_bytesY {w : World} {g N p n : Nat} (hw : Whole w g 5 (rowB (N / 2 ^ up8 p) n n)) (hn : n ≤ 1000000) : Bytes w (some ⟨g, 0, none⟩) n n (bytesY N p n) :=
  ⟨by simp [bytesY], Nat.le_refl _, by omega, bytesY_lt _ _ _, fun _ => ⟨g, 0, rfl, hw.lt, fun i b h => by
    have hi : i < n := by have := (List.getElem?_eq_some_iff.1 h).1; simpa [bytesY] using this
    simp [bytesY, hi] at h
    rw [hw.reads, rowB_at _ _ _ _ (by omega), if_pos (by omega), Nat.zero_add, h]⟩⟩
/-- The bytes of a call's answer: none, or a new row. -/
def NewY (w0 w : World) (A : Option Addr) (n c : Nat) : Prop := n = 0 ∨ ∃ g cs, A = some ⟨g, 0, none⟩ ∧ n = c ∧ w0.heap.size ≤ g ∧ Whole w g 5 cs ∧ cs.size = n
def RYns (B R N L p : Nat) (t : Nat × Int × Nat) (w : World) (e : Ending) (w' : World) : Prop :=
  ∃ A c, e = .returned (.tuple #[.slice A t.1 c, .int .i64 t.2.1]) ∧ Bytes w' A t.1 c (bytesY N p t.1) ∧ NewY w w' A t.1 c ∧ RD w' B R (N / 2 ^ t.2.2) (L - t.2.2) ∧ Fr (fun j => j = B) w w' ∧ t.2.2 ≤ L
theorem no_bytes (w : World) (N p : Nat) : Bytes w none 0 0 (bytesY N p 0) := ⟨rfl, by omega, by omega, bytesY_lt _ _ _, fun h => absurd h (by omega)⟩
theorem rbytes_bad (B : Nat) (k : Int) (w : World) (hk : k < 0) :
    Calls Try.prog 15 #[.pointer (some ⟨B, 0, none⟩), .int .i64 k] w fun e w' => e = .returned (.tuple #[.slice none 0 0, .int .i64 1]) ∧ w = w' := by
  go_enter Try.func15, Try.ntmps15
  go_wp2
  go_ret2
  exact ⟨rfl, rfl⟩
/-- Behind a call that finds too few bytes. -/
def RFew (B R N L : Nat) (w : World) (e : Ending) (w' : World) : Prop := e = .returned (.tuple #[.slice none 0 0, .int .i64 6]) ∧ RD w' B R (N / 2 ^ (L % 8)) (L - L % 8) ∧ w.grownBy w' (some B)
theorem rbytes_more (B R N L n : Nat) (w : World) (h : RD w B R N L) (hL : L / 8 < n) (hL2 : L ≤ 1000000000) :
    Calls Try.prog 15 #[.pointer (some ⟨B, 0, none⟩), .int .i64 n] w (RFew B R N L w) := by
  have H := Lib.hid h
  clear h
  go_enter Try.func15, Try.ntmps15
  go_wp2_with fail
  refine (align_any B R N L _ H.out (by omega)).mono ?_
  rintro e w1 ⟨rfl, hr, hg⟩
  have HR := Lib.hid (And.intro hr hg)
  clear hr hg
  go_wp2_with fail
  refine (takeBytes_more B R _ _ n _ HR.out.1 (by omega) (by omega)).mono ?_
  rintro e w2 ⟨rfl, j, rfl⟩
  go_wp2
  go_ret2
  exact ⟨rfl, RS.drewN' HR.out.1 j, only_drewN HR.out.2 j⟩
theorem rbytes_all (B R N L p : Nat) (k : Int) (w : World) (h : RD w B R (N / 2 ^ p) (L - p)) (hp : p ≤ L) (hL : L ≤ 10000) (h8 : L % 8 = 0) (hR : R < w.heap.size) :
    Calls Try.prog 15 #[.pointer (some ⟨B, 0, none⟩), .int .i64 k] w (RYns B R N L p (ansY L p k) w) := by
  have hu := up8_skip hp h8
  unfold ansY
  by_cases h1 : k < 0
  · rw [if_pos h1]
    refine (rbytes_bad B k w h1).mono ?_
    rintro e w' ⟨rfl, rfl⟩
    exact ⟨none, 0, rfl, no_bytes _ _ _, .inl rfl, h, Fr.refl _ _, hp⟩
  · rw [if_neg h1]
    obtain ⟨n, rfl⟩ : ∃ n : Nat, k = n := ⟨k.toNat, by omega⟩
    rw [Int.toNat_natCast]
    by_cases h2 : L < up8 p + 8 * n
    · rw [if_pos h2]
      refine (rbytes_more B R _ _ n w h (by omega) (by omega)).mono ?_
      rintro e w' ⟨rfl, hr, hg⟩
      rw [Nat.div_div_eq_div_mul, ← Nat.pow_add, hu.1, show L - p - (L - p) % 8 = L - up8 p by omega] at hr
      exact ⟨none, 0, rfl, no_bytes _ _ _, .inl rfl, hr, (Fr.of_grown hg).more (fun j _ e => by injection e), hu.2⟩
    · rw [if_neg h2]
      refine (rbytes_any B R _ _ n w h hR (by omega) (by omega)).mono ?_
      rintro e w' ⟨g, rfl, hg1, hw, hr, hg⟩
      have e1 : N / 2 ^ p / 2 ^ ((L - p) % 8) = N / 2 ^ up8 p := by rw [Nat.div_div_eq_div_mul, ← Nat.pow_add, hu.1]
      rw [e1] at hw hr
      rw [Nat.div_div_eq_div_mul, ← Nat.pow_add, show L - p - (L - p) % 8 - 8 * n = L - (up8 p + 8 * n) by omega] at hr
      exact ⟨_, _, rfl, row_bytesY hw (by omega), .inr ⟨g, _, rfl, rfl, hg1, hw, rowB_size _ _ _⟩, hr, (Fr.of_grown hg).more (fun j _ e => by injection e), (by show up8 p + 8 * n ≤ L; omega)⟩
def XYns (X R N L p c : Nat) (A : Option Addr) (t : Nat × Int × Nat) (w : World) (e : Ending) (w' : World) : Prop :=
  ∃ A' c', e = .returned (.tuple #[.slice A' t.1 c', .int .i64 t.2.1]) ∧ Bytes w' A' t.1 c' (bytesY N p t.1) ∧ XR w' X R N L t.2.2 A c ∧ Fr (fun j => j = X) w w'
theorem xbytes_all (X R N L p c : Nat) (A : Option Addr) (k : Int) (w : World) (h : XR w X R N L p A c) (hL : L ≤ 10000) (h8 : L % 8 = 0) (hR : R < w.heap.size) (hX : X < w.heap.size) :
    Calls Try.prog 16 #[.pointer (some ⟨X, 0, none⟩), .int .i64 k] w (XYns X R N L p c A (ansY L p k) w) := by
  unfold ansY
  by_cases h1 : k < 0
  · rw [if_pos h1]
    refine (xbytes_bad X k w h1).mono ?_
    rintro e w' ⟨rfl, rfl⟩
    exact ⟨none, 0, rfl, no_bytes _ _ _, h, Fr.refl _ _⟩
  · rw [if_neg h1]
    obtain ⟨n, rfl⟩ : ∃ n : Nat, k = n := ⟨k.toNat, by omega⟩
    rw [Int.toNat_natCast]
    by_cases h2 : L < up8 p + 8 * n
    · rw [if_pos h2]
      refine (xbytes_more X R N L p c n A w h h8 h2).mono ?_
      rintro e w' ⟨rfl, hr, hg⟩
      exact ⟨none, 0, rfl, no_bytes _ _ _, hr, hg⟩
    · rw [if_neg h2]
      refine (xbytes_any X R N L p c n A w h h8 hL (by omega) hR hX).mono ?_
      rintro e w' ⟨g, rfl, hg1, hw, hr, hg⟩
      rw [rowB_mod] at hw
      exact ⟨_, _, rfl, row_bytesY hw (by omega), hr, hg⟩
end Go.Proofs.Ytaophopgmmjbeaa
