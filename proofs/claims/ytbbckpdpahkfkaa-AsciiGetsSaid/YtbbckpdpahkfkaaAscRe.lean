/- ascii's reference: rows of ints; number, four. -/
import Derived.Test.YtbbckpdpahkfkaaAscRd
import Derived.Laws.AppendOwnNone
namespace Go.Proofs.Ytbbckpdpahkfkaa
open Go.RowKit

theorem infoInt : (Try.prog.info? 3).map (fun i => (i.zero, i.size, i.bytes)) = some (some (.int .i64 0), 1, 8) := by kernel_rfl
structure IntsAt (w : World) (A : Option Addr) (n c : Nat) (l : List Int) : Prop where
  len : l.length = n
  cap : n ≤ c
  top : c ≤ 9223372036854775807
  at_ : 0 < n → ∃ R o, A = some ⟨R, o, none⟩ ∧ R < w.heap.size ∧ ∀ (i : Nat) (x : Int), l[i]? = some x → w.cell? ⟨R, o + i, none⟩ = some (.int .i64 x)
theorem IntsAt.below {w w' : World} {A : Option Addr} {n c : Nat} {l : List Int} (h : IntsAt w A n c l) (hg : Below w.heap.size w w') : IntsAt w' A n c l :=
  ⟨h.len, h.cap, h.top, fun hn => by
    obtain ⟨R, o, e, hR, hc⟩ := h.at_ hn
    exact ⟨R, o, e, Nat.lt_of_lt_of_le hR hg.size, fun i x hx => (hg.cell (p := ⟨R, o + i, none⟩) hR).trans (hc i x hx)⟩⟩
def iiv (l : List Int) : List Value := l.map fun b : Int => Value.int .i64 b
theorem iiv_append (l l' : List Int) : iiv (l ++ l') = iiv l ++ iiv l' := by simp [iiv]
theorem iiv_length (l : List Int) : (iiv l).length = l.length := by simp [iiv]
theorem IntsAt.of_own {w : World} {base : Nat} {v : Value} {n : Nat} {l : List Int} (h : w.ownsRow base 3 1 v n (iiv l)) : ∃ A c, v = .slice A n c ∧ IntsAt w A n c l := by
  obtain ⟨hl, h⟩ := h
  have hl : l.length = n := by simpa [iiv] using hl
  rcases h with ⟨rfl, rfl⟩ | ⟨g, cap, cur, rfl, hg, hw, hnc, hc, hs, ht⟩
  · exact ⟨none, 0, rfl, hl, by omega, by omega, fun h => absurd h (by omega)⟩
  · have hlt : g < w.heap.size := Whole.lt (T := 3) hw
    refine ⟨_, cap, rfl, hl, hnc, by unfold maxLen at hc; omega, fun hn => ⟨g, 0, rfl, hlt, fun i b hi => ?_⟩⟩
    have hil : i < n := by
      have := (List.getElem?_eq_some_iff.1 hi).1
      omega
    have e1 : (iiv l)[i]? = some (.int .i64 b) := by simp [iiv, hi]
    rw [← ht, List.getElem?_take, if_pos (by omega)] at e1
    have hw' : Whole w g 3 cur := hw
    rw [hw'.reads, Nat.zero_add, ← e1, Array.getElem?_toList]
theorem IntsAt.of_whole {w : World} {g : Nat} {l : List Int} (h : Whole w g 3 (iiv l).toArray) (hn : l.length ≤ 9223372036854775807) : IntsAt w (some ⟨g, 0, none⟩) l.length l.length l :=
  ⟨rfl, Nat.le_refl _, hn, fun _ => ⟨g, 0, rfl, h.lt, fun i x hx => by rw [h.reads, Nat.zero_add]; simp [iiv, hx]⟩⟩
theorem own_snoc {w : World} {base n : Nat} {v : Value} {l : List Int} {x : Int} (h : w.ownsRow base 3 1 v n (iiv l ++ [.int .i64 x])) (hn : n = l.length + 1) : w.ownsRow base 3 1 v (l ++ [x]).length (iiv (l ++ [x])) := by
  subst hn
  rw [iiv_append, List.length_append]
  exact h
/-- The ints that natural numbers are. -/
def natI (l : List Nat) : List Int := l.map fun x : Nat => (x : Int)
set_option maxRecDepth 100000 in
set_option maxHeartbeats 2000000 in
theorem number_ref (A : Option Addr) (c : Nat) (l : List Nat) (w : World) (h : IntsAt w A 5 c (natI l)) (hd : ∀ x ∈ l, x < 85) :
    Calls Try.prog 30 #[.slice A 5 c] w fun e w' => e = .returned (.int .i64 (num5 l 0 : Nat)) ∧ w = w' := by
  have hl : l.length = 5 := by have := h.len; simpa [natI] using this
  obtain ⟨R, q, rfl, hR, hcell⟩ := h.at_ (by omega)
  have HC := Lib.hid (And.intro hcell hd)
  clear hcell hd h
  go_enter Try.func30, Try.ntmps30
  go_wp2
  go_loopw [3, 4] (fun s3 s4 wr => ∃ i : Nat, i ≤ 5 ∧ s3 = .int .i64 (num5 (l.take i) 0 : Nat) ∧ s4 = .int .i64 i ∧ wr = w) (fun _ s4 _ => 5 - (intOf s4).toNat)
  case atStart => exact ⟨0, by omega, rfl, rfl, rfl⟩
  case round =>
    obtain ⟨i, hi, rfl, rfl, rfl⟩ := hrel
    by_cases hlt : i < 5
    · obtain ⟨x, hx⟩ : ∃ x, l[i]? = some x := ⟨_, List.getElem?_eq_getElem (show i < l.length by omega)⟩
      have hc := HC.out.1 i x (by simp [natI, hx])
      have hx9 := HC.out.2 x (List.mem_of_getElem? hx)
      obtain ⟨N, hN⟩ : ∃ N, num5 (l.take i) 0 = N := ⟨_, rfl⟩
      have hs : num5 (l.take (i + 1)) 0 = 85 * N + x := by
        rw [List.take_add_one, hx, ← hN, ← num5_snoc]; rfl
      have hN9 : N < 85 ^ 5 := by
        have h1 := num5_lt (l.take i) (fun d hd => HC.out.2 d (List.mem_of_mem_take hd)) 0
        have h2 : 85 ^ (l.take i).length ≤ 85 ^ 5 := Nat.pow_le_pow_right (by omega) (by rw [List.length_take]; omega)
        omega
      rw [hN]
      have HS := Lib.hid (And.intro hs hN)
      clear hs hN hx
      go_wp2
      go_roundw
      case rel => exact ⟨i + 1, by omega, by rw [HS.out.1]; go_num, by go_num, by trivial⟩
      case measure => simp [intOf]; omega
    · obtain rfl : i = 5 := by omega
      rw [List.take_of_length_le (by omega)]
      go_wp2
      go_ret
      exact ⟨rfl, rfl⟩
set_option maxRecDepth 100000 in
set_option maxHeartbeats 2000000 in
theorem four_ref (N k : Nat) (w : World) (hN : N < 4294967296) (hk : k ≤ 4) :
    Calls Try.prog 31 #[.int .i64 (N : Int), .int .i64 (k : Int)] w fun e w' => ∃ A c, e = .returned (.slice A k c) ∧ Bytes w' A k c ((fourB N).take k) ∧ Below w.heap.size w w' := by
  go_enter Try.func31, Try.ntmps31
  go_wp2
  go_ret
  have hby : ∀ x ∈ fourB N, x < 256 := fun x hx => by
    simp only [fourB, List.mem_cons, List.not_mem_nil, or_false] at hx
    omega
  have hb := bytes_lit w (fourB N) hby (by simp [fourB])
  have he : (bvs (fourB N)).toArray = #[Value.int .u8 ((N : Int) / 16777216 % 256), .int .u8 ((N : Int) / 65536 % 256), .int .u8 ((N : Int) / 256 % 256), .int .u8 ((N : Int) % 256)] := by
    simp [bvs, fourB]
  rw [he] at hb
  refine ⟨_, _, rfl, ⟨by simp [fourB]; omega, by omega, by omega, fun x hx => hby x (List.mem_of_mem_take hx), fun _ => ?_⟩, (Below.refl _ _).alloc (Nat.le_refl _) _⟩
  obtain ⟨R, o, e, hR, hc⟩ := hb.at_ (by simp [fourB])
  refine ⟨R, o, e, hR, fun i b hi => hc i b ?_⟩
  rw [List.getElem?_take] at hi
  split at hi
  · exact hi
  · cases hi
end Go.Proofs.Ytbbckpdpahkfkaa
