/- The reference's Put: the walk. -/
import Derived.Test.YtaophopgmmjbeaaBoolRow
import Derived.Test.YtaophopgmmjbeaaBitsBackM
import Derived.Test.YtaophopgmmjbeaaBitsWrK
namespace Go.Proofs.Ytaophopgmmjbeaa
open Go.RowKit

theorem WD.lt {w : World} {B base M T : Nat} {v : Value} (h : WD w B base v M T) : M < 2 ^ T := by
  obtain ⟨word, held, bs, hs, hh, rfl, rfl, -⟩ := h
  have h1 := num_lt bs hs.byte
  have h2 := hs.low
  rw [Nat.pow_add, Nat.pow_mul, show (2 : Nat) ^ 8 = 256 from rfl]
  have h3 : 256 ^ bs.length * (word + 1) ≤ 256 ^ bs.length * 2 ^ held := Nat.mul_le_mul_left _ h2
  rw [Nat.mul_add] at h3
  omega
theorem bitsV_put {M T V k : Nat} (h : M < 2 ^ T) : bitsV (M + 2 ^ T * V) (T + k) = bitsV M T ++ bitsV V k := by
  unfold bitsV
  rw [List.range_add, List.map_append, List.map_map]
  congr 1
  · apply List.map_congr_left
    intro i hi
    have hi : i < T := List.mem_range.1 hi
    rw [Nat.add_comm, Nat.testBit_two_pow_mul_add _ h, if_pos hi]
  · apply List.map_congr_left
    intro i _
    show Value.bool ((M + 2 ^ T * V).testBit (T + i)) = _
    rw [Nat.add_comm, Nat.testBit_two_pow_mul_add _ h, if_neg (by omega), Nat.add_sub_cancel_left]
theorem bitsV_one (N m : Nat) : ∀ u ∈ bitsV N m, u.oneCell' = true := by
  intro u hu
  obtain ⟨b, _, rfl⟩ := List.mem_map.1 hu
  rfl
theorem tb_div (V i : Nat) : V.testBit i = (V / 2 ^ i % 2 == 1) := by
  rw [Nat.testBit_eq_decide_div_mod_eq]
  by_cases h : V / 2 ^ i % 2 = 1 <;> simp [h]
/-- A row of bits that is written on. -/
def Bits' (base : Nat) (v v' : Value) (N T : Nat) (w w' : World) : Prop :=
  w'.ownsRow base 4 1 v' T (bitsV N T) ∧ Fr (fun k => some k = v.ownBlock) w w' ∧ ∀ g, v'.ownBlock = some g → v.ownBlock = some g ∨ w.heap.size ≤ g
/-- What the reference's Put answers. -/
def XPut (base : Nat) (v : Value) (N T : Nat) (E : Int) (w : World) (e : Ending) (w' : World) : Prop := ∃ v', e = .returned (.tuple #[v', .int .i64 E]) ∧ Bits' base v v' N T w w'
/-- The same, by the number. -/
def PutX (base : Nat) (v : Value) (M T V k : Nat) (w : World) (e : Ending) (w' : World) : Prop := if V < 2 ^ k then XPut base v (M + 2 ^ T * V) (T + k) 0 w e w' else XPut base v M T 1 w e w'
theorem xput_bad (v : Value) (x y : Int) (w : World) (h : y < 0 ∨ 24 < y ∨ x < 0) (hv : ∃ a n c, v = .slice a n c) :
    Calls Try.prog 20 #[v, .int .i64 x, .int .i64 y] w fun e w' => e = .returned (.tuple #[v, .int .i64 1]) ∧ w = w' := by
  obtain ⟨a, n, c, rfl⟩ := hv
  by_cases h1 : y < 0
  · clear h
    go_enter Try.func20, Try.ntmps20
    go_wp2
    go_ret2
    exact ⟨rfl, rfl⟩
  · by_cases h2 : 24 < y
    · clear h
      go_enter Try.func20, Try.ntmps20
      go_wp2
      go_ret2
      exact ⟨rfl, rfl⟩
    · have h3 : x < 0 := by omega
      clear h
      go_enter Try.func20, Try.ntmps20
      go_wp2
      go_ret2
      exact ⟨rfl, rfl⟩
set_option maxRecDepth 100000 in
set_option maxHeartbeats 4000000 in
theorem xput_any (base M T V k : Nat) (v : Value) (w : World) (h : w.ownsRow base 4 1 v T (bitsV M T)) (hM : M < 2 ^ T) (hk : k ≤ 24) (hT : T ≤ 1000000) (hb : base ≤ w.heap.size) (hV63 : V ≤ 9223372036854775807) :
    Calls Try.prog 20 #[v, .int .i64 V, .int .i64 k] w (PutX base v M T V k w) := by
  obtain ⟨i0, hi0, hz0, hz1, hz2⟩ := info_parts infoB
  have H := Lib.hid h
  have HM := Lib.hid hM
  obtain ⟨a0, cc, rfl⟩ := own_slice h
  clear h hM
  go_enter Try.func20, Try.ntmps20
  go_wp2
  go_loopw [1, 8, 9] (fun x p r wr => ∃ i : Nat, i ≤ k ∧ r = .int .i64 i ∧ x = .int .i64 (V / 2 ^ i : Nat) ∧ wr.ownsRow w.heap.size 4 1 p i (bitsV V i) ∧ Below w.heap.size w wr) (fun _ _ r _ => k - (intOf r).toNat)
  case atStart => exact ⟨0, by omega, rfl, by simp, World.ownsRow_nil _ _ _ _, Below.refl _ _⟩
  case round =>
    obtain ⟨i, hi, rfl, rfl, hown, hbw⟩ := hrel
    obtain ⟨a1, c1, rfl⟩ := own_slice hown
    have HI := Lib.hid (And.intro hown hbw)
    have hsz := hbw.size
    clear hown hbw
    by_cases hlt : i < k
    · have hy63 : V / 2 ^ i ≤ 9223372036854775807 := Nat.le_trans (Nat.div_le_self _ _) hV63
      have hq2 : V / 2 ^ i / 2 = V / 2 ^ (i + 1) := by rw [Nat.div_div_eq_div_mul, Nat.pow_succ]
      have HQ := Lib.hid (And.intro hq2 (tb_div V i))
      clear hq2
      generalize V / 2 ^ i = y at *
      go_wp2_with (at_builtin; refine wpList_append_own _ rfl _ _ 28 rfl w.heap.size 4 i0 (.bool false) 1 1 Try.underlying28 hi0 hz0 hz1 hz2 rfl (by decide) _ _ _ rfl (HI.out.1.alloc _) ⟨wr.heap.size, 0, none⟩ 1 1 [.bool ((y : Int) % 2 == 1)] rfl rfl (World.news_of_block (cs := #[.bool ((y : Int) % 2 == 1)]) (t := 4) (fr := (0, 0)) (heap_alloc_new wr _)) (by simp [Value.oneCell']) ?c3 ?c4 ?c5 ?_)
      case c3 => unfold maxLen; omega
      case c4 => omega
      case c5 => simp; omega
      intro v'' w3 hown3 hgrow _
      have hb3 : Below w.heap.size w w3 := HI.out.2.trans (((Below.refl _ _).alloc hsz _).grown hgrow (by simp; omega) (fun k e => (own_lt HI.out.1 e).1))
      have hown4 : w3.ownsRow w.heap.size 4 1 v'' (i + 1) (bitsV V (i + 1)) := by
        rw [bitsV_snoc, HQ.out.2]
        have e : ((y : Int) % 2 == 1) = (y % 2 == 1) := by
          rw [Bool.eq_iff_iff, beq_iff_eq, beq_iff_eq]; omega
        rwa [e] at hown3
      obtain ⟨a5, c5, rfl⟩ := own_slice hown4
      have H3 := Lib.hid (And.intro hown4 hb3)
      clear hown3 hown4 hb3 hgrow
      go_wp2
      go_roundw
      case rel => exact ⟨i + 1, by omega, by go_num, by rw [← HQ.out.1]; rfl, H3.out⟩
      case measure => simp [intOf]; omega
    · obtain rfl : i = k := by omega
      have hlv : decide (0 < ((V / 2 ^ i : Nat) : Int)) = decide (2 ^ i ≤ V) := by
        rw [decide_eq_decide]
        have := Nat.div_pos_iff (a := V) (b := 2 ^ i)
        have hp : 0 < 2 ^ i := Nat.two_pow_pos i
        omega
      by_cases hV : V < 2 ^ i
      · have hz : V / 2 ^ i = 0 := Nat.div_eq_of_lt hV
        have HV := Lib.hid hV
        rw [hz]
        clear hlv hV hz
        have HO := Lib.hid (own_frame H.out (Fr.of_below HI.out.2) (fun g hg => by have := (own_lt H.out hg).2.1; omega))
        have hfin : ∀ (v'' : Value) (w3 : World), w3.ownsRow base 4 1 v'' (T + i) (bitsV M T ++ bitsV V i) → wr.grownBy w3 (Value.slice a0 T cc).ownBlock → (v''.ownBlock = (Value.slice a0 T cc).ownBlock ∨ v''.ownBlock = some wr.heap.size) → Bits' base (Value.slice a0 T cc) v'' (M + 2 ^ T * V) (T + i) w w3 := fun v'' w3 h1 h2 h3 => by
          refine ⟨by rw [bitsV_put HM.out]; exact h1, ?_, fun g hg => ?_⟩
          · exact ((Fr.of_below HI.out.2).more (fun j hj e => absurd hj (by omega))).trans (Fr.of_grown h2) (fun _ _ e => e)
          · rcases h3 with e | e
            · exact .inl (e ▸ hg)
            · rw [e] at hg; injection hg with hg; exact .inr (by omega)
        have HF := Lib.hid hfin
        clear hfin
        rcases HI.out.1.2 with ⟨e1, e2⟩ | ⟨g, cap, cur, e1, -, -, -, -, -, -⟩
        · injection e1 with e1 e3 e4
          subst e1 e2 e4
          go_wp2_with (at_builtin; refine wpList_append_own_none rfl _ _ 28 rfl base 4 i0 1 Try.underlying28 hi0 (.slice a0 T cc) T _ rfl HO.out rfl ?_)
          go_wp2
          go_ret2
          unfold PutX
          rw [if_pos HV.out]
          exact ⟨_, rfl, HF.out _ _ (by simpa [bitsV] using HO.out) (World.grownBy.refl _ _) (.inl rfl)⟩
        · injection e1 with e1 e3 e4
          subst e1 e4
          have HC := Lib.hid (HI.out.1.cells (g := g) rfl)
          go_wp2_with (at_builtin; refine wpList_append_own_at _ rfl _ _ 28 rfl base 4 i0 (.bool false) 1 1 Try.underlying28 hi0 hz0 hz1 hz2 rfl (by decide) _ _ _ rfl HO.out ⟨g, 0, none⟩ i _ (bitsV V i) rfl (by rw [bitsV_length, Nat.mul_one]) HC.out (bitsV_one V i) ?c6 ?c7 ?c8 ?_)
          case c6 => unfold maxLen; omega
          case c7 => omega
          case c8 => omega
          intro v'' w3 hown3 hgrow _ hat
          have HG := Lib.hid (HF.out _ _ hown3 hgrow hat)
          obtain ⟨a5, c5, rfl⟩ := own_slice hown3
          clear hown3 hgrow hat
          go_wp2
          go_ret2
          unfold PutX
          rw [if_pos HV.out]
          exact ⟨_, rfl, HG.out⟩
      · have hy63 : V / 2 ^ i ≤ 9223372036854775807 := Nat.le_trans (Nat.div_le_self _ _) hV63
        have hz : 1 ≤ V / 2 ^ i := (Nat.one_le_div_iff (Nat.two_pow_pos i)).2 (by omega)
        have HV := Lib.hid hV
        clear hlv hV
        generalize V / 2 ^ i = y at *
        go_wp2
        go_ret2
        unfold PutX
        rw [if_neg HV.out]
        refine ⟨_, rfl, own_frame H.out (Fr.of_below HI.out.2) (fun g hg => by have := (own_lt H.out hg).2.1; omega), (Fr.of_below HI.out.2).more (fun j hj e => absurd hj (by omega)), fun g hg => .inl hg⟩
end Go.Proofs.Ytaophopgmmjbeaa
