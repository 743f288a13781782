/- huff: rows of ints of the program's own: made one by one, copied, compared; the lengths of the fixed codes. -/
import Derived.Test.YtnjdnldoopgcpaaHuffPut
import Derived.Laws.AppendOwnNone
import Derived.BigQuiet
import Derived.Deep.QuietTactic
namespace Go.Proofs.Ytnjdnldoopgcpaa
open Go.RowKit

def iiv (l : List Int) : List Value := l.map fun b : Int => Value.int .i64 b
theorem iiv_append (l l' : List Int) : iiv (l ++ l') = iiv l ++ iiv l' := by simp [iiv]
theorem iiv_length (l : List Int) : (iiv l).length = l.length := by simp [iiv]
theorem IntsAt.of_own {w : World} {base : Nat} {v : Value} {n : Nat} {l : List Int} (h : w.ownsRow base 3 1 v n (iiv l)) : ∃ A c, v = .slice A n c ∧ IntsAt w A n c l := by
  obtain ⟨hl, h⟩ := h
  have hl : l.length = n := by simpa [iiv] using hl
  rcases h with ⟨rfl, rfl⟩ | ⟨g, cap, cur, rfl, hg, hw, hnc, hc, hs, ht⟩
  · exact ⟨none, 0, rfl, hl, by omega, by omega, fun h => absurd h (by omega)⟩
  · have hlt : g < w.heap.size := Whole.lt (T := 3) hw
    refine ⟨_, cap, rfl, hl, hnc, by unfold maxLen at hc; omega, fun hn => ⟨g, 0, rfl, hlt, fun i b hi => ?_⟩⟩
    have hil : i < n := by
      have := (List.getElem?_eq_some_iff.1 hi).1
      omega
    have e1 : (iiv l)[i]? = some (.int .i64 b) := by simp [iiv, hi]
    rw [← ht, List.getElem?_take, if_pos (by omega)] at e1
    have hw' : Whole w g 3 cur := hw
    rw [hw'.reads, Nat.zero_add, ← e1, Array.getElem?_toList]
theorem IntsAt.of_whole {w : World} {g : Nat} {l : List Int} (h : Whole w g 3 (iiv l).toArray) (hn : l.length ≤ 9223372036854775807) : IntsAt w (some ⟨g, 0, none⟩) l.length l.length l :=
  ⟨rfl, Nat.le_refl _, hn, fun _ => ⟨g, 0, rfl, h.lt, fun i x hx => by rw [h.reads, Nat.zero_add]; simp [iiv, hx]⟩⟩
theorem own_snoc {w : World} {base n : Nat} {v : Value} {l : List Int} {x : Int} (h : w.ownsRow base 3 1 v n (iiv l ++ [.int .i64 x])) (hn : n = l.length + 1) : w.ownsRow base 3 1 v (l ++ [x]).length (iiv (l ++ [x])) := by
  subst hn
  rw [iiv_append, List.length_append]
  exact h
/-- The answer is a row of the call's own with just these ints. -/
def IntsAns (l : List Int) (w : World) (e : Ending) (w' : World) : Prop :=
  ∃ v, e = .returned v ∧ w'.ownsRow w.heap.size 3 1 v l.length (iiv l) ∧ Below w.heap.size w w'

/-- The fixed codes' lengths, group by group. -/
def fsym (k : Nat) : Nat := ([144, 112, 24, 8] : List Nat).getD k 0
def flen (k : Nat) : Int := ([8, 9, 7, 8] : List Int).getD k 0
def fixedTo : Nat → List Int
  | 0 => []
  | k + 1 => fixedTo k ++ List.replicate (fsym k) (flen k)
def fixedL : List Int := (List.range 288).map fun i => if 143 < i ∧ i < 256 then 9 else if 255 < i ∧ i < 280 then 7 else 8
theorem fixedTo_all : fixedTo 4 = fixedL := by decide +kernel
theorem fixedTo_len (k : Nat) (hk : k ≤ 4) : (fixedTo k).length + fsym k ≤ 288 := by
  rcases (by omega : k = 0 ∨ k = 1 ∨ k = 2 ∨ k = 3 ∨ k = 4) with rfl | rfl | rfl | rfl | rfl <;> decide +kernel
theorem fixedL_len : fixedL.length = 288 := by decide +kernel
theorem fixedL_take (i : Nat) (h : i < 288) : fixedL.take (i + 1) = fixedL.take i ++ [if 143 < i ∧ i < 256 then 9 else if 255 < i ∧ i < 280 then 7 else 8] := by
  rw [List.take_succ_eq_append_getElem (by rw [fixedL_len]; exact h)]
  simp [fixedL]
theorem rep_succ (l : List Int) (j : Nat) (x : Int) : l ++ List.replicate (j + 1) x = (l ++ List.replicate j x) ++ [x] := by
  rw [List.replicate_succ', List.append_assoc]
theorem fixed_at (w : World) :
    (Instr.index 109 (.agg #[.int .i64 144, .int .i64 8, .int .i64 112, .int .i64 9, .int .i64 24, .int .i64 7, .int .i64 8, .int .i64 8]) (.int .i64 0)).run Try.prog w = .ok (.agg #[.int .i64 144, .int .i64 8]) w ∧
    (Instr.index 109 (.agg #[.int .i64 144, .int .i64 8, .int .i64 112, .int .i64 9, .int .i64 24, .int .i64 7, .int .i64 8, .int .i64 8]) (.int .i64 1)).run Try.prog w = .ok (.agg #[.int .i64 112, .int .i64 9]) w ∧
    (Instr.index 109 (.agg #[.int .i64 144, .int .i64 8, .int .i64 112, .int .i64 9, .int .i64 24, .int .i64 7, .int .i64 8, .int .i64 8]) (.int .i64 2)).run Try.prog w = .ok (.agg #[.int .i64 24, .int .i64 7]) w ∧
    (Instr.index 109 (.agg #[.int .i64 144, .int .i64 8, .int .i64 112, .int .i64 9, .int .i64 24, .int .i64 7, .int .i64 8, .int .i64 8]) (.int .i64 3)).run Try.prog w = .ok (.agg #[.int .i64 8, .int .i64 8]) w := ⟨by kernel_rfl, by kernel_rfl, by kernel_rfl, by kernel_rfl⟩
set_option maxRecDepth 100000 in
set_option maxHeartbeats 8000000 in
theorem fixed_any (w : World) : Calls Try.prog 44 #[] w (IntsAns fixedL w) := by
  obtain ⟨i0, hi, hz0, hz1, hz2⟩ := info_parts infoInt
  go_enter Try.func44, Try.ntmps44
  go_wp2_with fail
  go_loopw [1, 9] (fun v i wr => ∃ k : Nat, k ≤ 4 ∧ i = .int .i64 k ∧ wr.ownsRow w.heap.size 3 1 v (fixedTo k).length (iiv (fixedTo k)) ∧ Below w.heap.size w wr) (fun _ i _ => 4 - (intOf i).toNat)
  case atStart => exact ⟨0, by omega, rfl, World.ownsRow_nil _ _ _ _, Below.refl _ _⟩
  case round =>
    obtain ⟨k, hk, rfl, hown, hb⟩ := hrel
    obtain ⟨a0, cc, rfl⟩ := own_slice hown
    have hsz := hb.size
    have HO := Lib.hid (And.intro hown hb)
    clear hown hb
    by_cases hlt : k < 4
    · have hbd := fixedTo_len k hk
      rcases (by omega : k = 0 ∨ k = 1 ∨ k = 2 ∨ k = 3) with rfl | rfl | rfl | rfl
      · have hx := (fixed_at wr).1
        have hS := Whole.made wr 108 #[.int .i64 144, .int .i64 8]
        have hO1 := HO.out.1.alloc (.cells #[.int .i64 144, .int .i64 8] 108)
        have hO2 := HO.out.2.alloc hsz (.cells #[.int .i64 144, .int .i64 8] 108)
        have hE : fixedTo 1 = fixedTo 0 ++ List.replicate 144 8 := rfl
        have hbd' : (fixedTo 0).length + 144 ≤ 288 := hbd
        have HF := Lib.hid (And.intro hS (And.intro hO1 hO2))
        clear hS hO1 hO2 hbd
        have HE := Lib.hid hE
        clear hE
        generalize fixedTo 0 = T at *
        rw [show ((0 : Nat) : Int) = (0 : Int) from rfl]
        go_wp2_with fail
        generalize hW1 : wr.alloc (.cells #[.int .i64 144, .int .i64 8] 108) = W1 at *
        generalize hS0 : wr.heap.size = S0 at *
        clear hW1 hx
        go_loopw [1, 14] (fun v j ws => ∃ m : Nat, m ≤ 144 ∧ j = .int .i64 m ∧ Whole ws S0 108 #[.int .i64 144, .int .i64 8] ∧ ws.ownsRow w.heap.size 3 1 v (T ++ List.replicate m 8).length (iiv (T ++ List.replicate m 8)) ∧ Below w.heap.size w ws) (fun _ j _ => 144 - (intOf j).toNat)
        case atStart => exact ⟨0, by omega, rfl, HF.out.1, by rw [List.replicate_zero, List.append_nil]; exact HF.out.2.1, HF.out.2.2⟩
        case round =>
          obtain ⟨m, hm, rfl, hS, hown, hb⟩ := hrel
          obtain ⟨a1, c1, rfl⟩ := own_slice hown
          have e0 : wr.cell? ⟨S0, 0, none⟩ = some (.int .i64 144) := hS.reads 0
          have e1 : wr.cell? ⟨S0, 1, none⟩ = some (.int .i64 8) := hS.reads 1
          have lS := hS.lt
          have hsz' := hb.size
          have hTl : (T ++ List.replicate m (8 : Int)).length ≤ 288 := by rw [List.length_append, List.length_replicate]; omega
          have hR := rep_succ T m 8
          have HR := Lib.hid (And.intro hS (And.intro hown (And.intro hb hR)))
          clear hS hown hb hR
          by_cases hlt : m < 144
          · generalize T ++ List.replicate m (8 : Int) = U at *
            go_wp2_with (at_builtin; refine wpList_append_own _ rfl _ _ 50 rfl w.heap.size 3 i0 (.int .i64 0) 1 8 Try.underlying50 hi hz0 hz1 hz2 rfl (by decide) _ _ _ rfl (HR.out.2.1.alloc _) ⟨wr.heap.size, 0, none⟩ 1 1 [.int .i64 _] rfl rfl (World.news_of_block (t := 3) (fr := (0, 0)) (heap_alloc_new wr _)) ?c2 ?c3 ?c4 ?c5 ?_)
            case c2 => simp [Value.oneCell']
            case c3 => unfold maxLen; omega
            case c4 => omega
            case c5 => first | omega | (simp; omega)
            intro v' w3 hown' hgrow _
            have hb3 : Below w.heap.size w w3 := (HR.out.2.2.1.alloc hsz' _).grown hgrow (by simp; omega) (fun j e => (own_lt HR.out.2.1 e).1)
            have hS3 : Whole w3 S0 108 #[.int .i64 144, .int .i64 8] := (HR.out.1.old _).kept hgrow (fun e => by
              obtain ⟨_, _, cs', hw⟩ := own_lt HR.out.2.1 e.symm
              exact hw.apart HR.out.1 (by decide) rfl)
            have hown2 := own_snoc hown' rfl
            rw [← HR.out.2.2.2] at hown2
            have HO3 := Lib.hid (And.intro hS3 (And.intro hown2 hb3))
            obtain ⟨a2, c2, rfl⟩ := own_slice hown'
            clear hown' hgrow hb3 hown2 hS3
            go_wp2_with fail
            go_roundw
            case rel => exact ⟨m + 1, by omega, by go_num, HO3.out.1, HO3.out.2.1, HO3.out.2.2⟩
            case measure => simp [intOf]; omega
          · obtain rfl : m = 144 := by omega
            go_wp2_with fail
            refine ⟨⟨1, by omega, by go_num, ?_, HR.out.2.2.1⟩, by simp [intOf]⟩
            rw [HE.out]
            exact HR.out.2.1
      · have hx := (fixed_at wr).2.1
        have hS := Whole.made wr 108 #[.int .i64 112, .int .i64 9]
        have hO1 := HO.out.1.alloc (.cells #[.int .i64 112, .int .i64 9] 108)
        have hO2 := HO.out.2.alloc hsz (.cells #[.int .i64 112, .int .i64 9] 108)
        have hE : fixedTo 2 = fixedTo 1 ++ List.replicate 112 9 := rfl
        have hbd' : (fixedTo 1).length + 112 ≤ 288 := hbd
        have HF := Lib.hid (And.intro hS (And.intro hO1 hO2))
        clear hS hO1 hO2 hbd
        have HE := Lib.hid hE
        clear hE
        generalize fixedTo 1 = T at *
        rw [show ((1 : Nat) : Int) = (1 : Int) from rfl]
        go_wp2_with fail
        generalize hW1 : wr.alloc (.cells #[.int .i64 112, .int .i64 9] 108) = W1 at *
        generalize hS0 : wr.heap.size = S0 at *
        clear hW1 hx
        go_loopw [1, 14] (fun v j ws => ∃ m : Nat, m ≤ 112 ∧ j = .int .i64 m ∧ Whole ws S0 108 #[.int .i64 112, .int .i64 9] ∧ ws.ownsRow w.heap.size 3 1 v (T ++ List.replicate m 9).length (iiv (T ++ List.replicate m 9)) ∧ Below w.heap.size w ws) (fun _ j _ => 112 - (intOf j).toNat)
        case atStart => exact ⟨0, by omega, rfl, HF.out.1, by rw [List.replicate_zero, List.append_nil]; exact HF.out.2.1, HF.out.2.2⟩
        case round =>
          obtain ⟨m, hm, rfl, hS, hown, hb⟩ := hrel
          obtain ⟨a1, c1, rfl⟩ := own_slice hown
          have e0 : wr.cell? ⟨S0, 0, none⟩ = some (.int .i64 112) := hS.reads 0
          have e1 : wr.cell? ⟨S0, 1, none⟩ = some (.int .i64 9) := hS.reads 1
          have lS := hS.lt
          have hsz' := hb.size
          have hTl : (T ++ List.replicate m (9 : Int)).length ≤ 288 := by rw [List.length_append, List.length_replicate]; omega
          have hR := rep_succ T m 9
          have HR := Lib.hid (And.intro hS (And.intro hown (And.intro hb hR)))
          clear hS hown hb hR
          by_cases hlt : m < 112
          · generalize T ++ List.replicate m (9 : Int) = U at *
            go_wp2_with (at_builtin; refine wpList_append_own _ rfl _ _ 50 rfl w.heap.size 3 i0 (.int .i64 0) 1 8 Try.underlying50 hi hz0 hz1 hz2 rfl (by decide) _ _ _ rfl (HR.out.2.1.alloc _) ⟨wr.heap.size, 0, none⟩ 1 1 [.int .i64 _] rfl rfl (World.news_of_block (t := 3) (fr := (0, 0)) (heap_alloc_new wr _)) ?c2 ?c3 ?c4 ?c5 ?_)
            case c2 => simp [Value.oneCell']
            case c3 => unfold maxLen; omega
            case c4 => omega
            case c5 => first | omega | (simp; omega)
            intro v' w3 hown' hgrow _
            have hb3 : Below w.heap.size w w3 := (HR.out.2.2.1.alloc hsz' _).grown hgrow (by simp; omega) (fun j e => (own_lt HR.out.2.1 e).1)
            have hS3 : Whole w3 S0 108 #[.int .i64 112, .int .i64 9] := (HR.out.1.old _).kept hgrow (fun e => by
              obtain ⟨_, _, cs', hw⟩ := own_lt HR.out.2.1 e.symm
              exact hw.apart HR.out.1 (by decide) rfl)
            have hown2 := own_snoc hown' rfl
            rw [← HR.out.2.2.2] at hown2
            have HO3 := Lib.hid (And.intro hS3 (And.intro hown2 hb3))
            obtain ⟨a2, c2, rfl⟩ := own_slice hown'
            clear hown' hgrow hb3 hown2 hS3
            go_wp2_with fail
            go_roundw
            case rel => exact ⟨m + 1, by omega, by go_num, HO3.out.1, HO3.out.2.1, HO3.out.2.2⟩
            case measure => simp [intOf]; omega
          · obtain rfl : m = 112 := by omega
            go_wp2_with fail
            refine ⟨⟨2, by omega, by go_num, ?_, HR.out.2.2.1⟩, by simp [intOf]⟩
            rw [HE.out]
            exact HR.out.2.1
      · have hx := (fixed_at wr).2.2.1
        have hS := Whole.made wr 108 #[.int .i64 24, .int .i64 7]
        have hO1 := HO.out.1.alloc (.cells #[.int .i64 24, .int .i64 7] 108)
        have hO2 := HO.out.2.alloc hsz (.cells #[.int .i64 24, .int .i64 7] 108)
        have hE : fixedTo 3 = fixedTo 2 ++ List.replicate 24 7 := rfl
        have hbd' : (fixedTo 2).length + 24 ≤ 288 := hbd
        have HF := Lib.hid (And.intro hS (And.intro hO1 hO2))
        clear hS hO1 hO2 hbd
        have HE := Lib.hid hE
        clear hE
        generalize fixedTo 2 = T at *
        rw [show ((2 : Nat) : Int) = (2 : Int) from rfl]
        go_wp2_with fail
        generalize hW1 : wr.alloc (.cells #[.int .i64 24, .int .i64 7] 108) = W1 at *
        generalize hS0 : wr.heap.size = S0 at *
        clear hW1 hx
        go_loopw [1, 14] (fun v j ws => ∃ m : Nat, m ≤ 24 ∧ j = .int .i64 m ∧ Whole ws S0 108 #[.int .i64 24, .int .i64 7] ∧ ws.ownsRow w.heap.size 3 1 v (T ++ List.replicate m 7).length (iiv (T ++ List.replicate m 7)) ∧ Below w.heap.size w ws) (fun _ j _ => 24 - (intOf j).toNat)
        case atStart => exact ⟨0, by omega, rfl, HF.out.1, by rw [List.replicate_zero, List.append_nil]; exact HF.out.2.1, HF.out.2.2⟩
        case round =>
          obtain ⟨m, hm, rfl, hS, hown, hb⟩ := hrel
          obtain ⟨a1, c1, rfl⟩ := own_slice hown
          have e0 : wr.cell? ⟨S0, 0, none⟩ = some (.int .i64 24) := hS.reads 0
          have e1 : wr.cell? ⟨S0, 1, none⟩ = some (.int .i64 7) := hS.reads 1
          have lS := hS.lt
          have hsz' := hb.size
          have hTl : (T ++ List.replicate m (7 : Int)).length ≤ 288 := by rw [List.length_append, List.length_replicate]; omega
          have hR := rep_succ T m 7
          have HR := Lib.hid (And.intro hS (And.intro hown (And.intro hb hR)))
          clear hS hown hb hR
          by_cases hlt : m < 24
          · generalize T ++ List.replicate m (7 : Int) = U at *
            go_wp2_with (at_builtin; refine wpList_append_own _ rfl _ _ 50 rfl w.heap.size 3 i0 (.int .i64 0) 1 8 Try.underlying50 hi hz0 hz1 hz2 rfl (by decide) _ _ _ rfl (HR.out.2.1.alloc _) ⟨wr.heap.size, 0, none⟩ 1 1 [.int .i64 _] rfl rfl (World.news_of_block (t := 3) (fr := (0, 0)) (heap_alloc_new wr _)) ?c2 ?c3 ?c4 ?c5 ?_)
            case c2 => simp [Value.oneCell']
            case c3 => unfold maxLen; omega
            case c4 => omega
            case c5 => first | omega | (simp; omega)
            intro v' w3 hown' hgrow _
            have hb3 : Below w.heap.size w w3 := (HR.out.2.2.1.alloc hsz' _).grown hgrow (by simp; omega) (fun j e => (own_lt HR.out.2.1 e).1)
            have hS3 : Whole w3 S0 108 #[.int .i64 24, .int .i64 7] := (HR.out.1.old _).kept hgrow (fun e => by
              obtain ⟨_, _, cs', hw⟩ := own_lt HR.out.2.1 e.symm
              exact hw.apart HR.out.1 (by decide) rfl)
            have hown2 := own_snoc hown' rfl
            rw [← HR.out.2.2.2] at hown2
            have HO3 := Lib.hid (And.intro hS3 (And.intro hown2 hb3))
            obtain ⟨a2, c2, rfl⟩ := own_slice hown'
            clear hown' hgrow hb3 hown2 hS3
            go_wp2_with fail
            go_roundw
            case rel => exact ⟨m + 1, by omega, by go_num, HO3.out.1, HO3.out.2.1, HO3.out.2.2⟩
            case measure => simp [intOf]; omega
          · obtain rfl : m = 24 := by omega
            go_wp2_with fail
            refine ⟨⟨3, by omega, by go_num, ?_, HR.out.2.2.1⟩, by simp [intOf]⟩
            rw [HE.out]
            exact HR.out.2.1
      · have hx := (fixed_at wr).2.2.2
        have hS := Whole.made wr 108 #[.int .i64 8, .int .i64 8]
        have hO1 := HO.out.1.alloc (.cells #[.int .i64 8, .int .i64 8] 108)
        have hO2 := HO.out.2.alloc hsz (.cells #[.int .i64 8, .int .i64 8] 108)
        have hE : fixedTo 4 = fixedTo 3 ++ List.replicate 8 8 := rfl
        have hbd' : (fixedTo 3).length + 8 ≤ 288 := hbd
        have HF := Lib.hid (And.intro hS (And.intro hO1 hO2))
        clear hS hO1 hO2 hbd
        have HE := Lib.hid hE
        clear hE
        generalize fixedTo 3 = T at *
        rw [show ((3 : Nat) : Int) = (3 : Int) from rfl]
        go_wp2_with fail
        generalize hW1 : wr.alloc (.cells #[.int .i64 8, .int .i64 8] 108) = W1 at *
        generalize hS0 : wr.heap.size = S0 at *
        clear hW1 hx
        go_loopw [1, 14] (fun v j ws => ∃ m : Nat, m ≤ 8 ∧ j = .int .i64 m ∧ Whole ws S0 108 #[.int .i64 8, .int .i64 8] ∧ ws.ownsRow w.heap.size 3 1 v (T ++ List.replicate m 8).length (iiv (T ++ List.replicate m 8)) ∧ Below w.heap.size w ws) (fun _ j _ => 8 - (intOf j).toNat)
        case atStart => exact ⟨0, by omega, rfl, HF.out.1, by rw [List.replicate_zero, List.append_nil]; exact HF.out.2.1, HF.out.2.2⟩
        case round =>
          obtain ⟨m, hm, rfl, hS, hown, hb⟩ := hrel
          obtain ⟨a1, c1, rfl⟩ := own_slice hown
          have e0 : wr.cell? ⟨S0, 0, none⟩ = some (.int .i64 8) := hS.reads 0
          have e1 : wr.cell? ⟨S0, 1, none⟩ = some (.int .i64 8) := hS.reads 1
          have lS := hS.lt
          have hsz' := hb.size
          have hTl : (T ++ List.replicate m (8 : Int)).length ≤ 288 := by rw [List.length_append, List.length_replicate]; omega
          have hR := rep_succ T m 8
          have HR := Lib.hid (And.intro hS (And.intro hown (And.intro hb hR)))
          clear hS hown hb hR
          by_cases hlt : m < 8
          · generalize T ++ List.replicate m (8 : Int) = U at *
            go_wp2_with (at_builtin; refine wpList_append_own _ rfl _ _ 50 rfl w.heap.size 3 i0 (.int .i64 0) 1 8 Try.underlying50 hi hz0 hz1 hz2 rfl (by decide) _ _ _ rfl (HR.out.2.1.alloc _) ⟨wr.heap.size, 0, none⟩ 1 1 [.int .i64 _] rfl rfl (World.news_of_block (t := 3) (fr := (0, 0)) (heap_alloc_new wr _)) ?c2 ?c3 ?c4 ?c5 ?_)
            case c2 => simp [Value.oneCell']
            case c3 => unfold maxLen; omega
            case c4 => omega
            case c5 => first | omega | (simp; omega)
            intro v' w3 hown' hgrow _
            have hb3 : Below w.heap.size w w3 := (HR.out.2.2.1.alloc hsz' _).grown hgrow (by simp; omega) (fun j e => (own_lt HR.out.2.1 e).1)
            have hS3 : Whole w3 S0 108 #[.int .i64 8, .int .i64 8] := (HR.out.1.old _).kept hgrow (fun e => by
              obtain ⟨_, _, cs', hw⟩ := own_lt HR.out.2.1 e.symm
              exact hw.apart HR.out.1 (by decide) rfl)
            have hown2 := own_snoc hown' rfl
            rw [← HR.out.2.2.2] at hown2
            have HO3 := Lib.hid (And.intro hS3 (And.intro hown2 hb3))
            obtain ⟨a2, c2, rfl⟩ := own_slice hown'
            clear hown' hgrow hb3 hown2 hS3
            go_wp2_with fail
            go_roundw
            case rel => exact ⟨m + 1, by omega, by go_num, HO3.out.1, HO3.out.2.1, HO3.out.2.2⟩
            case measure => simp [intOf]; omega
          · obtain rfl : m = 8 := by omega
            go_wp2_with fail
            refine ⟨⟨4, by omega, by go_num, ?_, HR.out.2.2.1⟩, by simp [intOf]⟩
            rw [HE.out]
            exact HR.out.2.1
    · obtain rfl : k = 4 := by omega
      rw [fixedTo_all] at HO ⊢
      go_wp2
      go_ret
      exact ⟨_, rfl, HO.out.1, HO.out.2⟩
end Go.Proofs.Ytnjdnldoopgcpaa

