/- DeflateRun, walked. -/
import Derived.Test.YtnjdnldoopgcpaaDefR
import Derived.Test.YtnjdnldoopgcpaaDefBl
namespace Go.Proofs.Ytnjdnldoopgcpaa
open Go.RowKit

def tab8 (f : Nat → Int) (n : Nat) : Array Value := ((List.range n).map fun i => Value.int .u8 (f i)).toArray
theorem tab8_at (f : Nat → Int) (n i : Nat) (h : i < n) : (tab8 f n)[i]? = some (.int .u8 (f i)) := by simp [tab8, h]
theorem tab8_size (f : Nat → Int) (n : Nat) : (tab8 f n).size = n := by simp [tab8]
theorem tab8_ext {f g : Nat → Int} {n : Nat} (h : ∀ i, i < n → f i = g i) : tab8 f n = tab8 g n := by
  unfold tab8
  congr 1
  apply List.map_congr_left
  intro i hi
  rw [h i (List.mem_range.1 hi)]
theorem tab8_set (f : Nat → Int) (n i : Nat) (v : Int) : (tab8 f n).setIfInBounds i (.int .u8 v) = tab8 (fun j => if j = i then v else f j) n := by
  apply Array.ext_getElem?
  intro j
  rw [Array.getElem?_setIfInBounds]
  by_cases hj : j < n
  · rw [tab8_at _ _ _ hj]
    by_cases e : i = j
    · subst e
      rw [if_pos rfl, tab8_size, if_pos hj, tab8_at _ _ _ hj, if_pos rfl]
    · rw [if_neg e, tab8_at _ _ _ hj, if_neg (fun h => e h.symm)]
  · have h1 : (tab8 (fun k => if k = i then v else f k) n)[j]? = none := Array.getElem?_eq_none (by rw [tab8_size]; omega)
    rw [h1]
    by_cases e : i = j
    · rw [if_pos e, tab8_size, if_neg (by omega)]
    · rw [if_neg e]
      exact Array.getElem?_eq_none (by rw [tab8_size]; omega)
theorem tab8_zero (k : Nat) : madeCells #[.int .u8 0] k = tab8 (fun _ => 0) k := by
  unfold tab8
  apply Array.ext
  · simp [madeCells]
  · intro i h1 h2
    simp [madeCells, Nat.mod_one]
theorem make_tab8 (k : Nat) (hk : k ≤ 1048576) (W : World) : (Instr.makeSlice 22 (.int .i64 (k : Int)) (.int .i64 (k : Int))).run Try.prog W = .ok (.slice (some ⟨W.heap.size, 0, none⟩) k k) (W.alloc (.cells (tab8 (fun _ => 0) k) 5)) := by
  rw [← tab8_zero]
  exact run_make_row' (P := Try.prog) 22 5 (.int .u8 0) 1 Try.underlying22 (by kernel_rfl) rfl .i64 .i64 k (by omega) (by omega) W
theorem tab8_rep (c n : Nat) : tab8 (fun _ => (c : Int)) n = (bvs (List.replicate n c)).toArray := by
  apply Array.ext_getElem?
  intro j
  by_cases h : j < n
  · rw [tab8_at _ _ _ h]
    simp [bvs, h]
  · rw [Array.getElem?_eq_none (by rw [tab8_size]; omega), Array.getElem?_eq_none (by simp [bvs]; omega)]
set_option maxRecDepth 100000 in
set_option maxHeartbeats 8000000 in
theorem run_law (x : Int) (n : Int) (w : World) (hx : 0 ≤ x ∧ x < 256) : Calls Try.prog 5 #[.int .u8 x, .int .i64 n] w (True_ w) := by
  obtain ⟨c, rfl⟩ : ∃ c : Nat, x = (c : Int) := ⟨x.toNat, by omega⟩
  have hc8 : c < 256 := by omega
  go_enter Try.func5, Try.ntmps5
  by_cases g1 : n < 0
  · have d1 : decide (n < 0) = true := decide_eq_true g1
    go_wp2_with fail
    go_ret
    exact ⟨rfl, Below.refl _ _⟩
  have d1 : decide (n < 0) = false := decide_eq_false g1
  by_cases g2 : 2000 < n
  · have d2 : decide (n > 2000) = true := decide_eq_true (by omega)
    go_wp2_with fail
    go_ret
    exact ⟨rfl, Below.refl _ _⟩
  have d2 : decide (n > 2000) = false := decide_eq_false (by omega)
  obtain ⟨N, rfl⟩ : ∃ N : Nat, n = (N : Int) := ⟨n.toNat, by omega⟩
  have hN : N ≤ 2000 := by omega
  have hmk := fun W => make_tab8 N (by omega) W
  obtain ⟨wA, hwA⟩ : ∃ wA, w.alloc (.cells (tab8 (fun _ => 0) N) 5) = wA := ⟨_, rfl⟩
  have hbA : Below w.heap.size w wA := by rw [← hwA]; exact (Below.refl _ _).alloc (Nat.le_refl _) _
  have HA := Lib.hid (show Whole wA w.heap.size 5 (tab8 (fun j => if j < 0 then (c : Int) else 0) N) ∧ Below w.heap.size w wA from ⟨by
    rw [tab8_ext (g := fun _ => 0) (fun i _ => if_neg (Nat.not_lt_zero i)), ← hwA]
    exact Whole.made _ _ _, hbA⟩)
  have hmk2 := hmk w
  rw [hwA] at hmk2
  clear hbA hmk g1 g2
  go_wp2_with fail
  go_loopw [6] (fun s6 wr => ∃ i : Nat, s6 = .int .i64 (i : Int) ∧ i ≤ N ∧ Hid (Whole wr w.heap.size 5 (tab8 (fun j => if j < i then (c : Int) else 0) N) ∧ Below w.heap.size w wr)) (fun s6 _ => N - (intOf s6).toNat)
  case atStart => exact ⟨0, rfl, by omega, HA⟩
  case round =>
    obtain ⟨i, rfl, hi, HR⟩ := hrel
    by_cases hlt : i < N
    · have d3 : decide ((i : Int) < (N : Int)) = true := decide_eq_true (by omega)
      obtain ⟨u, hu⟩ : ∃ u, wr.cell? ⟨w.heap.size, i, none⟩ = some (.int .u8 u) := ⟨_, by rw [HR.out.1.reads, tab8_at _ _ _ hlt]⟩
      have f0 := HR.out.1.thawed i
      have l0 := HR.out.1.lt
      have b1 : (0 : Int) ≤ (i : Int) := by omega
      have b2 : (i : Int) < (N : Int) := by omega
      have HN := Lib.hid (show Whole (wr.setCell ⟨w.heap.size, i, none⟩ (.int .u8 (c : Int))) w.heap.size 5 (tab8 (fun j => if j < i + 1 then (c : Int) else 0) N) ∧ Below w.heap.size w (wr.setCell ⟨w.heap.size, i, none⟩ (.int .u8 (c : Int))) from ⟨by
        have := HR.out.1.set i (.int .u8 (c : Int))
        rw [tab8_set] at this
        rwa [tab8_ext (g := fun j => if j < i + 1 then (c : Int) else 0) (fun k _ => by
          by_cases q : k = i
          · rw [if_pos q, if_pos (by omega)]
          · rw [if_neg q]
            by_cases q2 : k < i
            · rw [if_pos q2, if_pos (by omega)]
            · rw [if_neg q2, if_neg (by omega)])] at this, HR.out.2.setCell (p := ⟨w.heap.size, i, none⟩) (Nat.le_refl _) _⟩)
      go_wp2_with fail
      go_roundw
      case rel => exact ⟨i + 1, by go_num, by omega, HN⟩
      case measure => simp [intOf]; omega
    · obtain rfl : i = N := by omega
      have d3 : decide ((i : Int) < (i : Int)) = false := by simp
      have hrow : Whole wr w.heap.size 5 (bvs (List.replicate i c)).toArray := by
        have := HR.out.1
        rwa [tab8_ext (g := fun _ => (c : Int)) (fun k hk => if_pos hk), tab8_rep] at this
      have hby : Bytes wr (some ⟨w.heap.size, 0, none⟩) i i (List.replicate i c) := Bytes.whole hrow (by simp) (by omega) (fun x hx => by rw [List.eq_of_mem_replicate hx]; exact hc8)
      have HT := Lib.hid (dtokens_any (some ⟨w.heap.size, 0, none⟩) i i (List.replicate i c) wr hby)
      clear hrow hby
      go_wp2_with fail
      refine HT.out.mono ?_
      rintro e w2 (⟨-, A2, c2, rfl, htk, htl, hb⟩ | ⟨hgt, -, -⟩)
      rotate_left
      · rw [List.length_replicate] at hgt; omega
      rw [List.length_replicate] at htl
      obtain ⟨l, hll⟩ : ∃ l, tokD (List.replicate i c) = l := ⟨_, rfl⟩
      rw [hll] at htk htl ⊢
      obtain ⟨len, hlen⟩ : ∃ len, l.length = len := ⟨_, rfl⟩
      rw [hlen] at htk htl ⊢
      have H2 := Lib.hid (And.intro htk (HR.out.2.trans (hb.mono HR.out.2.size)))
      have HL := Lib.hid (And.intro hll hlen)
      clear htk hb HT hll hlen
      go_wp2_with fail
      rename World => wo
      go_loopw [9, 10] (fun s9 s10 wr => ∃ (k f pos : Nat), s10 = .int .i64 (k : Int) ∧ s9 = .int .i64 ((i : Int) - (pos : Int)) ∧ pos ≤ i ∧ k ≤ len ∧ i ≤ pos + f ∧ (k = 0 ↔ pos = 0) ∧ Hid (l.drop k = tokGoD (List.replicate i c) f pos) ∧ Hid (Below w.heap.size w wr ∧ TksAt wr A2 len c2 l)) (fun _ s10 _ => len - (intOf s10).toNat)
      case atStart => exact ⟨0, i, 0, rfl, by simp, by omega, by omega, by omega, by simp, Lib.hid (by rw [List.drop_zero, ← HL.out.1]; unfold tokD; rw [List.length_replicate]), Lib.hid ⟨H2.out.2, H2.out.1⟩⟩
      case round =>
        obtain ⟨k, f, pos, rfl, rfl, hpi, hkl, hif, hk0, HD, HK⟩ := hrel
        by_cases hlt2 : k < len
        · have d4 : decide ((k : Int) < (len : Int)) = true := decide_eq_true (by omega)
          have hst := tok_step HD.out (by rw [HL.out.2]; exact hlt2) (by rw [List.length_replicate]; exact hif)
          rw [List.length_replicate] at hst
          obtain ⟨hpl, f', rfl, hst⟩ := hst
          have b3 : (0 : Int) ≤ (k : Int) := by omega
          have b4 : (k : Int) < (len : Int) := by omega
          obtain ⟨left, hleft⟩ : ∃ left, i - pos = left := ⟨_, rfl⟩
          have elf : (i : Int) - (pos : Int) = (left : Int) := by omega
          rw [elf]
          have hgd : (List.replicate i c).getD pos 0 = c := by
            rw [List.getD_eq_getElem?_getD, List.getElem?_replicate, if_pos hpl]; rfl
          rw [hgd] at hst
          by_cases hp0 : pos = 0
          · obtain rfl : k = 0 := hk0.2 hp0
            subst hp0
            obtain ⟨ht, hrest⟩ : l[0]? = some ⟨(c : Int), 0, 0⟩ ∧ l.drop (0 + 1) = tokGoD (List.replicate i c) f' (0 + 1) := by
              rcases hst with ⟨-, h1, h2⟩ | ⟨h1, -, -⟩
              · exact ⟨h1, h2⟩
              · have := rep_found0 c i; omega
            obtain ⟨R, o, rfl, hR, k0, k1, k2⟩ := HK.out.2.get ht
            rw [Nat.zero_mul, Nat.add_zero] at k0 k1 k2
            have dne : ((c : Int) != (c : Int)) = false := by simp
            have hmx : max (0 : Int) 1 = 1 := rfl
            obtain ⟨nl, hnl⟩ : ∃ nl, nl + 1 = left := ⟨left - 1, by omega⟩
            have ewl : IntKind.i64.wrap ((left : Int) - 1) = (nl : Int) := by rw [IntKind.wrap_i64]; omega
            have HX := Lib.hid (And.intro hrest (And.intro HK.out (And.intro hnl hleft)))
            clear hnl
            clear ht hrest hst hleft elf
            go_wp2_with fail
            go_roundw
            case rel =>
              obtain ⟨hnl, hleft⟩ := HX.out.2.2
              refine ⟨0 + 1, f', 0 + 1, by go_num, ?_, by omega, by omega, by omega, by omega, Lib.hid HX.out.1, Lib.hid ⟨?_, ?_⟩⟩
              · first | (congr 1; omega) | go_num
              · exact HX.out.2.1.1.alloc HX.out.2.1.1.size _
              · exact HX.out.2.1.2.later ((Below.refl _ _).alloc (Nat.le_refl _) _)
            case measure => simp [intOf]; omega
          · have hk1 : 0 < k := by
              rcases Nat.eq_zero_or_pos k with e | e
              · exact absurd (hk0.1 e) hp0
              · exact e
            have hrf := rep_found (c := c) (n := i) (i := pos) (by omega) hpl
            rw [hleft] at hrf
            by_cases h3 : 3 ≤ left
            · obtain ⟨ht, hrest⟩ : l[k]? = some ⟨0, ((min left 258 : Nat) : Int), ((1 : Nat) : Int)⟩ ∧ l.drop (k + 1) = tokGoD (List.replicate i c) f' (pos + min left 258) := by
                rw [hrf.1 h3] at hst
                rcases hst with ⟨h1, -, -⟩ | ⟨-, h1, h2⟩
                · have h9 : min left 258 < 3 := h1
                  omega
                · exact ⟨h1, h2⟩
              clear hst hrf
              by_cases h258 : left ≤ 258
              · have hm : min left 258 = left := by omega
                rw [hm] at ht hrest
                obtain ⟨R, o, rfl, hR, k0, k1, k2⟩ := HK.out.2.get ht
                have dne : (((left : Int) : Int) != (left : Int)) = false := by simp
                have hmx : max (left : Int) 1 = (left : Int) := by omega
                have hmn : min (left : Int) 258 = (left : Int) := by omega
                have d5 : decide ((k : Int) > 0) = true := decide_eq_true (by omega)
                have d6 : decide ((left : Int) ≥ 3) = true := decide_eq_true (by omega)
                have d7 : ((k : Int) == 0) = false := by simp; omega
                have d8 : decide ((left : Int) < 3) = false := decide_eq_false (by omega)
                have HX := Lib.hid (And.intro hrest (And.intro HK.out (And.intro (show left = left from rfl) hleft)))
                clear ht hrest hleft elf hm
                go_wp2_with fail
                go_roundw
                case rel =>
                  obtain ⟨hnl, hleft⟩ := HX.out.2.2
                  refine ⟨k + 1, f', pos + left, by go_num, ?_, by omega, by omega, by omega, by omega, Lib.hid HX.out.1, Lib.hid ⟨?_, ?_⟩⟩
                  · first | (congr 1; omega) | go_num
                  · exact HX.out.2.1.1.alloc HX.out.2.1.1.size _
                  · exact HX.out.2.1.2.later ((Below.refl _ _).alloc (Nat.le_refl _) _)
                case measure => simp [intOf]; omega
              · have hm : min left 258 = 258 := by omega
                rw [hm] at ht hrest
                obtain ⟨R, o, rfl, hR, k0, k1, k2⟩ := HK.out.2.get ht
                have dne : ((258 : Int) != 258) = false := by simp
                have hmx : max (258 : Int) 1 = 258 := rfl
                have hmn : min (left : Int) 258 = 258 := by omega
                obtain ⟨nl, hnl⟩ : ∃ nl, nl + 258 = left := ⟨left - 258, by omega⟩
                have ewl : IntKind.i64.wrap ((left : Int) - 258) = (nl : Int) := by rw [IntKind.wrap_i64]; omega
                have d5 : decide ((k : Int) > 0) = true := decide_eq_true (by omega)
                have d6 : decide ((left : Int) ≥ 3) = true := decide_eq_true (by omega)
                have d7 : ((k : Int) == 0) = false := by simp; omega
                have d8 : decide ((left : Int) < 3) = false := decide_eq_false (by omega)
                have HX := Lib.hid (And.intro hrest (And.intro HK.out (And.intro hnl hleft)))
                clear hnl
                clear ht hrest hleft elf hm
                go_wp2_with fail
                go_roundw
                case rel =>
                  obtain ⟨hnl, hleft⟩ := HX.out.2.2
                  refine ⟨k + 1, f', pos + 258, by go_num, ?_, by omega, by omega, by omega, by omega, Lib.hid HX.out.1, Lib.hid ⟨?_, ?_⟩⟩
                  · first | (congr 1; omega) | go_num
                  · exact HX.out.2.1.1.alloc HX.out.2.1.1.size _
                  · exact HX.out.2.1.2.later ((Below.refl _ _).alloc (Nat.le_refl _) _)
                case measure => simp [intOf]; omega
            · obtain ⟨ht, hrest⟩ : l[k]? = some ⟨(c : Int), 0, 0⟩ ∧ l.drop (k + 1) = tokGoD (List.replicate i c) f' (pos + 1) := by
                rcases hst with ⟨-, h1, h2⟩ | ⟨h1, -, -⟩
                · exact ⟨h1, h2⟩
                · have := hrf.2 (by omega); omega
              have d5 : decide ((k : Int) > 0) = true := decide_eq_true (by omega)
              have d6 : decide ((left : Int) ≥ 3) = false := decide_eq_false (by omega)
              have d7 : ((k : Int) == 0) = false := by simp; omega
              have d8 : decide ((left : Int) < 3) = true := decide_eq_true (by omega)
              clear hrf
              obtain ⟨R, o, rfl, hR, k0, k1, k2⟩ := HK.out.2.get ht
              have dne : ((c : Int) != (c : Int)) = false := by simp
              have hmx : max (0 : Int) 1 = 1 := rfl
              obtain ⟨nl, hnl⟩ : ∃ nl, nl + 1 = left := ⟨left - 1, by omega⟩
              have ewl : IntKind.i64.wrap ((left : Int) - 1) = (nl : Int) := by rw [IntKind.wrap_i64]; omega
              have HX := Lib.hid (And.intro hrest (And.intro HK.out (And.intro hnl hleft)))
              clear hnl
              clear ht hrest hst hleft elf
              go_wp2_with fail
              go_roundw
              case rel =>
                obtain ⟨hnl, hleft⟩ := HX.out.2.2
                refine ⟨k + 1, f', pos + 1, by go_num, ?_, by omega, by omega, by omega, by omega, Lib.hid HX.out.1, Lib.hid ⟨?_, ?_⟩⟩
                · first | (congr 1; omega) | go_num
                · exact HX.out.2.1.1.alloc HX.out.2.1.1.size _
                · exact HX.out.2.1.2.later ((Below.refl _ _).alloc (Nat.le_refl _) _)
              case measure => simp [intOf]; omega
        · obtain rfl : k = len := by omega
          have d4 : decide ((k : Int) < (k : Int)) = false := by simp
          have hpe := tok_end HD.out (by rw [HL.out.2]; exact Nat.le_refl _) (by rw [List.length_replicate]; exact hif) (by rw [List.length_replicate]; exact hpi)
          rw [List.length_replicate] at hpe
          have e0 : (i : Int) - (pos : Int) = 0 := by omega
          rw [e0]
          clear hpe e0
          go_wp2_with fail
          refine (awake07 _).mono ?_
          rintro e w5 ⟨rfl, hb⟩
          have H5 := Lib.hid (HK.out.1.trans (hb.mono HK.out.1.size))
          clear hb
          go_wp2_with fail
          go_ret
          exact ⟨rfl, H5.out⟩
end Go.Proofs.Ytnjdnldoopgcpaa
