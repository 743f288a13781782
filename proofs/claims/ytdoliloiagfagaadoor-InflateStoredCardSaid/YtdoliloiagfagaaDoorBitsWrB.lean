/- The writer's filled and Bytes. -/
import Derived.Test.YtdoliloiagfagaaDoorBitsWr
import Derived.Test.YtdoliloiagfagaaDoorBitsNew
namespace Go.Proofs.YtdoliloiagfagaaDoor
open Go.RowKit

theorem shl_bad (k : Nat) (V : Int) (hk : k ≤ 24) (hV : ((2 ^ k : Nat) : Int) ≤ V) : decide (wrap64 (2 ^ k) ≤ V) = true := by
  have k24 : (2 : Nat) ^ k ≤ 2 ^ 24 := Nat.pow_le_pow_right (by omega) hk
  have e : (2 : Int) ^ k = ((2 ^ k : Nat) : Int) := by push_cast; rfl
  have b1 : ((2 ^ k : Nat) : Int) ≤ ((2 ^ 24 : Nat) : Int) := Int.ofNat_le.2 k24
  have b0 : (0 : Int) ≤ ((2 ^ k : Nat) : Int) := Int.natCast_nonneg _
  generalize ((2 ^ k : Nat) : Int) = z at *
  rw [e, IntWalk.wrap64_in z ⟨by omega, by omega⟩]
  simp only [decide_eq_true_iff]
  omega
theorem put_bad (B : Nat) (V k : Int) (w : World) (h : k < 0 ∨ 24 < k ∨ V < 0 ∨ ((2 ^ k.toNat : Nat) : Int) ≤ V) :
    Calls Tryd.prog 50 #[.pointer (some ⟨B, 0, none⟩), .int .i64 V, .int .i64 k] w fun e w' => e = .returned (.int .i64 1) ∧ w = w' := by
  by_cases h1 : k < 0
  · clear h
    go_enter Tryd.func50, Tryd.ntmps50
    go_wp2
    go_ret
    exact ⟨rfl, rfl⟩
  · by_cases h2 : 24 < k
    · clear h
      go_enter Tryd.func50, Tryd.ntmps50
      go_wp2
      go_ret
      exact ⟨rfl, rfl⟩
    · by_cases h3 : V < 0
      · clear h
        go_enter Tryd.func50, Tryd.ntmps50
        go_wp2
        go_ret
        exact ⟨rfl, rfl⟩
      · have h4 : ((2 ^ k.toNat : Nat) : Int) ≤ V := by omega
        obtain ⟨n, rfl⟩ : ∃ n : Nat, k = n := ⟨k.toNat, by omega⟩
        rw [Int.toNat_natCast] at h4
        have hb := shl_bad n V (by omega) h4
        clear h h4
        go_enter Tryd.func50, Tryd.ntmps50
        go_wp2
        go_ret
        exact ⟨rfl, rfl⟩

/-- What filled answers: a row whose number is the writer's. -/
def FilledIs (base : Nat) (v : Value) (M T : Nat) (w : World) (e : Ending) (w' : World) : Prop :=
  ∃ (v' : Value) (bs : List Nat), e = .returned v' ∧ w'.ownsRow base 5 1 v' bs.length (bvs bs) ∧ (∀ b ∈ bs, b < 256) ∧ num bs = M ∧ bs.length = (T + 7) / 8 ∧ Fr (fun k => some k = v.ownBlock) w w'
set_option maxRecDepth 100000 in
set_option maxHeartbeats 4000000 in
theorem filled_any (B base M T : Nat) (v : Value) (w : World) (h : WD w B base v M T) (hT : T ≤ 1000000000) :
    Calls Tryd.prog 72 #[.pointer (some ⟨B, 0, none⟩)] w (FilledIs base v M T w) := by
  obtain ⟨i0, hi, hz0, hz1, hz2⟩ := info_parts info8
  obtain ⟨word, held, bs, h, hh, rfl, rfl, hbase⟩ := h
  have H := Lib.hid h
  obtain ⟨a0, cc, rfl⟩ := own_slice h.own
  obtain ⟨c0, c1, c2, hf⟩ := h.cells
  have hw : word < 128 := Nat.lt_of_lt_of_le h.low (Nat.pow_le_pow_right (by omega) hh)
  have hB := h.whole.lt
  clear h hf
  by_cases h0 : held = 0
  · subst h0
    have hq : word = 0 := by have := H.out.low; simpa using this
    have HQ := Lib.hid hq
    clear hq
    go_enter Tryd.func72, Tryd.ntmps72
    go_wp2
    go_ret
    exact ⟨_, bs, rfl, H.out.own, H.out.byte, by rw [HQ.out]; rfl, by omega, Fr.refl _ _⟩
  · have h1 : ((held : Int) == 0) = false := by simp; omega
    go_enter Tryd.func72, Tryd.ntmps72
    go_wp2_with fail
    go_region_law ((refine step_append_lies _ (by rfl) _ _ _ (by rfl) base 5 i0 (.int .u8 0) 1 1 Tryd.underlying23 hi hz0 hz1 hz2 rfl (by omega) (.slice a0 bs.length cc) bs.length (bvs bs) (by rfl) ((H.out.own.alloc _).drew) ⟨w.heap.size, 0, none⟩ 1 1 [.int .u8 ((word % 256 : Nat) : Int)] (by rfl) (by rfl) (World.news_of_block (cs := #[.int .u8 ((word % 256 : Nat) : Int)]) (t := 5) (fr := (0, 0)) (heap_alloc_new w _)) (by simp [Value.oneCell']) (by omega) (by unfold maxLen; omega) (by omega) (by simp; omega) (w.heap.size + 1) (by simp) ?_; intro g cap w1 hown1 hgrow hat hlt; have HG := Lib.hid (And.intro hown1 hgrow); clear hown1 hgrow hat hlt))
    all_goals
      go_wp2
      go_ret
      obtain ⟨hown1, hgrow⟩ := HG.out
      rw [Nat.mod_eq_of_lt (show word < 256 by omega), show bvs bs ++ [Value.int .u8 (word : Int)] = bvs (bs ++ [word]) from (bvs_append bs [word]).symm] at hown1
      refine ⟨_, bs ++ [word], rfl, by rw [List.length_append]; exact hown1, ?_, num_append bs word, by simp; omega, ((Fr.refl _ _).alloc _).drew.grown hgrow (fun j e hj => e.symm)⟩
      intro b hb
      rcases List.mem_append.1 hb with hb | hb
      · exact H.out.byte b hb
      · simp at hb; omega
/-- What the writer's Bytes answers: a new row, whose number is the writer's. -/
def WBytes (M T : Nat) (v : Value) (w : World) (e : Ending) (w' : World) : Prop :=
  ∃ A c R bs, e = .returned (.slice A bs.length c) ∧ R < w'.heap.size + 1 ∧ (bs ≠ [] → w.heap.size ≤ R ∧ R < w'.heap.size) ∧ Row8 w' R A bs.length c bs ∧ num bs = M ∧ bs.length = (T + 7) / 8 ∧ Fr (fun k => some k = v.ownBlock) w w'
theorem own_bytes {w : World} {base : Nat} {v : Value} {bs : List Nat} (h : w.ownsRow base 5 1 v bs.length (bvs bs)) (hb : ∀ b ∈ bs, b < 256) : ∃ A c, v = .slice A bs.length c ∧ Bytes w A bs.length c bs := by
  obtain ⟨A, c, R, e, _, _, hr⟩ := Row8.of_own h hb
  exact ⟨A, c, e, hr.bytes⟩
theorem wbytes_any (B base M T : Nat) (v : Value) (w : World) (h : WD w B base v M T) (hT : T ≤ 1000000000) :
    Calls Tryd.prog 52 #[.pointer (some ⟨B, 0, none⟩)] w (WBytes M T v w) := by
  have H := Lib.hid h
  clear h
  go_enter Tryd.func52, Tryd.ntmps52
  go_wp2_with fail
  refine (filled_any B base M T v _ H.out hT).mono ?_
  rintro e w1 ⟨v', bs, rfl, hown, hb, hn, hl, hf⟩
  obtain ⟨A, c, rfl, hrow⟩ := own_bytes hown hb
  have HR := Lib.hid (And.intro hrow (And.intro hn (And.intro hl hf)))
  have hlen : bs.length ≤ 140737488355327 := by omega
  clear hown hb hn hl hf hrow
  go_wp2_with fail
  refine (clone_any bs bs.length c A _ HR.out.1 hlen).mono ?_
  rintro e w2 ⟨A', c', R, rfl, h1, h2, hrow, hbel⟩
  have H2 := Lib.hid (And.intro h1 (And.intro h2 (And.intro hrow hbel)))
  clear h1 h2 hrow hbel
  go_wp2
  go_ret
  obtain ⟨-, hn, hl, hf⟩ := HR.out
  obtain ⟨h1, h2, hrow, hbel⟩ := H2.out
  have := hf.size
  refine ⟨A', c', R, bs, rfl, h1, fun hne => ?_, hrow, hn, hl, hf.trans (Fr.of_below hbel) (fun j hj hle => by omega)⟩
  have := h2 (List.length_pos_iff.2 hne)
  omega
end Go.Proofs.YtdoliloiagfagaaDoor
