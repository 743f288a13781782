/- The law LexNumbers. -/
import Derived.Test.YtdiaijdobglaaaaDoorLexT
import Derived.Lib.ConvBytes
import Derived.Lib.SmallJoins
namespace Go.Proofs.YtdiaijdobglaaaaDoor
open Go.RowKit

def plainC (c : Nat) : Bool := decide ((48 ≤ c ∧ c ≤ 57) ∨ (97 ≤ c ∧ c ≤ 122) ∨ c = 46 ∨ c = 45 ∨ c = 43)
theorem plain_rg {c : Nat} (h : plainC c = true) : rgB c = true := by
  have h := of_decide_eq_true h
  have h1 : spB c = false := by
    unfold spB
    simp only [Bool.or_eq_false_iff, beq_eq_false_iff_ne]
    omega
  have h2 : dlB c = false := by
    unfold dlB
    simp only [Bool.or_eq_false_iff, beq_eq_false_iff_ne]
    omega
  unfold rgB
  rw [h1, h2]
  rfl
theorem parse_errs (t : List UInt8) : (parseL t).2.2 = 0 ∨ (parseL t).2.2 = 5 ∨ (parseL t).2.2 = 4 := by
  unfold parseL
  split
  · exact .inr (.inr rfl)
  · split
    · exact .inr (.inr rfl)
    · split
      · exact rd_err _ _ _ (.inl rfl)
      · split
        · exact .inr (.inl rfl)
        · exact .inl rfl
theorem nats_app (a b : ByteArray) : natsOf (a ++ b) = natsOf a ++ natsOf b := by
  unfold natsOf
  simp [ByteArray.data_append]
theorem next_reg0 {l : List Nat} (hl : ∀ c ∈ l, rgB c = true) (hne : l ≠ []) {t : TokV} {e : Int} (h : plainL PN l [32] = (e, t, [32])) (he : e = 0) : nextI (l ++ [32]) 0 = (0, t, (l.length : Int)) := by
  subst he
  have hn : nextL PN (l ++ 32 :: []) = plainL PN l (32 :: []) := next_reg PN hl hne rfl
  unfold nextI
  rw [if_neg (by simp; omega), show ((0 : Int).toNat) = 0 from rfl, List.drop_zero, hn, h, if_pos rfl]
  simp
theorem next_err0 {l : List Nat} (hl : ∀ c ∈ l, rgB c = true) (hne : l ≠ []) {e : Int} (h : plainL PN l [32] = errN e) (he : e ≠ 0) : nextI (l ++ [32]) 0 = (e, noTok, 0) := by
  have hn : nextL PN (l ++ 32 :: []) = plainL PN l (32 :: []) := next_reg PN hl hne rfl
  unfold nextI
  rw [if_neg (by simp; omega), show ((0 : Int).toNat) = 0 from rfl, List.drop_zero, hn, h]
  unfold errN
  rw [if_neg he]
theorem bytes_conv (w : World) (s : ByteArray) (hs : s.size ≤ 1000000) : Bytes (Lib.bytesWorld w 5 s) (some ⟨w.heap.size, 0, none⟩) s.size (grownCap w s.size 0 5) (natsOf s) :=
  ⟨nats_len s, grownCap_ge w s.size 0 _, by have := grownCap_le_maxLen w s.size 0 5 (by unfold maxLen; omega); unfold maxLen at this; omega, nats_lt s, fun _ => ⟨w.heap.size, 0, rfl, by rw [Lib.bytesWorld_size]; omega, fun i b hi => by
    obtain ⟨hl, e⟩ := List.getElem?_eq_some_iff.1 hi
    have hl' : i < s.size := by rw [nats_len] at hl; exact hl
    have h := nats_at s hl'
    rw [hi] at h
    injection h with h
    rw [Nat.zero_add, Lib.bytesWorld_cell w _ s i hl', h, List.getD_eq_getElem?_getD]
    have : s.data.toList[i]? = some s[i] := by rw [List.getElem?_eq_getElem (by simpa using hl')]; rfl
    rw [this]
    rfl⟩⟩
theorem nats_ne {s : ByteArray} (h : s.size ≠ 0) : natsOf s ≠ [] := fun e => h (by rw [← nats_len, e]; rfl)
theorem sp_size (s : ByteArray) : (s ++ (⟨#[32]⟩ : ByteArray)).size = s.size + 1 := by rw [ByteArray.size_append]; rfl
theorem next_num (s : ByteArray) {e n : Int} {t : TokV} (h : nextI (natsOf s ++ [32]) 0 = (e, t, n)) {v : Value} (hv : tokV t = v) (A : Option Addr) (c : Nat) (w : World) (hb : Bytes w A (s.size + 1) c (natsOf s ++ natsOf ⟨#[32]⟩)) (hm : MaxLen w) (hs : s.size ≤ 1000) :
    Calls Tryd.prog 8 #[.slice A (s.size + 1) c, .int .i64 0] w fun e' w' => e' = .returned (.tuple #[v, .int .i64 n, .int .i64 e]) ∧ Below w.heap.size w w' := by
  subst hv
  have := Next_any A _ c _ 0 w hb (by omega) hm
  rw [show natsOf ⟨#[32]⟩ = [32] by decide, h] at this
  exact this
set_option maxRecDepth 100000 in
set_option maxHeartbeats 16000000 in
theorem numbers_any (s : ByteArray) (w : World) (hE : Env w) : Calls Tryd.prog 5 #[.string s] w (True_ w) := by
  have HE := Lib.hid hE
  clear hE
  by_cases h0 : s.size = 0
  · have d1 : decide ((s.size : Int) < 1) = true := decide_eq_true (by omega)
    clear h0
    go_enter Tryd.func5, Tryd.ntmps5
    go_wp2_with fail
    refine (awake_any _ HE.out).mono ?_
    rintro e w1 ⟨rfl, hb⟩
    go_wp2_with fail
    go_ret
    exact ⟨rfl, hb⟩
  have d1 : decide ((s.size : Int) < 1) = false := decide_eq_false (by omega)
  by_cases h1 : 127 < s.size
  · have d2 : decide ((127 : Int) < (s.size : Int)) = true := decide_eq_true (by omega)
    clear h0 h1
    go_enter Tryd.func5, Tryd.ntmps5
    go_wp2_with fail
    refine (awake_any _ HE.out).mono ?_
    rintro e w1 ⟨rfl, hb⟩
    go_wp2_with fail
    go_ret
    exact ⟨rfl, hb⟩
  have d2 : decide ((127 : Int) < (s.size : Int)) = false := decide_eq_false (by omega)
  have H0 := Lib.hid h0
  have HP := Lib.hid (parse_any s w HE.out.1 (by omega))
  rw [← PN_nats] at HP
  have HER := Lib.hid (show (PN (natsOf s)).2.2 = 0 ∨ (PN (natsOf s)).2.2 = 5 ∨ (PN (natsOf s)).2.2 = 4 by rw [PN_nats]; exact parse_errs _)
  have HL := Lib.hid (nats_len s)
  clear h0
  have kc := fun (w : World) (s : ByteArray) => Lib.run_convert_string_bytes (P := Tryd.prog) w 9 30 5 s Tryd.underlying9 Tryd.underlying30 Tryd.underlying5
  go_enter Tryd.func5, Tryd.ntmps5
  go_wp2_with fail
  go_loop [3] (fun x => ∃ k : Nat, k ≤ s.size ∧ x = .int .i64 (k : Int) ∧ Hid (∀ c ∈ (natsOf s).take k, plainC c = true)) (fun x => s.size - (intOf x).toNat)
  case atStart => exact ⟨0, by omega, rfl, Lib.hid (fun c hc => by simp at hc)⟩
  case round =>
    obtain ⟨k, hk, rfl, HA⟩ := hrel
    by_cases hlt : k < s.size
    · have e2 : decide ((k : Int) < (s.size : Int)) = true := decide_eq_true (by omega)
      have e3 : decide (k < s.size) = true := decide_eq_true hlt
      have HT := Lib.hid (take_at (nats_at s hlt))
      have hx9 := s[k].toNat_lt
      by_cases hp : plainC s[k].toNat = true
      · have HN := Lib.hid (show ∀ c ∈ (natsOf s).take (k + 1), plainC c = true from fun c hc => by
          rw [HT.out] at hc
          rcases List.mem_append.1 hc with hc | hc
          · exact HA.out c hc
          · rw [List.mem_singleton.1 hc]; exact hp)
        have hp := of_decide_eq_true hp
        obtain ⟨x, hx⟩ : ∃ x, s[k].toNat = x := ⟨_, rfl⟩
        rw [hx] at hp hx9
        rcases (by omega : (48 ≤ x ∧ x ≤ 57) ∨ (97 ≤ x ∧ x ≤ 122) ∨ x = 46 ∨ x = 45 ∨ x = 43) with ⟨p1, p2⟩ | ⟨p1, p2⟩ | rfl | rfl | rfl
        · have f0 : decide ((48 : Int) ≤ (x : Int)) = true := decide_eq_true (by omega)
          have f1 : decide ((x : Int) ≤ 57) = true := decide_eq_true (by omega)
          clear hp p1 p2 hx9
          go_wp2_with fail
          exact ⟨⟨k + 1, by omega, by go_num, HN⟩, by simp [intOf]; omega⟩
        · have f0 : decide ((48 : Int) ≤ (x : Int)) = true := decide_eq_true (by omega)
          have f1 : decide ((x : Int) ≤ 57) = false := decide_eq_false (by omega)
          have f2 : decide ((97 : Int) ≤ (x : Int)) = true := decide_eq_true (by omega)
          have f3 : decide ((x : Int) ≤ 122) = true := decide_eq_true (by omega)
          clear hp p1 p2 hx9
          go_wp2_with fail
          exact ⟨⟨k + 1, by omega, by go_num, HN⟩, by simp [intOf]; omega⟩
        · clear hp hx9
          go_wp2_with fail
          exact ⟨⟨k + 1, by omega, by go_num, HN⟩, by simp [intOf]; omega⟩
        · clear hp hx9
          go_wp2_with fail
          exact ⟨⟨k + 1, by omega, by go_num, HN⟩, by simp [intOf]; omega⟩
        · clear hp hx9
          go_wp2_with fail
          exact ⟨⟨k + 1, by omega, by go_num, HN⟩, by simp [intOf]; omega⟩
      · have hp : ¬ ((48 ≤ s[k].toNat ∧ s[k].toNat ≤ 57) ∨ (97 ≤ s[k].toNat ∧ s[k].toNat ≤ 122) ∨ s[k].toNat = 46 ∨ s[k].toNat = 45 ∨ s[k].toNat = 43) := fun h => hp (decide_eq_true h)
        obtain ⟨x, hx⟩ : ∃ x, s[k].toNat = x := ⟨_, rfl⟩
        rw [hx] at hp hx9
        have f10 : ((x : Int) == 46) = false := by simp; omega
        have f11 : ((x : Int) == 45) = false := by simp; omega
        have f12 : ((x : Int) == 43) = false := by simp; omega
        rcases (by omega : x < 48 ∨ (57 < x ∧ x < 97) ∨ 122 < x) with p1 | ⟨p1, p2⟩ | p1
        · have f0 : decide ((48 : Int) ≤ (x : Int)) = false := decide_eq_false (by omega)
          have f1 : decide ((97 : Int) ≤ (x : Int)) = false := decide_eq_false (by omega)
          clear hp hx9
          go_wp2_with fail
          refine (awake_any _ HE.out).mono ?_
          rintro e w1 ⟨rfl, hb⟩
          go_wp2_with fail
          go_ret
          exact ⟨rfl, hb⟩
        · have f0 : decide ((48 : Int) ≤ (x : Int)) = true := decide_eq_true (by omega)
          have f1 : decide ((x : Int) ≤ 57) = false := decide_eq_false (by omega)
          have f2 : decide ((97 : Int) ≤ (x : Int)) = false := decide_eq_false (by omega)
          clear hp hx9
          go_wp2_with fail
          refine (awake_any _ HE.out).mono ?_
          rintro e w1 ⟨rfl, hb⟩
          go_wp2_with fail
          go_ret
          exact ⟨rfl, hb⟩
        · have f0 : decide ((48 : Int) ≤ (x : Int)) = true := decide_eq_true (by omega)
          have f1 : decide ((x : Int) ≤ 57) = false := decide_eq_false (by omega)
          have f2 : decide ((97 : Int) ≤ (x : Int)) = true := decide_eq_true (by omega)
          have f3 : decide ((x : Int) ≤ 122) = false := decide_eq_false (by omega)
          clear hp hx9
          go_wp2_with fail
          refine (awake_any _ HE.out).mono ?_
          rintro e w1 ⟨rfl, hb⟩
          go_wp2_with fail
          go_ret
          exact ⟨rfl, hb⟩
    · obtain rfl : k = s.size := by omega
      have e2 : decide ((s.size : Int) < (s.size : Int)) = false := by simp
      have e3 : decide (s.size < s.size) = false := by simp
      have HAL := Lib.hid (show ∀ c ∈ natsOf s, rgB c = true from fun c hc => plain_rg (HA.out c (by rw [List.take_of_length_le (by rw [HL.out]; exact Nat.le_refl _)]; exact hc)))
      obtain ⟨⟨M, S, E⟩, hE⟩ : ∃ z, PN (natsOf s) = z := ⟨_, rfl⟩
      rw [hE] at HP HER
      have HPE := Lib.hid hE
      have her : E = 0 ∨ E = 5 ∨ E = 4 := HER.out
      clear hE
      rcases her with rfl | rfl | rfl
      · have HNX := Lib.hid (show nextI (natsOf s ++ [32]) 0 = (0, ⟨1, M, S, []⟩, (s.size : Int)) by rw [← HL.out]; exact next_reg0 HAL.out (nats_ne H0.out) (by unfold plainL; rw [HPE.out, if_pos rfl]) rfl)
        go_wp2_with fail
        refine HP.out.mono ?_
        rintro e w1 ⟨rfl, hb⟩
        have h1 := bytes_conv (w1.alloc (.cells #[.int .i64 M, .int .i64 S] 23)) (s ++ ⟨#[32]⟩) (by rw [sp_size]; omega)
        have hw := Whole.made w1 23 #[.int .i64 M, .int .i64 S]
        have hb1 := Joins.below_bytesWorld w.heap.size (w1.alloc (.cells #[.int .i64 M, .int .i64 S] 23)) 5 (s ++ ⟨#[32]⟩) (by have := hb.size; simp; omega)
        have hb2 := Joins.below_bytesWorld (w1.heap.size + 1) (w1.alloc (.cells #[.int .i64 M, .int .i64 S] 23)) 5 (s ++ ⟨#[32]⟩) (by simp)
        have HB1 := Lib.hid ((hb.alloc hb.size _).trans hb1)
        have HW1 := Lib.hid (hw.later hb2 (by omega))
        have HE1 := Lib.hid (HE.out.below HB1.out)
        simp only [World.size_alloc] at h1
        rw [nats_app, sp_size] at h1
        have HBY := Lib.hid h1
        clear h1 hw hb1 hb2 hb
        go_wp2_with fail
        refine (next_num s HNX.out (v := .agg #[.int .i64 1, .int .i64 M, .int .i64 S, .string ⟨#[]⟩]) (by rfl) _ _ _ HBY.out HE1.out.1 (by omega)).mono ?_
        rintro e w2 ⟨rfl, hb⟩
        have HB2 := Lib.hid (HB1.out.trans (hb.mono HB1.out.size))
        have HW2 := Lib.hid (HW1.out.here hb)
        have HE2 := Lib.hid (HE1.out.below hb)
        clear hb
        go_wp2_with fail
        have HT := Lib.hid (Whole.made w2 25 #[.int .i64 1, .int .i64 M, .int .i64 S, .string ⟨#[]⟩])
        refine (awake_any _ (HE2.out.below ((Below.refl _ _).alloc (Nat.le_refl _) _))).mono ?_
        rintro e w3 ⟨rfl, hb⟩
        have HB3 := Lib.hid ((HB2.out.alloc HB2.out.size (.cells #[.int .i64 1, .int .i64 M, .int .i64 S, .string ⟨#[]⟩] 25)).trans (hb.mono (HB2.out.alloc HB2.out.size (.cells #[.int .i64 1, .int .i64 M, .int .i64 S, .string ⟨#[]⟩] 25)).size))
        have rt := (HT.out.here hb).reads
        have lt := (HT.out.here hb).lt
        have rd := ((HW2.out.old (.cells #[.int .i64 1, .int .i64 M, .int .i64 S, .string ⟨#[]⟩] 25)).here hb).reads
        have ld := ((HW2.out.old (.cells #[.int .i64 1, .int .i64 M, .int .i64 S, .string ⟨#[]⟩] 25)).here hb).lt
        clear hb
        go_wp2_with fail
        go_ret
        exact ⟨rfl, HB3.out⟩
      · have HNX := Lib.hid (show nextI (natsOf s ++ [32]) 0 = (5, noTok, 0) by exact next_err0 HAL.out (nats_ne H0.out) (by unfold plainL; rw [HPE.out, if_neg (show ¬ (5 : Int) = 0 by decide), if_pos (show (5 : Int) ≠ 4 by decide)]) (by decide))
        go_wp2_with fail
        refine HP.out.mono ?_
        rintro e w1 ⟨rfl, hb⟩
        have h1 := bytes_conv (w1.alloc (.cells #[.int .i64 M, .int .i64 S] 23)) (s ++ ⟨#[32]⟩) (by rw [sp_size]; omega)
        have hw := Whole.made w1 23 #[.int .i64 M, .int .i64 S]
        have hb1 := Joins.below_bytesWorld w.heap.size (w1.alloc (.cells #[.int .i64 M, .int .i64 S] 23)) 5 (s ++ ⟨#[32]⟩) (by have := hb.size; simp; omega)
        have hb2 := Joins.below_bytesWorld (w1.heap.size + 1) (w1.alloc (.cells #[.int .i64 M, .int .i64 S] 23)) 5 (s ++ ⟨#[32]⟩) (by simp)
        have HB1 := Lib.hid ((hb.alloc hb.size _).trans hb1)
        have HW1 := Lib.hid (hw.later hb2 (by omega))
        have HE1 := Lib.hid (HE.out.below HB1.out)
        simp only [World.size_alloc] at h1
        rw [nats_app, sp_size] at h1
        have HBY := Lib.hid h1
        clear h1 hw hb1 hb2 hb
        go_wp2_with fail
        refine (next_num s HNX.out (v := .agg #[.int .i64 0, .int .i64 0, .int .i64 0, .string ⟨#[]⟩]) (by rfl) _ _ _ HBY.out HE1.out.1 (by omega)).mono ?_
        rintro e w2 ⟨rfl, hb⟩
        have HB2 := Lib.hid (HB1.out.trans (hb.mono HB1.out.size))
        have HW2 := Lib.hid (HW1.out.here hb)
        have HE2 := Lib.hid (HE1.out.below hb)
        clear hb
        go_wp2_with fail
        have HT := Lib.hid (Whole.made w2 25 #[.int .i64 0, .int .i64 0, .int .i64 0, .string ⟨#[]⟩])
        refine (awake_any _ (HE2.out.below ((Below.refl _ _).alloc (Nat.le_refl _) _))).mono ?_
        rintro e w3 ⟨rfl, hb⟩
        have HB3 := Lib.hid ((HB2.out.alloc HB2.out.size (.cells #[.int .i64 0, .int .i64 0, .int .i64 0, .string ⟨#[]⟩] 25)).trans (hb.mono (HB2.out.alloc HB2.out.size (.cells #[.int .i64 0, .int .i64 0, .int .i64 0, .string ⟨#[]⟩] 25)).size))
        have rt := (HT.out.here hb).reads
        have lt := (HT.out.here hb).lt
        have rd := ((HW2.out.old (.cells #[.int .i64 0, .int .i64 0, .int .i64 0, .string ⟨#[]⟩] 25)).here hb).reads
        have ld := ((HW2.out.old (.cells #[.int .i64 0, .int .i64 0, .int .i64 0, .string ⟨#[]⟩] 25)).here hb).lt
        clear hb
        go_wp2_with fail
        go_ret
        exact ⟨rfl, HB3.out⟩
      · have HNX := Lib.hid (show nextI (natsOf s ++ [32]) 0 = (0, ⟨4, 0, 0, natsOf s⟩, (s.size : Int)) by rw [← HL.out]; exact next_reg0 HAL.out (nats_ne H0.out) (by unfold plainL; rw [HPE.out, if_neg (show ¬ (4 : Int) = 0 by decide), if_neg (show ¬ (4 : Int) ≠ 4 by decide), if_neg (by rw [HL.out]; omega)]) rfl)
        go_wp2_with fail
        refine HP.out.mono ?_
        rintro e w1 ⟨rfl, hb⟩
        have h1 := bytes_conv (w1.alloc (.cells #[.int .i64 M, .int .i64 S] 23)) (s ++ ⟨#[32]⟩) (by rw [sp_size]; omega)
        have hw := Whole.made w1 23 #[.int .i64 M, .int .i64 S]
        have hb1 := Joins.below_bytesWorld w.heap.size (w1.alloc (.cells #[.int .i64 M, .int .i64 S] 23)) 5 (s ++ ⟨#[32]⟩) (by have := hb.size; simp; omega)
        have hb2 := Joins.below_bytesWorld (w1.heap.size + 1) (w1.alloc (.cells #[.int .i64 M, .int .i64 S] 23)) 5 (s ++ ⟨#[32]⟩) (by simp)
        have HB1 := Lib.hid ((hb.alloc hb.size _).trans hb1)
        have HW1 := Lib.hid (hw.later hb2 (by omega))
        have HE1 := Lib.hid (HE.out.below HB1.out)
        simp only [World.size_alloc] at h1
        rw [nats_app, sp_size] at h1
        have HBY := Lib.hid h1
        clear h1 hw hb1 hb2 hb
        go_wp2_with fail
        refine (next_num s HNX.out (v := .agg #[.int .i64 4, .int .i64 0, .int .i64 0, .string s]) (by unfold tokV; rw [strB_nats]) _ _ _ HBY.out HE1.out.1 (by omega)).mono ?_
        rintro e w2 ⟨rfl, hb⟩
        have HB2 := Lib.hid (HB1.out.trans (hb.mono HB1.out.size))
        have HW2 := Lib.hid (HW1.out.here hb)
        have HE2 := Lib.hid (HE1.out.below hb)
        clear hb
        go_wp2_with fail
        have HT := Lib.hid (Whole.made w2 25 #[.int .i64 4, .int .i64 0, .int .i64 0, .string s])
        refine (awake_any _ (HE2.out.below ((Below.refl _ _).alloc (Nat.le_refl _) _))).mono ?_
        rintro e w3 ⟨rfl, hb⟩
        have HB3 := Lib.hid ((HB2.out.alloc HB2.out.size (.cells #[.int .i64 4, .int .i64 0, .int .i64 0, .string s] 25)).trans (hb.mono (HB2.out.alloc HB2.out.size (.cells #[.int .i64 4, .int .i64 0, .int .i64 0, .string s] 25)).size))
        have rt := (HT.out.here hb).reads
        have lt := (HT.out.here hb).lt
        have rd := ((HW2.out.old (.cells #[.int .i64 4, .int .i64 0, .int .i64 0, .string s] 25)).here hb).reads
        have ld := ((HW2.out.old (.cells #[.int .i64 4, .int .i64 0, .int .i64 0, .string s] 25)).here hb).lt
        clear hb
        go_wp2_with fail
        go_ret
        exact ⟨rfl, HB3.out⟩
end Go.Proofs.YtdiaijdobglaaaaDoor
