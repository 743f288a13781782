/- lex: printName, printText. -/
import Derived.Test.YtdiaijdobglaaaaGreatDoorLexBackM
import Derived.Test.YtdiaijdobglaaaaGreatDoorLexN
import Derived.Deep.RegionLaw
import Derived.Deep.AppendLies
namespace Go.Proofs.YtdiaijdobglaaaaGreatDoor
open Go.RowKit

/-- The numbers of a text's bytes. -/
def natsOf (s : ByteArray) : List Nat := s.data.toList.map UInt8.toNat
theorem strB_nats (s : ByteArray) : strB (natsOf s) = s := by
  apply ByteArray.ext
  show ((natsOf s).map UInt8.ofNat).toArray = s.data
  unfold natsOf
  rw [List.map_map]
  have : (UInt8.ofNat ∘ UInt8.toNat) = id := by funext b; simp
  rw [this, List.map_id]
theorem nats_len (s : ByteArray) : (natsOf s).length = s.size := by
  unfold natsOf
  rw [List.length_map]
  exact Array.length_toList
theorem nats_lt (s : ByteArray) : ∀ c ∈ natsOf s, c < 256 := fun c h => by
  obtain ⟨b, -, rfl⟩ := List.mem_map.1 h
  exact b.toNat_lt
theorem nats_at (s : ByteArray) {k : Nat} (h : k < s.size) : (natsOf s)[k]? = some s[k].toNat := by
  unfold natsOf
  rw [List.getElem?_map, List.getElem?_eq_getElem (by simpa using h)]
  rfl
theorem nats_str {t : List Nat} (h : ∀ c ∈ t, c < 256) : natsOf (strB t) = t := by
  show (t.map UInt8.ofNat).map UInt8.toNat = t
  rw [List.map_map]
  conv => rhs; rw [← List.map_id t]
  apply List.map_congr_left
  intro c hc
  have := h c hc
  simp only [Function.comp_apply, UInt8.toNat_ofNat', id]
  rw [Nat.mod_eq_of_lt (by omega)]
theorem strB_len (t : List Nat) : (strB t).size = t.length := by
  show ((t.map UInt8.ofNat).toArray).size = _
  simp
theorem take_at {l : List Nat} {k x : Nat} (h : l[k]? = some x) : l.take (k + 1) = l.take k ++ [x] := by
  obtain ⟨hi, e⟩ := List.getElem?_eq_some_iff.1 h
  rw [List.take_succ_eq_append_getElem hi, e]
theorem digIx (k : Nat) (hk : k < 16) (w : World) : (Instr.index 9 (.string ⟨#[48, 49, 50, 51, 52, 53, 54, 55, 56, 57, 97, 98, 99, 100, 101, 102]⟩) (.int .u8 (k : Int))).run Tryz.prog w = .ok (.int .u8 (dig16 k : Nat)) w := by
  rcases (by omega : k = 0 ∨ k = 1 ∨ k = 2 ∨ k = 3 ∨ k = 4 ∨ k = 5 ∨ k = 6 ∨ k = 7 ∨ k = 8 ∨ k = 9 ∨ k = 10 ∨ k = 11 ∨ k = 12 ∨ k = 13 ∨ k = 14 ∨ k = 15) with rfl | rfl | rfl | rfl | rfl | rfl | rfl | rfl | rfl | rfl | rfl | rfl | rfl | rfl | rfl | rfl <;> kernel_rfl
theorem own_stepd {B : Nat} {w wr w1 : World} {k : Nat} {a : Option Addr} {c : Nat} {xs : List Value} {o : Obj} {t : TypeId} (hown : wr.ownsRow B t 1 (.slice a k c) k xs) (hb : Below B w wr) (hB : B ≤ wr.heap.size)
    (hg : ((wr.alloc o).drew).grownBy w1 (Value.slice a k c).ownBlock) : Below B w w1 :=
  ((hb.alloc hB o).drew).grown hg (by simp; omega) (fun j e => (own_lt hown e).1)
theorem own_step1 {B : Nat} {w wr w1 : World} {k : Nat} {a : Option Addr} {c : Nat} {xs : List Value} {o : Obj} {t : TypeId} (hown : wr.ownsRow B t 1 (.slice a k c) k xs) (hb : Below B w wr) (hB : B ≤ wr.heap.size)
    (hg : (wr.alloc o).grownBy w1 (Value.slice a k c).ownBlock) : Below B w w1 :=
  (hb.alloc hB o).grown hg (by simp; omega) (fun j e => (own_lt hown e).1)
theorem dig_lt (v : Nat) (h : v < 16) : dig16 v < 256 := by unfold dig16; split <;> omega
theorem textE_lt {l : List Nat} (h : ∀ c ∈ l, c < 256) : ∀ b ∈ textE l, b < 256 := by
  intro b hb
  unfold textE at hb
  obtain ⟨c, hc, hb⟩ := List.mem_flatMap.1 hb
  have := h c hc
  simp only [List.mem_cons, List.not_mem_nil, or_false] at hb
  rcases hb with rfl | rfl
  · exact dig_lt _ (by omega)
  · exact dig_lt _ (by omega)
theorem nameE_lt {l : List Nat} (h : ∀ c ∈ l, c < 256) : ∀ b ∈ nameE l, b < 256 := by
  intro b hb
  unfold nameE at hb
  obtain ⟨c, hc, hb⟩ := List.mem_flatMap.1 hb
  have := h c hc
  unfold encN at hb
  split at hb
  · rw [List.mem_singleton.1 hb]; exact this
  · simp only [List.mem_cons, List.not_mem_nil, or_false] at hb
    rcases hb with rfl | rfl | rfl
    · decide
    · exact dig_lt _ (by omega)
    · exact dig_lt _ (by omega)
set_option maxRecDepth 100000 in
set_option maxHeartbeats 8000000 in
theorem printText_any (s : ByteArray) (w : World) (hs : s.size ≤ 1000000) :
    Calls Tryz.prog 23 #[.string s] w fun e w' => e = .returned (.string (strB (60 :: (textE (natsOf s) ++ [62])))) ∧ Below w.heap.size w w' := by
  obtain ⟨i0, hi, hz0, hz1, hz2⟩ := info_parts info8
  have H0 := Lib.hid (And.intro (own_lit w [60] (by decide)) ((Below.refl w.heap.size w).alloc (Nat.le_refl _) (.cells (bvs [60]).toArray 5)))
  go_enter Tryz.func23, Tryz.ntmps23
  go_wp2_with fail
  go_loopg [3, 8] s.size (fun g v x wr => ∃ k : Nat, g + k = s.size ∧ x = .int .i64 (k : Int) ∧ Hid (wr.ownsRow w.heap.size 5 1 v (2 * k + 1) (bvs (60 :: textE ((natsOf s).take k))) ∧ Below w.heap.size w wr))
  case atStart => exact ⟨0, by omega, rfl, Lib.hid ⟨by simpa [bvs, textE] using H0.out.1, by simpa [bvs] using H0.out.2⟩⟩
  case round =>
    obtain ⟨k, hgk, rfl, HS⟩ := hrel
    obtain ⟨a1, ck, rfl⟩ := own_slice HS.out.1
    have hszk := HS.out.2.size
    by_cases hk : k < s.size
    · have d1 : decide ((k : Int) < (s.size : Int)) = true := decide_eq_true (by omega)
      have d2 : decide (k < s.size) = true := decide_eq_true hk
      have hx9 := s[k].toNat_lt
      have i0' : (0 : Int) ≤ (k : Int) := by omega
      have i1' : (k : Int) < (s.size : Int) := by omega
      have HT := Lib.hid (show (60 :: textE ((natsOf s).take (k + 1))) = (60 :: textE ((natsOf s).take k)) ++ [dig16 (s[k].toNat / 16), dig16 (s[k].toNat % 16)] by rw [take_at (nats_at s hk), textE_snoc]; rfl)
      obtain ⟨x, hx⟩ : ∃ x, s[k].toNat = x := ⟨_, rfl⟩
      have i1 : ∀ W : World, (Instr.index 9 (.string ⟨#[48, 49, 50, 51, 52, 53, 54, 55, 56, 57, 97, 98, 99, 100, 101, 102]⟩) (.int .u8 (IntKind.u8.wrap ((s[k].toNat : Int) / 16)))).run Tryz.prog W = .ok (.int .u8 (dig16 (s[k].toNat / 16) : Nat)) W := fun W => by
        have := digIx (s[k].toNat / 16) (by omega) W
        rwa [show ((s[k].toNat / 16 : Nat) : Int) = IntKind.u8.wrap ((s[k].toNat : Int) / 16) from by show _ = _ % 256; omega] at this
      have i2 : ∀ W : World, (Instr.index 9 (.string ⟨#[48, 49, 50, 51, 52, 53, 54, 55, 56, 57, 97, 98, 99, 100, 101, 102]⟩) (.int .u8 ((s[k].toNat : Int).tmod 16))).run Tryz.prog W = .ok (.int .u8 (dig16 (s[k].toNat % 16) : Nat)) W := fun W => by
        have := digIx (s[k].toNat % 16) (by omega) W
        rwa [show ((s[k].toNat % 16 : Nat) : Int) = (s[k].toNat : Int).tmod 16 from by rw [Int.tmod_eq_emod_of_nonneg (by omega)]; omega] at this
      obtain ⟨y1, hy1⟩ : ∃ y, dig16 (s[k].toNat / 16) = y := ⟨_, rfl⟩
      obtain ⟨y2, hy2⟩ : ∃ y, dig16 (s[k].toNat % 16) = y := ⟨_, rfl⟩
      rw [hy1] at i1 HT
      rw [hy2] at i2 HT
      clear hy1 hy2 hx
      go_upto_region 5 with fail
      go_region_law? ((refine step_append_lies _ (by rfl) _ _ _ (by rfl) w.heap.size 5 i0 (.int .u8 0) 1 1 Tryz.underlying22 hi hz0 hz1 hz2 rfl (by omega) (.slice a1 (2 * k + 1) ck) (2 * k + 1) (bvs (60 :: textE ((natsOf s).take k))) (by rfl) ((HS.out.1.alloc _).drew) ⟨wr.heap.size, 0, none⟩ 2 2 [.int .u8 (y1 : Int), .int .u8 (y2 : Int)] (by rfl) (by rfl) (World.news_of_block (cs := #[.int .u8 (y1 : Int), .int .u8 (y2 : Int)]) (t := 5) (fr := (0, 0)) (heap_alloc_new wr _)) (by simp [Value.oneCell']) (by omega) (by unfold maxLen; omega) (by omega) (by simp; omega) (wr.heap.size + 1) (by simp) ?_; intro g1 cap1 w1 hown1 hgrow1 hat1 hlt1; have HG := Lib.hid (And.intro hown1 (own_stepd HS.out.1 HS.out.2 hszk hgrow1)); clear hown1 hgrow1 hat1 hlt1))
      all_goals
        go_wp2_with fail
        go_roundg (s.size - (k + 1))
        case measure => omega
        case rel => exact ⟨k + 1, by omega, by go_num, Lib.hid ⟨by rw [HT.out, bvs_append]; exact HG.out.1, HG.out.2⟩⟩
    · obtain rfl : k = s.size := by omega
      have d1 : decide ((s.size : Int) < (s.size : Int)) = false := by simp
      have d2 : decide (s.size < s.size) = false := by simp
      have HT := Lib.hid (show (natsOf s).take s.size = natsOf s from List.take_of_length_le (by rw [nats_len]; exact Nat.le_refl _))
      have HBY := Lib.hid (textE_lt (nats_lt s))
      have HLE := Lib.hid (textE_len (natsOf s))
      go_wp2_with (at_builtin; refine wpList_append_own _ rfl _ _ 22 rfl w.heap.size 5 i0 (.int .u8 0) 1 1 Tryz.underlying22 hi hz0 hz1 hz2 rfl (by decide) _ _ _ rfl (HS.out.1.alloc _) ⟨wr.heap.size, 0, none⟩ 1 1 [.int .u8 62] rfl rfl ?ca1 ?ca2 ?ca3 ?ca4 ?ca5 ?_)
      case ca1 => exact cell_one_new _ _ _
      case ca2 => simp [Value.oneCell']
      case ca3 => unfold maxLen; omega
      case ca4 => omega
      case ca5 => first | omega | (simp; omega)
      intro v' w9 hown' hgrow _
      obtain ⟨a2, c2, rfl⟩ := own_slice hown'
      have HB := Lib.hid (own_step1 HS.out.1 HS.out.2 hszk hgrow)
      rw [HT.out, show bvs (60 :: textE (natsOf s)) ++ [Value.int .u8 62] = bvs (60 :: (textE (natsOf s) ++ [62])) by simp [bvs]] at hown'
      have hob := own_bytes hown' (fun b hb => by
        rcases List.mem_cons.1 hb with rfl | hb
        · decide
        · rcases List.mem_append.1 hb with hb | hb
          · exact HBY.out b hb
          · rw [List.mem_singleton.1 hb]; decide)
      have hcv := hob.str
      clear hown' hgrow hob
      go_wp2_with fail
      go_ret
      exact ⟨rfl, HB.out⟩
set_option maxRecDepth 100000 in
set_option maxHeartbeats 8000000 in
theorem printName_any (s : ByteArray) (w : World) (hs : s.size ≤ 1000000) :
    Calls Tryz.prog 22 #[.string s] w fun e w' => e = .returned (.string (strB (47 :: nameE (natsOf s)))) ∧ Below w.heap.size w w' := by
  obtain ⟨i0, hi, hz0, hz1, hz2⟩ := info_parts info8
  have H0 := Lib.hid (And.intro (own_lit w [47] (by decide)) ((Below.refl w.heap.size w).alloc (Nat.le_refl _) (.cells (bvs [47]).toArray 5)))
  go_enter Tryz.func22, Tryz.ntmps22
  go_wp2_with fail
  go_loopg [3, 9] s.size (fun g v x wr => ∃ (k : Nat) (acc : List Nat), g + k = s.size ∧ x = .int .i64 (k : Int) ∧ acc.length ≤ 3 * k + 1 ∧ Hid (acc = 47 :: nameE ((natsOf s).take k)) ∧ Hid (wr.ownsRow w.heap.size 5 1 v acc.length (bvs acc) ∧ Below w.heap.size w wr))
  case atStart => exact ⟨0, [47], by omega, rfl, by simp, Lib.hid (by simp [nameE]), Lib.hid ⟨by simpa [bvs] using H0.out.1, by simpa [bvs] using H0.out.2⟩⟩
  case round =>
    obtain ⟨k, acc, hgk, rfl, hal, HA, HS⟩ := hrel
    obtain ⟨a1, ck, rfl⟩ := own_slice HS.out.1
    have hszk := HS.out.2.size
    by_cases hk : k < s.size
    · have d1 : decide ((k : Int) < (s.size : Int)) = true := decide_eq_true (by omega)
      have d2 : decide (k < s.size) = true := decide_eq_true hk
      have hx9 := s[k].toNat_lt
      have i0' : (0 : Int) ≤ (k : Int) := by omega
      have i1' : (k : Int) < (s.size : Int) := by omega
      have HT := Lib.hid (show (47 :: nameE ((natsOf s).take (k + 1))) = acc ++ encN s[k].toNat by rw [take_at (nats_at s hk), nameE_snoc, HA.out]; rfl)
      have HRG := Lib.hid (fun w => isRegular_any s[k].toNat w)
      have hself : selfB s[k].toNat = (rgB s[k].toNat && (s[k].toNat != 35 && (decide (33 ≤ s[k].toNat) && decide (s[k].toNat ≤ 126)))) := rfl
      cases hsf : selfB s[k].toNat
      · have HT2 := Lib.hid (show (47 :: nameE ((natsOf s).take (k + 1))) = acc ++ [35, dig16 (s[k].toNat / 16), dig16 (s[k].toNat % 16)] by rw [HT.out]; unfold encN; rw [if_neg (by rw [hsf]; decide)])
        have HSE := Lib.hid (hself.symm.trans hsf)
        clear hself hsf
        have i1 : ∀ W : World, (Instr.index 9 (.string ⟨#[48, 49, 50, 51, 52, 53, 54, 55, 56, 57, 97, 98, 99, 100, 101, 102]⟩) (.int .u8 (IntKind.u8.wrap ((s[k].toNat : Int) / 16)))).run Tryz.prog W = .ok (.int .u8 (dig16 (s[k].toNat / 16) : Nat)) W := fun W => by
          have := digIx (s[k].toNat / 16) (by omega) W
          rwa [show ((s[k].toNat / 16 : Nat) : Int) = IntKind.u8.wrap ((s[k].toNat : Int) / 16) from by show _ = _ % 256; omega] at this
        have i2 : ∀ W : World, (Instr.index 9 (.string ⟨#[48, 49, 50, 51, 52, 53, 54, 55, 56, 57, 97, 98, 99, 100, 101, 102]⟩) (.int .u8 ((s[k].toNat : Int).tmod 16))).run Tryz.prog W = .ok (.int .u8 (dig16 (s[k].toNat % 16) : Nat)) W := fun W => by
          have := digIx (s[k].toNat % 16) (by omega) W
          rwa [show ((s[k].toNat % 16 : Nat) : Int) = (s[k].toNat : Int).tmod 16 from by rw [Int.tmod_eq_emod_of_nonneg (by omega)]; omega] at this
        obtain ⟨y1, hy1⟩ : ∃ y, dig16 (s[k].toNat / 16) = y := ⟨_, rfl⟩
        obtain ⟨y2, hy2⟩ : ∃ y, dig16 (s[k].toNat % 16) = y := ⟨_, rfl⟩
        rw [hy1] at i1 HT2
        rw [hy2] at i2 HT2
        clear hy1 hy2 HT
        have key : (rgB s[k].toNat = false) ∨ (rgB s[k].toNat = true ∧ ((s[k].toNat : Int) != 35) = false ∧ ((s[k].toNat : Int) == 35) = true) ∨ (rgB s[k].toNat = true ∧ ((s[k].toNat : Int) != 35) = true ∧ ((s[k].toNat : Int) == 35) = false ∧ decide ((33 : Int) ≤ (s[k].toNat : Int)) = false) ∨ (rgB s[k].toNat = true ∧ ((s[k].toNat : Int) != 35) = true ∧ ((s[k].toNat : Int) == 35) = false ∧ decide ((33 : Int) ≤ (s[k].toNat : Int)) = true ∧ decide ((s[k].toNat : Int) ≤ 126) = false) := by
          have h := HSE.out
          cases hr : rgB s[k].toNat
          · exact .inl rfl
          · rw [hr, Bool.true_and] at h
            by_cases h35 : s[k].toNat = 35
            · exact .inr (.inl ⟨rfl, by simp; omega, by simp; omega⟩)
            · by_cases h33 : 33 ≤ s[k].toNat
              · refine .inr (.inr (.inr ⟨rfl, by simp; omega, by simp; omega, by simp; omega, ?_⟩))
                simp [h35, h33] at h
                simp
                omega
              · exact .inr (.inr (.inl ⟨rfl, by simp; omega, by simp; omega, by simp; omega⟩))
        rcases key with hr | ⟨hr, h1, h2⟩ | ⟨hr, h1, h2, h3⟩ | ⟨hr, h1, h2, h3, h4⟩
        all_goals
          have HRR := Lib.hid hr
          clear hr
          go_wp2_with fail
          refine (HRG.out _).mono ?_
          rw [HRR.out]
          rintro e w1 ⟨rfl, rfl⟩
          go_upto_region 8 with fail
          go_region_law? ((refine step_append_lies _ (by rfl) _ _ _ (by rfl) w.heap.size 5 i0 (.int .u8 0) 1 1 Tryz.underlying22 hi hz0 hz1 hz2 rfl (by omega) (.slice a1 acc.length ck) acc.length (bvs acc) (by rfl) ((HS.out.1.alloc _).drew) ⟨wr.heap.size, 0, none⟩ 3 3 [.int .u8 35, .int .u8 (y1 : Int), .int .u8 (y2 : Int)] (by rfl) (by rfl) (World.news_of_block (cs := #[.int .u8 35, .int .u8 (y1 : Int), .int .u8 (y2 : Int)]) (t := 5) (fr := (0, 0)) (heap_alloc_new wr _)) (by simp [Value.oneCell']) (by omega) (by unfold maxLen; omega) (by omega) (by simp; omega) (wr.heap.size + 1) (by simp) ?_; intro g1 cap1 w1 hown1 hgrow1 hat1 hlt1; have HG := Lib.hid (And.intro hown1 (own_stepd HS.out.1 HS.out.2 hszk hgrow1)); clear hown1 hgrow1 hat1 hlt1))
          all_goals
            go_wp2_with fail
            go_roundg (s.size - (k + 1))
            case measure => omega
            case rel => exact ⟨k + 1, acc ++ [35, y1, y2], by omega, by go_num, by rw [List.length_append]; simp; omega, Lib.hid HT2.out.symm, Lib.hid ⟨by rw [List.length_append, bvs_append]; exact HG.out.1, HG.out.2⟩⟩
      · have HT2 := Lib.hid (show (47 :: nameE ((natsOf s).take (k + 1))) = acc ++ [s[k].toNat] by rw [HT.out]; unfold encN; rw [if_pos hsf])
        obtain ⟨hr, h35, h33, h126⟩ := self_in hsf
        have HRR := Lib.hid hr
        have h1 : ((s[k].toNat : Int) != 35) = true := by simp; omega
        have h2 : ((s[k].toNat : Int) == 35) = false := by simp; omega
        have h3 : decide ((33 : Int) ≤ (s[k].toNat : Int)) = true := decide_eq_true (by omega)
        have h4 : decide ((s[k].toNat : Int) ≤ 126) = true := decide_eq_true (by omega)
        clear hself hsf hr h35 h33 h126 HT
        go_wp2_with fail
        refine (HRG.out _).mono ?_
        rw [HRR.out]
        rintro e w1 ⟨rfl, rfl⟩
        go_wp2_with (at_builtin; refine wpList_append_own _ rfl _ _ 22 rfl w.heap.size 5 i0 (.int .u8 0) 1 1 Tryz.underlying22 hi hz0 hz1 hz2 rfl (by decide) _ _ _ rfl (HS.out.1.alloc _) ⟨wr.heap.size, 0, none⟩ 1 1 [.int .u8 (s[k].toNat : Int)] rfl rfl ?ca1 ?ca2 ?ca3 ?ca4 ?ca5 ?_)
        case ca1 => exact cell_one_new _ _ _
        case ca2 => simp [Value.oneCell']
        case ca3 => unfold maxLen; omega
        case ca4 => omega
        case ca5 => first | omega | (simp; omega)
        intro v' w9 hown' hgrow _
        obtain ⟨a2, c2, rfl⟩ := own_slice hown'
        have HG := Lib.hid (And.intro hown' (own_step1 HS.out.1 HS.out.2 hszk hgrow))
        clear hown' hgrow
        go_wp2_with fail
        go_roundg (gk - 1)
        case measure => omega
        case rel => exact ⟨k + 1, acc ++ [s[k].toNat], by omega, by go_num, by rw [List.length_append]; simp; omega, Lib.hid HT2.out.symm, Lib.hid ⟨by rw [List.length_append, bvs_append]; exact HG.out.1, HG.out.2⟩⟩
    · obtain rfl : k = s.size := by omega
      have d1 : decide ((s.size : Int) < (s.size : Int)) = false := by simp
      have d2 : decide (s.size < s.size) = false := by simp
      have HT := Lib.hid (show acc = 47 :: nameE (natsOf s) by rw [HA.out, List.take_of_length_le (by rw [nats_len]; exact Nat.le_refl _)])
      have hob := own_bytes HS.out.1 (fun b hb => by
        rw [HT.out] at hb
        rcases List.mem_cons.1 hb with rfl | hb
        · decide
        · exact nameE_lt (nats_lt s) b hb)
      have hcv := hob.str
      clear hob
      go_wp2_with fail
      go_ret
      exact ⟨by rw [HT.out]; rfl, HS.out.2⟩
end Go.Proofs.YtdiaijdobglaaaaGreatDoor
