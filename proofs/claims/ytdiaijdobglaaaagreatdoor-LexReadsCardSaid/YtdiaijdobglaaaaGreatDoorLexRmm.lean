/- lex's reference: Own, skip, row, name, escape, text, hexa, whole, Next; the law LexReads, walked. -/
import Derived.Test.YtdiaijdobglaaaaGreatDoorLexRd
import Derived.Test.YtdiaijdobglaaaaGreatDoorLexT
import Derived.Laws.AppendOwnNone
namespace Go.Proofs.YtdiaijdobglaaaaGreatDoor
open Go.RowKit

theorem one_at (x : ByteArray) (k : Nat) (h : k < x.size) : x.extract k (k + 1) = strB [x[k].toNat] := by
  rw [← strB_nats (x.extract k (k + 1))]
  congr 1
  apply List.ext_getElem?
  intro i
  have hsz : (x.extract k (k + 1)).size = 1 := by rw [ByteArray.size_extract]; omega
  by_cases hi : i = 0
  · subst hi
    rw [nats_at (x.extract k (k + 1)) (by omega)]
    simp [ByteArray.getElem_extract]
  · rw [List.getElem?_eq_none (by rw [nats_len]; omega), List.getElem?_eq_none (by simp; omega)]
theorem cut_one (x : ByteArray) (k : Nat) (h : k < x.size) (w : World) : (Instr.sliceAt 9 (.string x) (some (.int .i64 (k : Int))) (some (.int .i64 ((k : Int) + 1))) none).run Tryz.prog w = .ok (.string (strB [x[k].toNat])) w := by
  rw [run_sliceAt_string (h := Tryz.underlying9), run_slice_string (h := Tryz.underlying9) (h0 := by omega) (h1 := by omega) (h2 := by omega), Int.toNat_natCast, show ((k : Int) + 1).toNat = k + 1 by omega, one_at x k h]
set_option maxRecDepth 100000 in
set_option maxHeartbeats 2000000 in
theorem own_ref (bs : List Nat) (n c : Nat) (A : Option Addr) (w : World) (h : Bytes w A n c bs) (hn : n ≤ 100000) :
    Calls Tryz.prog 5 #[.slice A n c] w fun e w' => ∃ A' c', e = .returned (.slice A' n c') ∧ Bytes w' A' n c' bs ∧ Below w.heap.size w w' := by
  have hl := h.len
  have hby := h.byte
  have H := Lib.hid h
  have HB := Lib.hid hby
  clear h hby
  go_enter Tryz.func5, Tryz.ntmps5
  go_wp2_with (refine wpList_app (o := ⟨some 6, _, _, _, _, _⟩) rfl (.tmp 4) (.tmp 5) rfl w.heap.size 0 n c (.slice none 0 0) [] bs A ?h1 ?h2 ?h3 ?h4 ?h5 ?h6 ?h7)
  case h1 => rfl
  case h2 => rfl
  case h3 => exact ⟨rfl, .inl ⟨rfl, rfl⟩⟩
  case h4 => exact H.out
  case h5 => omega
  case h6 => exact Nat.le_refl _
  intro v4 w4 hown4 hgrow4
  have hb4 : Below w.heap.size w w4 := (Below.refl _ _).grown hgrow4 (Nat.le_refl _) (fun j e => by cases e)
  have hown5 : w4.ownsRow w.heap.size 5 1 v4 n (bvs bs) := by simpa using hown4
  obtain ⟨A4, c4, rfl⟩ := own_slice hown5
  have hy4 := own_bytes hown5 (fun x hx => HB.out x hx)
  have H4 := Lib.hid (And.intro hy4 hb4)
  clear hown4 hgrow4 hy4 hb4 hown5
  go_wp2
  go_ret
  exact ⟨A4, c4, by simp, by simpa using H4.out.1, H4.out.2⟩
set_option maxRecDepth 100000 in
set_option maxHeartbeats 4000000 in
theorem skip_ref (A : Option Addr) (n c : Nat) (bs : List Nat) (k : Nat) (w : World) (h : Bytes w A n c bs) (hk : k ≤ n) (hn : n ≤ 1000) :
    Calls Tryz.prog 12 #[.slice A n c, .int .i64 (k : Int)] w fun e w' => ∃ k' : Nat, e = .returned (.int .i64 (k' : Int)) ∧ k ≤ k' ∧ k' ≤ n ∧ gapL (bs.drop k) = bs.drop k' ∧ Below w.heap.size w w' := by
  have hcap := h.cap
  have htop := h.top
  have H := Lib.hid h
  have HL := Lib.hid h.len
  clear h
  go_enter Tryz.func12, Tryz.ntmps12
  go_wp2_with fail
  go_loopw [1] (fun x wr => ∃ k' : Nat, k ≤ k' ∧ k' ≤ n ∧ x = .int .i64 (k' : Int) ∧ Hid (gapL (bs.drop k) = gapL (bs.drop k')) ∧ wr = w) (fun x _ => n - (intOf x).toNat)
  case atStart => exact ⟨k, by omega, hk, rfl, Lib.hid rfl, rfl⟩
  case round =>
    obtain ⟨k', h1, h2, rfl, HG, hww⟩ := hrel
    obtain rfl : w = wr := hww.symm
    by_cases hlt : k' < n
    · have d1 : decide ((k' : Int) < (n : Int)) = true := decide_eq_true (by omega)
      obtain ⟨R, o, rfl, hR, hcell⟩ := H.out.at_ (by omega)
      obtain ⟨x, hx⟩ : ∃ x, bs[k']? = some x := ⟨_, List.getElem?_eq_getElem (by rw [HL.out]; exact hlt)⟩
      have ck := hcell k' x hx
      have HC := Lib.hid hcell
      have HX := Lib.hid hx
      have hww := fun w => white_ref x w
      clear hcell hx
      cases hs : spB x
      · rw [hs] at hww
        have HW := Lib.hid hww
        clear hww
        by_cases h37 : x = 37
        · have t37 : ((x : Int) != 37) = false := by simp; omega
          have HX7 : bs[k']? = some 37 := by rw [HX.out, h37]
          have HE := Lib.hid (HG.out.trans ((gap_com HX7).trans (by rw [← com_go HX7 (by decide)])) : gapL (bs.drop k) = gapL (comL (bs.drop k')))
          subst h37
          go_wp2_with fail
          refine (HW.out _).mono ?_
          rintro e w1 ⟨rfl, rfl⟩
          go_wp2_with fail
          clear ck t37
          go_loopw [1] (fun y wx => ∃ k2 : Nat, k' ≤ k2 ∧ k2 ≤ n ∧ y = .int .i64 (k2 : Int) ∧ Hid (comL (bs.drop k') = comL (bs.drop k2)) ∧ wx = w) (fun y _ => n - (intOf y).toNat)
          case atStart => exact ⟨k', by omega, by omega, rfl, Lib.hid rfl, rfl⟩
          case round =>
            obtain ⟨k2, h3, h4, rfl, HM, hwx⟩ := hrel
            obtain rfl : w = wr := hwx.symm
            by_cases hlt2 : k2 < n
            · have d2 : decide ((k2 : Int) < (n : Int)) = true := decide_eq_true (by omega)
              obtain ⟨y, hy⟩ : ∃ x, bs[k2]? = some x := ⟨_, List.getElem?_eq_getElem (by rw [HL.out]; exact hlt2)⟩
              have ck2 := HC.out k2 y hy
              by_cases hnl : y = 10 ∨ y = 13
              · have HE2 := Lib.hid (HE.out.trans (by rw [HM.out, com_stop hy hnl]))
                have hne : k' < k2 := by
                  rcases (by omega : k' < k2 ∨ k2 = k') with h | h
                  · exact h
                  · exfalso; subst h; have := HX.out; rw [hy] at this; injection this; omega
                clear hy
                rcases hnl with rfl | rfl
                all_goals
                  go_wp2_with fail
                  go_roundw
                  case rel => exact ⟨k2, by omega, by omega, rfl, HE2, by trivial⟩
                  case measure => simp [intOf]; omega
              · have t10 : ((y : Int) != 10) = true := by simp; omega
                have t13 : ((y : Int) != 13) = true := by simp; omega
                have HE2 := Lib.hid (HM.out.trans (com_go hy hnl))
                clear hy hnl
                go_wp2_with fail
                go_roundw
                case rel => exact ⟨k2 + 1, by omega, by omega, by go_num, HE2, by trivial⟩
                case measure => simp [intOf]; omega
            · obtain rfl : k2 = n := by omega
              have d2 : decide ((k2 : Int) < (k2 : Int)) = false := by simp
              have HE2 := Lib.hid (HE.out.trans (by rw [HM.out, com_nil (by rw [List.length_drop, HL.out]; omega)]))
              go_wp2_with fail
              go_roundw
              case rel => exact ⟨k2, by omega, by omega, rfl, HE2, by trivial⟩
              case measure => simp [intOf]; omega
        · have t37 : ((x : Int) != 37) = true := by simp; omega
          have HE := Lib.hid (HG.out.trans (gap_stop HX.out hs h37))
          clear h37
          go_wp2_with fail
          refine (HW.out _).mono ?_
          rintro e w1 ⟨rfl, rfl⟩
          go_wp2_with fail
          go_ret
          exact ⟨k', rfl, h1, h2, HE.out, Below.refl _ _⟩
      · rw [hs] at hww
        have HW := Lib.hid hww
        have HE := Lib.hid (HG.out.trans (gap_sp HX.out hs))
        clear hww
        go_wp2_with fail
        refine (HW.out _).mono ?_
        rintro e w1 ⟨rfl, rfl⟩
        go_wp2_with fail
        go_roundw
        case rel => exact ⟨k' + 1, by omega, by omega, by go_num, HE, by trivial⟩
        case measure => simp [intOf]; omega
    · obtain rfl : k' = n := by omega
      have d1 : decide ((k' : Int) < (k' : Int)) = false := by simp
      have HE := Lib.hid (HG.out.trans (gap_nil (by rw [List.length_drop, HL.out]; omega)))
      go_wp2_with fail
      go_ret
      exact ⟨k', rfl, h1, h2, HE.out, Below.refl _ _⟩
theorem cut_str {w : World} {A : Option Addr} {n c : Nat} {bs : List Nat} (h : Bytes w A n c bs) (k k' : Nat) (hk : k ≤ k') (hn : k' ≤ n) (he : offL (bs.drop k) = bs.drop k') :
    (convert 22 9 (.slice (Option.map (fun x => x.add k) A) (k' - k) (c - k))).run Tryz.prog w = .ok (.string (strB (regL (bs.drop k)))) w := by
  rw [reg_of he.symm hk (by rw [h.len]; exact hn)]
  have hcap := h.cap
  refine (h.part k k' hk hn (A2 := Option.map (fun x => x.add k) A) (c2 := c - k) (fun _ B o e => ?_) (by omega) (by omega)).str
  subst e
  rw [Option.map_some]
  unfold Addr.add
  by_cases h0 : k = 0 <;> simp [h0]
theorem cut_str0 {w : World} {A : Option Addr} {n k : Nat} {bs : List Nat} (h : Bytes w A n k bs) (k' : Nat) (hk : k ≤ k') (hn : k' ≤ n) (he : offL (bs.drop k) = bs.drop k') :
    (convert 22 9 (.slice A (k' - k) 0)).run Tryz.prog w = .ok (.string (strB (regL (bs.drop k)))) w := by
  have hcap := h.cap
  rw [reg_of he.symm hk (by rw [h.len]; exact hn)]
  exact (h.part k k' hk hn (A2 := A) (c2 := 0) (fun h => by omega) (by omega) (by omega)).str
theorem cut_strS {w : World} {R o : Nat} {n c : Nat} {bs : List Nat} (h : Bytes w (some ⟨R, o, none⟩) n c bs) (k k' : Nat) (hk : k ≤ k') (hn : k' ≤ n) (he : offL (bs.drop k) = bs.drop k') :
    (convert 22 9 (.slice (some ⟨R, o + k, none⟩) (k' - k) (c - k))).run Tryz.prog w = .ok (.string (strB (regL (bs.drop k)))) w := by
  rw [reg_of he.symm hk (by rw [h.len]; exact hn)]
  have hcap := h.cap
  exact (h.part k k' hk hn (A2 := some ⟨R, o + k, none⟩) (c2 := c - k) (fun _ B o e => by injection e with e; injection e with e1 e2; subst e1 e2; rfl) (by omega) (by omega)).str
set_option maxRecDepth 100000 in
set_option maxHeartbeats 4000000 in
theorem row_ref (A : Option Addr) (n c : Nat) (bs : List Nat) (k : Nat) (w : World) (h : Bytes w A n c bs) (hk : k ≤ n) (hn : n ≤ 1000) :
    Calls Tryz.prog 16 #[.slice A n c, .int .i64 (k : Int)] w fun e w' => ∃ k' : Nat, e = .returned (.tuple #[.string (strB (regL (bs.drop k))), .int .i64 (k' : Int)]) ∧ k ≤ k' ∧ k' ≤ n ∧ offL (bs.drop k) = bs.drop k' ∧ Below w.heap.size w w' := by
  have hcap := h.cap
  have htop := h.top
  have H := Lib.hid h
  have HL := Lib.hid h.len
  clear h
  go_enter Tryz.func16, Tryz.ntmps16
  go_wp2_with fail
  go_loopw [6] (fun x wr => ∃ k' : Nat, k ≤ k' ∧ k' ≤ n ∧ x = .int .i64 (k' : Int) ∧ Hid (offL (bs.drop k) = offL (bs.drop k')) ∧ wr = w) (fun x _ => n - (intOf x).toNat)
  case atStart => exact ⟨k, by omega, hk, rfl, Lib.hid rfl, rfl⟩
  case round =>
    obtain ⟨k', h1, h2, rfl, HG, hww⟩ := hrel
    obtain rfl : w = wr := hww.symm
    by_cases hlt : k' < n
    · have d1 : decide ((k' : Int) < (n : Int)) = true := decide_eq_true (by omega)
      obtain ⟨R, o, rfl, hR, hcell⟩ := H.out.at_ (by omega)
      obtain ⟨x, hx⟩ : ∃ x, bs[k']? = some x := ⟨_, List.getElem?_eq_getElem (by rw [HL.out]; exact hlt)⟩
      have ck := hcell k' x hx
      have HX := Lib.hid hx
      have hww := fun w => other_ref x w
      clear hcell hx
      cases hs : rgB x
      · rw [hs] at hww
        have HW := Lib.hid hww
        have he := HG.out.trans (off_stop HX.out hs)
        by_cases hkc : k = c
        · subst hkc
          have hk1 : ((k : Int) == (k : Int)) = true := by simp
          have hcv := cut_str0 H.out k' h1 h2 he
          have HE := Lib.hid he
          clear hww he
          go_wp2_with fail
          refine (HW.out _).mono ?_
          rintro e w1 ⟨rfl, rfl⟩
          go_wp2_with fail
          go_ret2
          exact ⟨k', rfl, h1, h2, HE.out, Below.refl _ _⟩
        · have hk1 : ((k : Int) == (c : Int)) = false := by simp; omega
          have hk2 : (k : Int) < (c : Int) := by omega
          have hcv := cut_strS H.out k k' h1 h2 he
          have HE := Lib.hid he
          clear hww he hkc
          go_wp2_with fail
          refine (HW.out _).mono ?_
          rintro e w1 ⟨rfl, rfl⟩
          go_wp2_with fail
          go_ret2
          exact ⟨k', rfl, h1, h2, HE.out, Below.refl _ _⟩
      · rw [hs] at hww
        have HW := Lib.hid hww
        have HE := Lib.hid (HG.out.trans (off_go HX.out hs))
        clear hww
        go_wp2_with fail
        refine (HW.out _).mono ?_
        rintro e w1 ⟨rfl, rfl⟩
        go_wp2_with fail
        go_roundw
        case rel => exact ⟨k' + 1, by omega, by omega, by go_num, HE, by trivial⟩
        case measure => simp [intOf]; omega
    · obtain rfl : k' = n := by omega
      have d1 : decide ((k' : Int) < (k' : Int)) = false := by simp
      have he := HG.out.trans (off_nil (by rw [List.length_drop, HL.out]; omega))
      by_cases hkc : k = c
      · subst hkc
        have hk1 : ((k : Int) == (k : Int)) = true := by simp
        have hcv : (convert 22 9 (.slice A 0 0)).run Tryz.prog w = .ok (.string (strB (regL (bs.drop k)))) w := by
          have := cut_str0 H.out k' h1 h2 he
          rwa [show k' - k = 0 by omega] at this
        have HE := Lib.hid he
        clear he
        go_wp2_with fail
        go_ret2
        exact ⟨k', rfl, h1, h2, HE.out, Below.refl _ _⟩
      · have hk1 : ((k : Int) == (c : Int)) = false := by simp; omega
        have hk2 : (k : Int) < (c : Int) := by omega
        have hcv := cut_str H.out k k' h1 h2 he
        have HE := Lib.hid he
        clear he hkc
        go_wp2_with fail
        go_ret2
        exact ⟨k', rfl, h1, h2, HE.out, Below.refl _ _⟩
theorem hexI_some {c d : Nat} (h : hexD c = some d) : hexI c = (d : Int) := by unfold hexI; rw [h]
theorem hexI_none {c : Nat} (h : hexD c = none) : hexI c = -1 := by unfold hexI; rw [h]
theorem one_lit (w : World) (x : Nat) (hx : x < 256) : (convert 22 9 (.slice (some ⟨w.heap.size, 0, none⟩) 1 1)).run Tryz.prog (w.alloc (.cells #[.int .u8 (x : Int)] 5)) = .ok (.string (strB [x])) (w.alloc (.cells #[.int .u8 (x : Int)] 5)) := by
  have := (bytes_lit w [x] (by simpa using hx) (by simp)).str
  simpa [bvs] using this
/-- What name answers. -/
def NmAns (o : Option (List Nat)) (w : World) (e : Ending) (w' : World) : Prop :=
  e = .returned (.tuple #[.string (strB (o.getD [])), .bool o.isSome]) ∧ Below w.heap.size w w'
theorem nm_hex0 {l acc : List Nat} {k x y a b : Nat} (h : l[k]? = some 35) (h1 : l[k + 1]? = some x) (h2 : l[k + 2]? = some y) (ha : hexD x = some a) (hb : hexD y = some b) (h0 : 16 * a + b = 0) : nmL acc (l.drop k) = none := by
  rw [nm_hex h h1 h2 ha hb, if_pos h0]
theorem nm_hex1 {l acc : List Nat} {k x y a b n : Nat} (h : l[k]? = some 35) (h1 : l[k + 1]? = some x) (h2 : l[k + 2]? = some y) (ha : hexD x = some a) (hb : hexD y = some b) (hn : 16 * a + b = n) (h0 : n ≠ 0) : nmL acc (l.drop k) = nmL (acc ++ [n]) (l.drop (k + 3)) := by
  subst hn
  rw [nm_hex h h1 h2 ha hb, if_neg h0]
set_option maxRecDepth 100000 in
set_option maxHeartbeats 8000000 in
theorem rname_any (s : ByteArray) (w : World) (hs : s.size ≤ 1000) :
    Calls Tryz.prog 17 #[.string s] w (NmAns (nmL [] (natsOf s)) w) := by
  have HL := Lib.hid (nats_len s)
  go_enter Tryz.func17, Tryz.ntmps17
  go_wp2_with fail
  go_loopw [4, 5] (fun v i wr => ∃ (k : Nat) (acc : List Nat), k ≤ s.size ∧ i = .int .i64 (k : Int) ∧ v = .string (strB acc) ∧ acc.length ≤ k ∧ Hid (nmL [] (natsOf s) = nmL acc ((natsOf s).drop k)) ∧ Hid (Below w.heap.size w wr)) (fun _ i _ => s.size - (intOf i).toNat)
  case atStart => exact ⟨0, [], by omega, rfl, rfl, by simp, Lib.hid rfl, Lib.hid (Below.refl _ _)⟩
  case round =>
    obtain ⟨k, acc, hk, rfl, rfl, hal, HN, HB⟩ := hrel
    have hsz : (strB acc).size ≤ 5000 := by rw [strB_len]; omega
    by_cases hlt : k < s.size
    · have e2 : decide ((k : Int) < (s.size : Int)) = true := decide_eq_true (by omega)
      have e3 : decide (k < s.size) = true := decide_eq_true hlt
      have hx := nats_at s hlt
      by_cases h35 : s[k].toNat = 35
      · have z1 : ((s[k].toNat : Int) != 35) = false := by simp; omega
        have z2 : ((s[k].toNat : Int) == 35) = true := by simp; omega
        rw [h35] at hx
        have HX := Lib.hid hx
        clear hx
        by_cases h2 : k + 2 < s.size
        · have i1 : k + 1 < s.size := by omega
          have i2 : k + 2 < s.size := h2
          have e4 : decide ((s.size : Int) ≤ (k : Int) + 2) = false := decide_eq_false (by omega)
          have e5 : decide (s.size ≤ k + 2) = false := decide_eq_false (by omega)
          have X1 := Lib.hid (nats_at s i1)
          have X2 := Lib.hid (nats_at s i2)
          have w1 : IntKind.i64.wrap ((k : Int) + 1) = ((k + 1 : Nat) : Int) := by rw [show (k : Int) + 1 = ((k + 1 : Nat) : Int) by omega, IntKind.wrap_i64]; omega
          have w2 : IntKind.i64.wrap ((k : Int) + 2) = ((k + 2 : Nat) : Int) := by rw [show (k : Int) + 2 = ((k + 2 : Nat) : Int) by omega, IntKind.wrap_i64]; omega
          have hx1 := s[k + 1].toNat_lt
          have hx2 := s[k + 2].toNat_lt
          cases h1d : hexD s[k + 1].toNat with
          | none =>
            have HE := Lib.hid (HN.out.trans (nm_bad HX.out (.inr ⟨_, _, X1.out, X2.out, .inl h1d⟩)))
            have D1 := Lib.hid (fun w => digit_ref s[k + 1].toNat w hx1)
            rw [hexI_none h1d] at D1
            clear h1d
            go_wp2_with fail
            refine (D1.out _).mono ?_
            rintro e w3 ⟨rfl, rfl⟩
            go_wp2_with fail
            go_ret2
            rw [HE.out]
            exact ⟨rfl, HB.out⟩
          | some a =>
            have D1 := Lib.hid (fun w => digit_ref s[k + 1].toNat w hx1)
            rw [hexI_some h1d] at D1
            have ha := hexD_lt h1d
            cases h2d : hexD s[k + 2].toNat with
            | none =>
              have HE := Lib.hid (HN.out.trans (nm_bad HX.out (.inr ⟨_, _, X1.out, X2.out, .inr h2d⟩)))
              have D2 := Lib.hid (fun w => digit_ref s[k + 2].toNat w hx2)
              rw [hexI_none h2d] at D2
              clear h1d h2d
              go_wp2_with fail
              refine (D1.out _).mono ?_
              rintro e w3 ⟨rfl, rfl⟩
              go_wp2_with fail
              refine (D2.out _).mono ?_
              rintro e w3 ⟨rfl, rfl⟩
              go_wp2_with fail
              go_ret2
              rw [HE.out]
              exact ⟨rfl, HB.out⟩
            | some b =>
              have D2 := Lib.hid (fun w => digit_ref s[k + 2].toNat w hx2)
              rw [hexI_some h2d] at D2
              have hb := hexD_lt h2d
              obtain ⟨m, hm⟩ : ∃ m, 16 * a + b = m := ⟨_, rfl⟩
              have hm9 : m < 256 := by omega
              have v1 : IntKind.i64.wrap (16 * (a : Int)) = 16 * (a : Int) := by rw [IntKind.wrap_i64]; omega
              have v2 : IntKind.i64.wrap (16 * (a : Int) + (b : Int)) = (m : Int) := by rw [show 16 * (a : Int) + (b : Int) = (m : Int) by omega, IntKind.wrap_i64]; omega
              have v3 : IntKind.u8.wrap (m : Int) = (m : Int) := by show _ % 256 = _; omega
              by_cases h0 : m = 0
              · have HE := Lib.hid (HN.out.trans (nm_hex0 HX.out X1.out X2.out h1d h2d (hm.trans h0)))
                have z0 : ((m : Int) == 0) = true := by simp; omega
                clear h1d h2d hm h0
                go_wp2_with fail
                refine (D1.out _).mono ?_
                rintro e w3 ⟨rfl, rfl⟩
                go_wp2_with fail
                refine (D2.out _).mono ?_
                rintro e w3 ⟨rfl, rfl⟩
                go_wp2_with fail
                go_quiet ((first | (go_at_call 39; with_reducible exact quiet_same (D1.out _)) | (go_at_call 39; with_reducible exact quiet_same (D2.out _))))
                go_wp2_with fail
                go_ret2
                rw [HE.out]
                exact ⟨rfl, below_drewN HB.out _⟩
              · have HE := Lib.hid (HN.out.trans (nm_hex1 HX.out X1.out X2.out h1d h2d hm h0))
                have z0 : ((m : Int) == 0) = false := by simp; omega
                have cv : ∀ j, (convert 22 9 (.slice (some ⟨wr.heap.size, 0, none⟩) 1 1)).run Tryz.prog ((wr.drewN j).alloc (.cells #[.int .u8 (m : Int)] 5)) = .ok (.string (strB [m])) ((wr.drewN j).alloc (.cells #[.int .u8 (m : Int)] 5)) := fun j => one_lit (wr.drewN j) m hm9
                have hs1 : (strB [m]).size = 1 := strB_len _
                have HC := Lib.hid (strB_cat acc [m])
                clear h1d h2d hm h0
                go_wp2_with fail
                refine (D1.out _).mono ?_
                rintro e w3 ⟨rfl, rfl⟩
                go_wp2_with fail
                refine (D2.out _).mono ?_
                rintro e w3 ⟨rfl, rfl⟩
                go_wp2_with fail
                go_quiet ((first | (go_at_call 39; with_reducible exact quiet_same (D1.out _)) | (go_at_call 39; with_reducible exact quiet_same (D2.out _))))
                go_wp2_with fail
                go_roundw
                case rel => exact ⟨k + 3, acc ++ [m], by omega, by go_num, by rw [← HC.out], by simp; omega, HE, Lib.hid ((below_drewN HB.out _).alloc HB.out.size _)⟩
                case measure => simp [intOf]; omega
        · have HE := Lib.hid (HN.out.trans (nm_bad HX.out (.inl (by rw [HL.out]; omega))))
          have e4 : decide ((s.size : Int) ≤ (k : Int) + 2) = true := decide_eq_true (by omega)
          have e5 : decide (s.size ≤ k + 2) = true := decide_eq_true (by omega)
          go_wp2_with fail
          go_ret2
          rw [HE.out]
          exact ⟨rfl, HB.out⟩
      · have z1 : ((s[k].toNat : Int) != 35) = true := by simp; omega
        have z2 : ((s[k].toNat : Int) == 35) = false := by simp; omega
        have hc1 := cut_one s k hlt
        have hs1 : (strB [s[k].toNat]).size = 1 := strB_len _
        have HC := Lib.hid (strB_cat acc [s[k].toNat])
        have HE := Lib.hid (HN.out.trans (nm_plain hx h35))
        clear hx h35
        go_wp2_with fail
        go_roundw
        case rel => exact ⟨k + 1, acc ++ [s[k].toNat], by omega, by go_num, by rw [← HC.out], by simp; omega, HE, HB⟩
        case measure => simp [intOf]; omega
    · obtain rfl : k = s.size := by omega
      have e2 : decide ((s.size : Int) < (s.size : Int)) = false := by simp
      have e3 : decide (s.size < s.size) = false := by simp
      have HE := Lib.hid (HN.out.trans (nm_end (by rw [HL.out]; exact Nat.le_refl _)))
      go_wp2_with fail
      go_ret2
      rw [HE.out]
      exact ⟨rfl, HB.out⟩
/-- The value of octal digits. -/
def octV (l : List Nat) : Nat → Nat
  | 0 => 0
  | j + 1 => 8 * octV l j + (hd (l.drop j) - 48)
theorem octV_lt (l : List Nat) : ∀ j, (∀ t, t < j → octB (hd (l.drop t)) = true) → octV l j < 8 ^ j
  | 0, _ => by simp [octV]
  | j + 1, h => by
    have h1 := octV_lt l j (fun t ht => h t (by omega))
    have h2 := oct_in (h j (by omega))
    unfold octV
    rw [Nat.pow_succ]
    omega
theorem oct_stop {l : List Nat} {j : Nat} (h1 : 1 ≤ j) (h3 : j ≤ 3) (ha : ∀ t, t < j → octB (hd (l.drop t)) = true) (hs : j = 3 ∨ octB (hd (l.drop j)) = false) : octL l = ([octV l j % 256], l.drop j) := by
  have h0 := oct_in (ha 0 (by omega))
  rw [List.drop_zero] at h0
  unfold octL
  rcases (by omega : j = 1 ∨ j = 2 ∨ j = 3) with rfl | rfl | rfl
  · rw [if_neg (by rcases hs with h | h; · omega
                   · rw [h]; decide)]
    simp only [octV, List.drop_zero]
    congr 2
    omega
  · have h2 := oct_in (ha 1 (by omega))
    rw [if_pos (ha 1 (by omega)), if_neg (by rcases hs with h | h; · omega
                                             · rw [h]; decide)]
    simp only [octV, List.drop_zero]
    congr 2
    omega
  · rw [if_pos (ha 1 (by omega)), if_pos (ha 2 (by omega))]
    simp only [octV, List.drop_zero]
    congr 3
    omega
def fromL : List Nat := [110, 114, 116, 98, 102]
theorem from_to (j : Nat) (hj : j < 5) : ∃ f t : Nat, (∀ w, (Instr.index 9 (.string ⟨#[110, 114, 116, 98, 102]⟩) (.int .i64 (j : Int))).run Tryz.prog w = .ok (.int .u8 (f : Int)) w) ∧
    (∀ w, (Instr.sliceAt 9 (.string ⟨#[10, 13, 9, 8, 12]⟩) (some (.int .i64 (j : Int))) (some (.int .i64 ((j : Int) + 1))) none).run Tryz.prog w = .ok (.string (strB [t])) w) ∧ escB f = some t ∧ fromL[j]? = some f := by
  rcases (by omega : j = 0 ∨ j = 1 ∨ j = 2 ∨ j = 3 ∨ j = 4) with rfl | rfl | rfl | rfl | rfl
  · exact ⟨110, 10, fun w => by kernel_rfl, fun w => by kernel_rfl, rfl, rfl⟩
  · exact ⟨114, 13, fun w => by kernel_rfl, fun w => by kernel_rfl, rfl, rfl⟩
  · exact ⟨116, 9, fun w => by kernel_rfl, fun w => by kernel_rfl, rfl, rfl⟩
  · exact ⟨98, 8, fun w => by kernel_rfl, fun w => by kernel_rfl, rfl, rfl⟩
  · exact ⟨102, 12, fun w => by kernel_rfl, fun w => by kernel_rfl, rfl, rfl⟩
theorem esc_none {x : Nat} (h : ∀ t f, t < 5 → fromL[t]? = some f → x ≠ f) : escB x = none := by
  have h0 := h 0 110 (by omega) rfl
  have h1 := h 1 114 (by omega) rfl
  have h2 := h 2 116 (by omega) rfl
  have h3 := h 3 98 (by omega) rfl
  have h4 := h 4 102 (by omega) rfl
  unfold escB
  rw [if_neg h0, if_neg h1, if_neg h2, if_neg h3, if_neg h4]
/-- What escape answers. -/
def EsAns (o : List Nat × List Nat) (bs : List Nat) (n k : Nat) (w : World) (e : Ending) (w' : World) : Prop :=
  ∃ k' : Nat, e = .returned (.tuple #[.string (strB o.1), .int .i64 (k' : Int)]) ∧ k < k' ∧ k' ≤ n ∧ o.2 = bs.drop k' ∧ o.1.length ≤ 1 ∧ Below w.heap.size w w'
theorem EsAns.mk' {o : List Nat × List Nat} {bs t : List Nat} {n k : Nat} (k' : Nat) {v : Int} {w w' : World} (ho : o = (t, bs.drop k')) (hv : v = (k' : Int)) (h1 : k < k') (h2 : k' ≤ n) (ht : t.length ≤ 1) (hb : Below w.heap.size w w') : EsAns o bs n k w (.returned (.tuple #[.string (strB t), .int .i64 v])) w' := by
  subst ho hv
  exact ⟨k', rfl, h1, h2, rfl, ht, hb⟩
theorem skN_yes {bs : List Nat} {k : Nat} (h : bs[k]? = some 10) : skN (bs.drop k) = bs.drop (k + 1) := by
  unfold skN
  rw [hd_at h, if_pos rfl, List.drop_drop]
theorem skN_no {bs : List Nat} {k : Nat} (h : ∀ y, bs[k]? = some y → y ≠ 10) : skN (bs.drop k) = bs.drop k := by
  unfold skN
  rw [if_neg]
  cases hy : bs[k]? with
  | none => rw [hd_none (by simpa using hy)]; decide
  | some y => rw [hd_at hy]; exact h y hy
theorem esc_at {bs : List Nat} {k x : Nat} (h : bs[k]? = some x) (hn : escB x = none) : escL (bs.drop k) = if x = 10 then ([], bs.drop (k + 1)) else if x = 13 then ([], skN (bs.drop (k + 1))) else if octB x = true then octL (bs.drop k) else ([x], bs.drop (k + 1)) := by
  rw [drop_at h, esc_cons, hn]
theorem esc_from {bs : List Nat} {k x y : Nat} (h : bs[k]? = some x) (hn : escB x = some y) : escL (bs.drop k) = ([y], bs.drop (k + 1)) := by
  rw [drop_at h, esc_cons, hn]
set_option maxRecDepth 100000 in
set_option maxHeartbeats 8000000 in
theorem resc_any (A : Option Addr) (n c : Nat) (bs : List Nat) (k : Nat) (w : World) (h : Bytes w A n c bs) (hk : k < n) (hn : n ≤ 1000) :
    Calls Tryz.prog 40 #[.slice A n c, .int .i64 (k : Int)] w (EsAns (escL (bs.drop k)) bs n k w) := by
  have hcap := h.cap
  have htop := h.top
  have HL := Lib.hid h.len
  obtain ⟨R, o, rfl, hR, hcell⟩ := h.at_ (by omega)
  obtain ⟨x, hx⟩ : ∃ x, bs[k]? = some x := ⟨_, List.getElem?_eq_getElem (by rw [HL.out]; exact hk)⟩
  have hx9 := h.byte x (List.mem_of_getElem? hx)
  have ck := hcell k x hx
  have HC := Lib.hid hcell
  have HX := Lib.hid hx
  have HBY := Lib.hid h.byte
  clear h hcell hx
  go_enter Tryz.func40, Tryz.ntmps40
  go_wp2_with fail
  go_loopw [9] (fun i wr => ∃ j : Nat, j ≤ 5 ∧ i = .int .i64 (j : Int) ∧ Hid (∀ t f, t < j → fromL[t]? = some f → x ≠ f) ∧ wr = w) (fun i _ => 5 - (intOf i).toNat)
  case atStart => exact ⟨0, by omega, rfl, Lib.hid (fun t f ht => by omega), rfl⟩
  case round =>
    obtain ⟨j, hj, rfl, HJ, hww⟩ := hrel
    obtain rfl : w = wr := hww.symm
    by_cases hlt : j < 5
    · have e1 : decide ((j : Int) < 5) = true := decide_eq_true (by omega)
      obtain ⟨f, t, q1, q2, q3, q4⟩ := from_to j hlt
      by_cases hf : x = f
      · subst hf
        have HE := Lib.hid (esc_from HX.out q3)
        clear q3 q4
        go_wp2_with fail
        go_ret2
        exact EsAns.mk' (k + 1) HE.out (by omega) (by omega) (by omega) (by simp) (Below.refl _ _)
      · have e2 : ((x : Int) == (f : Int)) = false := by simp; omega
        have HF := Lib.hid (And.intro q4 hf)
        clear q3 q4 hf
        go_wp2_with fail
        go_roundw
        case rel => exact ⟨j + 1, by omega, by go_num, Lib.hid (fun t' f' ht' hf' => by
          by_cases e : t' = j
          · subst e; rw [HF.out.1] at hf'; injection hf' with hf'; subst hf'; exact HF.out.2
          · exact HJ.out t' f' (by omega) hf'), by trivial⟩
        case measure => simp [intOf]; omega
    · obtain rfl : j = 5 := by omega
      have hnone := esc_none HJ.out
      have HE := Lib.hid (esc_at HX.out hnone)
      clear hnone
      clear HJ
      by_cases e13 : x = 13
      · subst e13
        by_cases h2 : k + 1 < n
        · have d1 : decide ((k : Int) + 1 < (n : Int)) = true := decide_eq_true (by omega)
          obtain ⟨y, hy⟩ : ∃ x, bs[k + 1]? = some x := ⟨_, List.getElem?_eq_getElem (by rw [HL.out]; exact h2)⟩
          have ck2 := HC.out (k + 1) y hy
          by_cases h10 : y = 10
          · subst h10
            have HE2 := Lib.hid (show escL (bs.drop k) = ([], bs.drop (k + 2)) by rw [HE.out, if_neg (by omega), if_pos rfl, skN_yes hy])
            clear hy
            go_wp2_with fail
            go_ret2
            exact EsAns.mk' (k + 2) (t := []) HE2.out (by omega) (by omega) (by omega) (by simp) (Below.refl _ _)
          · have HE2 := Lib.hid (show escL (bs.drop k) = ([], bs.drop (k + 1)) by rw [HE.out, if_neg (by omega), if_pos rfl, skN_no (fun z hz => by rw [hy] at hz; injection hz with hz; omega)])
            have e10 : ((y : Int) == 10) = false := by simp; omega
            clear hy h10
            go_wp2_with fail
            go_ret2
            exact EsAns.mk' (k + 1) (t := []) HE2.out (by omega) (by omega) (by omega) (by simp) (Below.refl _ _)
        · have d1 : decide ((k : Int) + 1 < (n : Int)) = false := decide_eq_false (by omega)
          have HE2 := Lib.hid (show escL (bs.drop k) = ([], bs.drop (k + 1)) by rw [HE.out, if_neg (by omega), if_pos rfl, skN_no (fun z hz => by have := (List.getElem?_eq_some_iff.1 hz).1; rw [HL.out] at this; omega)])
          go_wp2_with fail
          go_ret2
          exact EsAns.mk' (k + 1) (t := []) HE2.out (by omega) (by omega) (by omega) (by simp) (Below.refl _ _)
      · have t13 : ((x : Int) == 13) = false := by simp; omega
        by_cases e10 : x = 10
        · subst e10
          have HE2 := Lib.hid (HE.out.trans (if_pos rfl))
          go_wp2_with fail
          go_ret2
          exact EsAns.mk' (k + 1) (t := []) HE2.out (by omega) (by omega) (by omega) (by simp) (Below.refl _ _)
        · have t10 : ((x : Int) == 10) = false := by simp; omega
          have HE2 := Lib.hid (HE.out.trans ((if_neg e10).trans (if_neg e13)))
          clear e13 e10
          by_cases h48 : x < 48
          · have d1 : decide ((x : Int) < 48) = true := decide_eq_true (by omega)
            have HE3 := Lib.hid (HE2.out.trans (if_neg (by unfold octB; simp; omega)))
            have cv := one_lit w x hx9
            go_wp2_with fail
            go_ret2
            exact EsAns.mk' (k + 1) (t := [x]) HE3.out (by omega) (by omega) (by omega) (by simp) ((Below.refl _ _).alloc (Nat.le_refl _) _)
          · have d1 : decide ((x : Int) < 48) = false := decide_eq_false (by omega)
            by_cases h55 : 55 < x
            · have d2 : decide ((55 : Int) < (x : Int)) = true := decide_eq_true (by omega)
              have HE3 := Lib.hid (HE2.out.trans (if_neg (by unfold octB; simp; omega)))
              have cv := one_lit w x hx9
              go_wp2_with fail
              go_ret2
              exact EsAns.mk' (k + 1) (t := [x]) HE3.out (by omega) (by omega) (by omega) (by simp) ((Below.refl _ _).alloc (Nat.le_refl _) _)
            · have d2 : decide ((55 : Int) < (x : Int)) = false := decide_eq_false (by omega)
              have HE3 := Lib.hid (HE2.out.trans (if_pos (by unfold octB; simp; omega)))
              have hoct : octB x = true := by unfold octB; simp; omega
              have HO := Lib.hid hoct
              clear hoct HE HE2
              go_wp2_with fail
              go_loopw [10, 11] (fun nv kv wr => ∃ j N : Nat, j ≤ 3 ∧ k + j ≤ n ∧ N < 512 ∧ nv = .int .i64 (N : Int) ∧ kv = .int .i64 (j : Int) ∧ Hid (octV (bs.drop k) j = N) ∧ Hid (∀ t, t < j → octB (hd ((bs.drop k).drop t)) = true) ∧ wr = w) (fun _ kv _ => 3 - (intOf kv).toNat)
              case atStart => exact ⟨0, 0, by omega, by omega, by omega, rfl, rfl, Lib.hid rfl, Lib.hid (fun t ht => by omega), rfl⟩
              case round =>
                obtain ⟨j, N, hj3, hjn, hN, rfl, rfl, HV, HA, hww⟩ := hrel
                obtain rfl : w = wr := hww.symm
                have hyd : ∀ y, bs[k + j]? = some y → hd ((bs.drop k).drop j) = y := fun y hy => by rw [List.drop_drop]; exact hd_at hy
                by_cases hj : j < 3
                · have f1 : decide ((j : Int) < 3) = true := decide_eq_true (by omega)
                  by_cases h2 : k + j < n
                  · have f2 : decide ((k : Int) + (j : Int) < (n : Int)) = true := decide_eq_true (by omega)
                    obtain ⟨y, hy⟩ : ∃ x, bs[k + j]? = some x := ⟨_, List.getElem?_eq_getElem (by rw [HL.out]; exact h2)⟩
                    have hy9 := HBY.out y (List.mem_of_getElem? hy)
                    have ck2 := HC.out (k + j) y hy
                    have hyy := hyd y hy
                    have i0 : (0 : Int) ≤ (k : Int) + (j : Int) := by omega
                    have i1 : (k : Int) + (j : Int) < (n : Int) := by omega
                    have i2 : ((k : Int) + (j : Int)).toNat = k + j := by omega
                    have HJ1 := Lib.hid (show octB y = true ∨ 0 < j from by
                      rcases Nat.eq_zero_or_pos j with h0 | h0
                      · left
                        subst h0
                        have := HX.out
                        rw [Nat.add_zero, this] at hy
                        injection hy with hy
                        rw [← hy]
                        exact HO.out
                      · exact .inr h0)
                    cases hob : octB y
                    · have HJ1 := Lib.hid (show 0 < j from by
                        rcases HJ1.out with h | h
                        · rw [hob] at h; cases h
                        · exact h)
                      have HS := Lib.hid (show octB (hd ((bs.drop k).drop j)) = false by rw [hyy]; exact hob)
                      clear hyd hyy hy
                      by_cases h48 : y < 48
                      · have g1 : decide ((48 : Int) ≤ (y : Int)) = false := decide_eq_false (by omega)
                        clear hob
                        have HZ := Lib.hid (HE3.out.trans (oct_stop (l := bs.drop k) (j := j) (by have := HJ1.out; omega) hj3 HA.out (.inr HS.out)))
                        have hmm : N % 256 < 256 := Nat.mod_lt _ (by omega)
                        obtain ⟨m, hm⟩ : ∃ m, N % 256 = m := ⟨_, rfl⟩
                        rw [HV.out, hm, List.drop_drop] at HZ
                        have hmw : IntKind.u8.wrap ((N : Int) % 256) = (m : Int) := by show _ % 256 = _; omega
                        rw [hm] at hmm
                        have cv := one_lit w m hmm
                        clear hm
                        go_wp2_with fail
                        go_ret2
                        exact EsAns.mk' (k + j) (t := [m]) HZ.out (by omega) (by have := HJ1.out; omega) (by omega) (by simp) ((Below.refl _ _).alloc (Nat.le_refl _) _)
                      · have h55 : 55 < y := by unfold octB at hob; simp at hob; omega
                        have g1 : decide ((48 : Int) ≤ (y : Int)) = true := decide_eq_true (by omega)
                        have g2 : decide ((y : Int) ≤ 55) = false := decide_eq_false (by omega)
                        clear hob
                        have HZ := Lib.hid (HE3.out.trans (oct_stop (l := bs.drop k) (j := j) (by have := HJ1.out; omega) hj3 HA.out (.inr HS.out)))
                        have hmm : N % 256 < 256 := Nat.mod_lt _ (by omega)
                        obtain ⟨m, hm⟩ : ∃ m, N % 256 = m := ⟨_, rfl⟩
                        rw [HV.out, hm, List.drop_drop] at HZ
                        have hmw : IntKind.u8.wrap ((N : Int) % 256) = (m : Int) := by show _ % 256 = _; omega
                        rw [hm] at hmm
                        have cv := one_lit w m hmm
                        clear hm
                        go_wp2_with fail
                        go_ret2
                        exact EsAns.mk' (k + j) (t := [m]) HZ.out (by omega) (by have := HJ1.out; omega) (by omega) (by simp) ((Below.refl _ _).alloc (Nat.le_refl _) _)
                    · obtain ⟨q1, q2⟩ := oct_in hob
                      have g1 : decide ((48 : Int) ≤ (y : Int)) = true := decide_eq_true (by omega)
                      have g2 : decide ((y : Int) ≤ 55) = true := decide_eq_true (by omega)
                      have g3 : IntKind.u8.wrap ((y : Int) - 48) = (y : Int) - 48 := by show _ % 256 = _; omega
                      obtain ⟨M, hM⟩ : ∃ M, 8 * N + (y - 48) = M := ⟨_, rfl⟩
                      have HV2 := Lib.hid (show octV (bs.drop k) (j + 1) = M by rw [octV, HV.out, hyy]; exact hM)
                      have HA2 := Lib.hid (show ∀ t, t < j + 1 → octB (hd ((bs.drop k).drop t)) = true from fun t ht => by
                        by_cases e : t = j
                        · subst e; rw [hyy]; exact hob
                        · exact HA.out t (by omega))
                      have hM5 : M < 512 := by
                        have h1 := octV_lt (bs.drop k) (j + 1) HA2.out
                        rw [HV2.out] at h1
                        have h2 : 8 ^ (j + 1) ≤ 8 ^ 3 := Nat.pow_le_pow_right (by omega) (by omega)
                        omega
                      have g4 : IntKind.i64.wrap (8 * (N : Int)) = 8 * (N : Int) := by rw [IntKind.wrap_i64]; omega
                      have g5 : IntKind.i64.wrap (8 * (N : Int) + ((y : Int) - 48)) = (M : Int) := by rw [show 8 * (N : Int) + ((y : Int) - 48) = (M : Int) by omega, IntKind.wrap_i64]; omega
                      clear hyd hyy hy hob hM HJ1
                      go_wp2_with fail
                      go_roundw
                      case rel => exact ⟨j + 1, M, by omega, by omega, by omega, rfl, by go_num, HV2, HA2, by trivial⟩
                      case measure => simp [intOf]; omega
                  · have f2 : decide ((k : Int) + (j : Int) < (n : Int)) = false := decide_eq_false (by omega)
                    have HJ1 := Lib.hid (show 0 < j by omega)
                    have HS := Lib.hid (show octB (hd ((bs.drop k).drop j)) = false by rw [List.drop_drop, hd_none (by rw [HL.out]; omega)]; rfl)
                    clear hyd
                    have HZ := Lib.hid (HE3.out.trans (oct_stop (l := bs.drop k) (j := j) (by have := HJ1.out; omega) hj3 HA.out (.inr HS.out)))
                    have hmm : N % 256 < 256 := Nat.mod_lt _ (by omega)
                    obtain ⟨m, hm⟩ : ∃ m, N % 256 = m := ⟨_, rfl⟩
                    rw [HV.out, hm, List.drop_drop] at HZ
                    have hmw : IntKind.u8.wrap ((N : Int) % 256) = (m : Int) := by show _ % 256 = _; omega
                    rw [hm] at hmm
                    have cv := one_lit w m hmm
                    clear hm
                    go_wp2_with fail
                    go_ret2
                    exact EsAns.mk' (k + j) (t := [m]) HZ.out (by omega) (by have := HJ1.out; omega) (by omega) (by simp) ((Below.refl _ _).alloc (Nat.le_refl _) _)
                · obtain rfl : j = 3 := by omega
                  have f1 : decide ((3 : Int) < 3) = false := by simp
                  have HJ1 := Lib.hid (show 0 < 3 by omega)
                  clear hyd
                  have HZ := Lib.hid (HE3.out.trans (oct_stop (l := bs.drop k) (j := 3) (by have := HJ1.out; omega) hj3 HA.out (.inl rfl)))
                  have hmm : N % 256 < 256 := Nat.mod_lt _ (by omega)
                  obtain ⟨m, hm⟩ : ∃ m, N % 256 = m := ⟨_, rfl⟩
                  rw [HV.out, hm, List.drop_drop] at HZ
                  have hmw : IntKind.u8.wrap ((N : Int) % 256) = (m : Int) := by show _ % 256 = _; omega
                  rw [hm] at hmm
                  have cv := one_lit w m hmm
                  clear hm
                  go_wp2_with fail
                  go_ret2
                  exact EsAns.mk' (k + 3) (t := [m]) HZ.out (by omega) (by have := HJ1.out; omega) (by omega) (by simp) ((Below.refl _ _).alloc (Nat.le_refl _) _)
/-- What text and hexa answer. -/
def TxAns (o : Option (List Nat × List Nat)) (bs : List Nat) (n k : Nat) (w : World) (e : Ending) (w' : World) : Prop :=
  (match o with
    | none => e = .returned (.tuple #[.string ⟨#[]⟩, .int .i64 0, .bool false])
    | some (t, r) => ∃ k' : Nat, e = .returned (.tuple #[.string (strB t), .int .i64 (k' : Int), .bool true]) ∧ r = bs.drop k' ∧ k ≤ k' ∧ k' ≤ n ∧ t.length ≤ n) ∧ Below w.heap.size w w'
theorem TxAns.no {o : Option (List Nat × List Nat)} {bs : List Nat} {n k : Nat} {w w' : World} (ho : o = none) (hb : Below w.heap.size w w') : TxAns o bs n k w (.returned (.tuple #[.string ⟨#[]⟩, .int .i64 0, .bool false])) w' := by
  subst ho
  exact ⟨rfl, hb⟩
theorem TxAns.yes {o : Option (List Nat × List Nat)} {bs t : List Nat} {n k : Nat} (k' : Nat) {v : Int} {w w' : World} (ho : o = some (t, bs.drop k')) (hv : v = (k' : Int)) (h1 : k ≤ k') (h2 : k' ≤ n) (ht : t.length ≤ n) (hb : Below w.heap.size w w') : TxAns o bs n k w (.returned (.tuple #[.string (strB t), .int .i64 v, .bool true])) w' := by
  subst ho hv
  exact ⟨⟨k', rfl, rfl, h1, h2, ht⟩, hb⟩
set_option maxRecDepth 100000 in
set_option maxHeartbeats 8000000 in
theorem rtext_any (A : Option Addr) (n c : Nat) (bs : List Nat) (k0 : Nat) (w : World) (h : Bytes w A n c bs) (hk : k0 ≤ n) (hn : n ≤ 1000) :
    Calls Tryz.prog 15 #[.slice A n c, .int .i64 (k0 : Int)] w (TxAns (strL 1 [] (bs.drop k0)) bs n k0 w) := by
  have hcap := h.cap
  have htop := h.top
  have H := Lib.hid h
  have HL := Lib.hid h.len
  have HBY := Lib.hid h.byte
  clear h
  go_enter Tryz.func15, Tryz.ntmps15
  go_wp2_with fail
  go_loopw [1, 7, 8] (fun i v d wr => ∃ (k d' : Nat) (acc : List Nat), k0 ≤ k ∧ k ≤ n ∧ i = .int .i64 (k : Int) ∧ v = .string (strB acc) ∧ d = .int .i64 (d' : Int) ∧ 1 ≤ d' ∧ d' ≤ k + 1 ∧ acc.length ≤ k ∧ Hid (strL 1 [] (bs.drop k0) = strL d' acc (bs.drop k)) ∧ Hid (Below w.heap.size w wr)) (fun i _ _ _ => n - (intOf i).toNat)
  case atStart => exact ⟨k0, 1, [], by omega, hk, rfl, rfl, rfl, by omega, by omega, by simp, Lib.hid rfl, Lib.hid (Below.refl _ _)⟩
  case round =>
    obtain ⟨k, d, acc, hkk, hkn, rfl, rfl, rfl, hd1, hd2, hal, HA, HB⟩ := hrel
    have hsz : (strB acc).size ≤ 5000 := by rw [strB_len]; omega
    by_cases hlt : k < n
    · have e1 : decide ((k : Int) < (n : Int)) = true := decide_eq_true (by omega)
      have H1 := Lib.hid (H.out.below HB.out)
      obtain ⟨R, o, rfl, hR, hcell⟩ := H1.out.at_ (by omega)
      obtain ⟨x, hx⟩ : ∃ x, bs[k]? = some x := ⟨_, List.getElem?_eq_getElem (by rw [HL.out]; exact hlt)⟩
      have hx9 := HBY.out x (List.mem_of_getElem? hx)
      have ck := hcell k x hx
      have HC := Lib.hid hcell
      have HT := Lib.hid (strL_at (d := d) (acc := acc) hx)
      have HX := Lib.hid hx
      clear hx hcell
      by_cases e92 : x = 92
      · have t92 : ((x : Int) == 92) = true := by simp; omega
        have HE := Lib.hid (show strL 1 [] (bs.drop k0) = strL d (acc ++ (escL (bs.drop (k + 1))).1) (escL (bs.drop (k + 1))).2 by rw [HA.out, HT.out, if_neg (by omega), if_neg (by omega), if_neg (by omega), if_pos e92])
        clear e92
        by_cases h2 : k + 1 < n
        · have e2 : decide ((n : Int) ≤ (k : Int) + 1) = false := decide_eq_false (by omega)
          have e3 : decide (n ≤ k + 1) = false := decide_eq_false (by omega)
          obtain ⟨⟨t, r⟩, ht⟩ : ∃ z, escL (bs.drop (k + 1)) = z := ⟨_, rfl⟩
          have HR := Lib.hid (fun w h => resc_any (some ⟨R, o, none⟩) n c bs (k + 1) w h h2 hn)
          rw [ht] at HR HE
          rw [show ((k + 1 : Nat) : Int) = (k : Int) + 1 by omega] at HR
          clear ht
          go_wp2_with fail
          refine (HR.out _ H1.out).mono ?_
          rintro e w1 ⟨k', rfl, hk1, hk2, hr, htl, hb⟩
          have hr : r = bs.drop k' := hr
          have HE2 := Lib.hid (show strL 1 [] (bs.drop k0) = strL d (acc ++ t) (bs.drop k') by rw [HE.out, ← hr])
          have HB1 := Lib.hid (HB.out.trans (hb.mono HB.out.size))
          have hst : (strB t).size ≤ 1 := by rw [strB_len]; exact htl
          have HCAT := Lib.hid (strB_cat acc t)
          have htl2 : t.length ≤ 1 := htl
          clear hr hb htl
          go_wp2_with fail
          go_roundw
          case rel => exact ⟨k', d, acc ++ t, by omega, by omega, rfl, by rw [← HCAT.out], rfl, hd1, by omega, by simp; omega, HE2, HB1⟩
          case measure => simp [intOf]; omega
        · have e2 : decide ((n : Int) ≤ (k : Int) + 1) = true := decide_eq_true (by omega)
          have e3 : decide (n ≤ k + 1) = true := decide_eq_true (by omega)
          have hnil : bs.drop (k + 1) = [] := List.drop_eq_nil_of_le (by rw [HL.out]; omega)
          have HE2 := Lib.hid (show strL 1 [] (bs.drop k0) = none by rw [HE.out, hnil]; rfl)
          clear hnil
          go_wp2_with fail
          go_ret3
          exact TxAns.no HE2.out HB.out
      · have t92 : ((x : Int) == 92) = false := by simp; omega
        by_cases e40 : x = 40
        · subst e40
          have HE := Lib.hid (HA.out.trans (HT.out.trans (if_pos rfl)))
          have cv : (convert 22 9 (.slice (some ⟨wr.heap.size, 0, none⟩) 1 1)).run Tryz.prog (wr.alloc (.cells #[.int .u8 40] 5)) = .ok (.string (strB [40])) (wr.alloc (.cells #[.int .u8 40] 5)) := one_lit wr 40 (by omega)
          have hs1 : (strB [40]).size = 1 := strB_len _
          have HCAT := Lib.hid (strB_cat acc [40])
          go_wp2_with fail
          go_roundw
          case rel => exact ⟨k + 1, d + 1, acc ++ [40], by omega, by omega, by go_num, by rw [← HCAT.out], by go_num, by omega, by omega, by simp; omega, HE, Lib.hid (HB.out.alloc HB.out.size _)⟩
          case measure => simp [intOf]; omega
        · have t40 : ((x : Int) == 40) = false := by simp; omega
          have HT := Lib.hid (HT.out.trans (if_neg e40))
          by_cases e41 : x = 41
          · subst e41
            have HT := Lib.hid (HT.out.trans (if_pos rfl))
            by_cases hd : d = 1
            · subst hd
              have HE := Lib.hid (HA.out.trans (HT.out.trans (if_pos rfl)))
              go_wp2_with fail
              go_ret3
              exact TxAns.yes (k + 1) HE.out (by omega) (by omega) (by omega) (by omega) HB.out
            · have td : (((d : Int) - 1) == 0) = false := by simp; omega
              have HE := Lib.hid (HA.out.trans (HT.out.trans (if_neg hd)))
              have hd3 : 2 ≤ d := by omega
              clear hd
              have cv : (convert 22 9 (.slice (some ⟨wr.heap.size, 0, none⟩) 1 1)).run Tryz.prog (wr.alloc (.cells #[.int .u8 41] 5)) = .ok (.string (strB [41])) (wr.alloc (.cells #[.int .u8 41] 5)) := one_lit wr 41 (by omega)
              have hs1 : (strB [41]).size = 1 := strB_len _
              have HCAT := Lib.hid (strB_cat acc [41])
              go_wp2_with fail
              go_roundw
              case rel => exact ⟨k + 1, d - 1, acc ++ [41], by omega, by omega, by go_num, by rw [← HCAT.out], by go_num, by omega, by omega, by simp; omega, HE, Lib.hid (HB.out.alloc HB.out.size _)⟩
              case measure => simp [intOf]; omega
          · have t41 : ((x : Int) == 41) = false := by simp; omega
            have HT := Lib.hid (HT.out.trans (if_neg e41))
            by_cases e13 : x = 13
            · subst e13
              have HT := Lib.hid (HT.out.trans (if_pos rfl))
              by_cases h2 : k + 1 < n
              · have d1 : decide ((k : Int) + 1 < (n : Int)) = true := decide_eq_true (by omega)
                obtain ⟨y, hy⟩ : ∃ x, bs[k + 1]? = some x := ⟨_, List.getElem?_eq_getElem (by rw [HL.out]; exact h2)⟩
                have ck2 := HC.out (k + 1) y hy
                by_cases h10 : y = 10
                · subst h10
                  have HE := Lib.hid (show strL 1 [] (bs.drop k0) = strL d (acc ++ [10]) (bs.drop (k + 2)) by rw [HA.out, HT.out, skN_yes hy])
                  clear hy
                  have cv : (convert 22 9 (.slice (some ⟨wr.heap.size, 0, none⟩) 1 1)).run Tryz.prog (wr.alloc (.cells #[.int .u8 10] 5)) = .ok (.string (strB [10])) (wr.alloc (.cells #[.int .u8 10] 5)) := one_lit wr 10 (by omega)
                  have hs1 : (strB [10]).size = 1 := strB_len _
                  have HCAT := Lib.hid (strB_cat acc [10])
                  go_wp2_with fail
                  go_roundw
                  case rel => exact ⟨k + 2, d, acc ++ [10], by omega, by omega, by go_num, by rw [← HCAT.out], by go_num, by omega, by omega, by simp; omega, HE, Lib.hid (HB.out.alloc HB.out.size _)⟩
                  case measure => simp [intOf]; omega
                · have e10 : ((y : Int) == 10) = false := by simp; omega
                  have HE := Lib.hid (show strL 1 [] (bs.drop k0) = strL d (acc ++ [10]) (bs.drop (k + 1)) by rw [HA.out, HT.out, skN_no (fun z hz => by rw [hy] at hz; injection hz with hz; omega)])
                  clear hy h10
                  have cv : (convert 22 9 (.slice (some ⟨wr.heap.size, 0, none⟩) 1 1)).run Tryz.prog (wr.alloc (.cells #[.int .u8 10] 5)) = .ok (.string (strB [10])) (wr.alloc (.cells #[.int .u8 10] 5)) := one_lit wr 10 (by omega)
                  have hs1 : (strB [10]).size = 1 := strB_len _
                  have HCAT := Lib.hid (strB_cat acc [10])
                  go_wp2_with fail
                  go_roundw
                  case rel => exact ⟨k + 1, d, acc ++ [10], by omega, by omega, by go_num, by rw [← HCAT.out], by go_num, by omega, by omega, by simp; omega, HE, Lib.hid (HB.out.alloc HB.out.size _)⟩
                  case measure => simp [intOf]; omega
              · have d1 : decide ((k : Int) + 1 < (n : Int)) = false := decide_eq_false (by omega)
                have HE := Lib.hid (show strL 1 [] (bs.drop k0) = strL d (acc ++ [10]) (bs.drop (k + 1)) by rw [HA.out, HT.out, skN_no (fun z hz => by have := (List.getElem?_eq_some_iff.1 hz).1; rw [HL.out] at this; omega)])
                have cv : (convert 22 9 (.slice (some ⟨wr.heap.size, 0, none⟩) 1 1)).run Tryz.prog (wr.alloc (.cells #[.int .u8 10] 5)) = .ok (.string (strB [10])) (wr.alloc (.cells #[.int .u8 10] 5)) := one_lit wr 10 (by omega)
                have hs1 : (strB [10]).size = 1 := strB_len _
                have HCAT := Lib.hid (strB_cat acc [10])
                go_wp2_with fail
                go_roundw
                case rel => exact ⟨k + 1, d, acc ++ [10], by omega, by omega, by go_num, by rw [← HCAT.out], by go_num, by omega, by omega, by simp; omega, HE, Lib.hid (HB.out.alloc HB.out.size _)⟩
                case measure => simp [intOf]; omega
            · have t13 : ((x : Int) == 13) = false := by simp; omega
              have HE := Lib.hid (HA.out.trans (HT.out.trans ((if_neg e13).trans (if_neg e92))))
              clear e13 e41 e40 e92
              have cv := one_lit wr x (by omega)
              have hs1 : (strB [x]).size = 1 := strB_len _
              have HCAT := Lib.hid (strB_cat acc [x])
              go_wp2_with fail
              go_roundw
              case rel => exact ⟨k + 1, d, acc ++ [x], by omega, by omega, by go_num, by rw [← HCAT.out], by go_num, by omega, by omega, by simp; omega, HE, Lib.hid (HB.out.alloc HB.out.size _)⟩
              case measure => simp [intOf]; omega
    · obtain rfl : k = n := by omega
      have e1 : decide ((k : Int) < (k : Int)) = false := by simp
      have HE := Lib.hid (HA.out.trans (strL_nil (by rw [HL.out]; exact Nat.le_refl _)))
      go_wp2_with fail
      go_ret3
      exact TxAns.no HE.out HB.out
theorem infoInt : (Tryz.prog.info? 3).map (fun i => (i.zero, i.size, i.bytes)) = some (some (.int .i64 0), 1, 8) := by kernel_rfl
/-- A slice that reads as ints, nil let in. -/
structure IntsAt (w : World) (A : Option Addr) (n c : Nat) (l : List Int) : Prop where
  len : l.length = n
  cap : n ≤ c
  top : c ≤ 9223372036854775807
  at_ : 0 < n → ∃ R o, A = some ⟨R, o, none⟩ ∧ R < w.heap.size ∧ ∀ (i : Nat) (x : Int), l[i]? = some x → w.cell? ⟨R, o + i, none⟩ = some (.int .i64 x)
theorem IntsAt.below {w w' : World} {A : Option Addr} {n c : Nat} {l : List Int} (h : IntsAt w A n c l) (hg : Below w.heap.size w w') : IntsAt w' A n c l :=
  ⟨h.len, h.cap, h.top, fun hn => by
    obtain ⟨R, o, e, hR, hc⟩ := h.at_ hn
    exact ⟨R, o, e, Nat.lt_of_lt_of_le hR hg.size, fun i x hx => (hg.cell (p := ⟨R, o + i, none⟩) hR).trans (hc i x hx)⟩⟩
def iiv (l : List Int) : List Value := l.map fun b : Int => Value.int .i64 b
theorem iiv_append (l l' : List Int) : iiv (l ++ l') = iiv l ++ iiv l' := by simp [iiv]
theorem IntsAt.of_own {w : World} {base : Nat} {v : Value} {n : Nat} {l : List Int} (h : w.ownsRow base 3 1 v n (iiv l)) : ∃ A c, v = .slice A n c ∧ IntsAt w A n c l := by
  obtain ⟨hl, h⟩ := h
  have hl : l.length = n := by simpa [iiv] using hl
  rcases h with ⟨rfl, rfl⟩ | ⟨g, cap, cur, rfl, hg, hw, hnc, hc, hs, ht⟩
  · exact ⟨none, 0, rfl, hl, by omega, by omega, fun h => absurd h (by omega)⟩
  · have hlt : g < w.heap.size := Whole.lt (T := 3) hw
    refine ⟨_, cap, rfl, hl, hnc, by unfold maxLen at hc; omega, fun hn => ⟨g, 0, rfl, hlt, fun i b hi => ?_⟩⟩
    have hil : i < n := by
      have := (List.getElem?_eq_some_iff.1 hi).1
      omega
    have e1 : (iiv l)[i]? = some (.int .i64 b) := by simp [iiv, hi]
    rw [← ht, List.getElem?_take, if_pos (by omega)] at e1
    have hw' : Whole w g 3 cur := hw
    rw [hw'.reads, Nat.zero_add, ← e1, Array.getElem?_toList]
theorem own_snoc {w : World} {base n : Nat} {v : Value} {l : List Int} {x : Int} (h : w.ownsRow base 3 1 v n (iiv l ++ [.int .i64 x])) (hn : n = l.length + 1) : w.ownsRow base 3 1 v (l ++ [x]).length (iiv (l ++ [x])) := by
  subst hn
  rw [iiv_append, List.length_append]
  exact h
def natI (l : List Nat) : List Int := l.map fun x : Nat => (x : Int)
theorem natI_len (l : List Nat) : (natI l).length = l.length := by simp [natI]
theorem natI_snoc (l : List Nat) (d : Nat) : natI (l ++ [d]) = natI l ++ [(d : Int)] := by simp [natI]
/-- The answer, when these digits have been read and these bytes lie ahead. -/
def restH (ds l : List Nat) : Option (List Nat × List Nat) :=
  match cutGt l with
  | none => none
  | some (b, r) => (dgL b).map fun d => (prL (ds ++ d), r)
theorem restH_start (l : List Nat) : hxL l = restH [] l := rfl
theorem restH_end (ds l : List Nat) (h : l.length = 0) : restH ds l = none := by
  obtain rfl := List.eq_nil_of_length_eq_zero h
  rfl
theorem restH_stop {ds l : List Nat} {k : Nat} (h : l[k]? = some 62) : restH ds (l.drop k) = some (prL ds, l.drop (k + 1)) := by
  rw [drop_at h]
  unfold restH
  rw [show cutGt (62 :: l.drop (k + 1)) = some ([], l.drop (k + 1)) from rfl]
  show (dgL []).map _ = _
  simp [dgL]
theorem restH_white {ds l : List Nat} {k c : Nat} (h : l[k]? = some c) (hc : c ≠ 62) (hw : spB c = true) : restH ds (l.drop k) = restH ds (l.drop (k + 1)) := by
  rw [drop_at h]
  unfold restH
  rw [cutGt, if_neg hc]
  cases cutGt (l.drop (k + 1)) with
  | none => rfl
  | some x =>
    show (dgL (c :: x.1)).map _ = (dgL x.1).map _
    rw [dgL, if_pos hw]
theorem restH_digit {ds l : List Nat} {k c d : Nat} (h : l[k]? = some c) (hc : c ≠ 62) (hw : spB c = false) (hd : hexD c = some d) : restH ds (l.drop k) = restH (ds ++ [d]) (l.drop (k + 1)) := by
  rw [drop_at h]
  unfold restH
  rw [cutGt, if_neg hc]
  cases cutGt (l.drop (k + 1)) with
  | none => rfl
  | some x =>
    show (dgL (c :: x.1)).map _ = (dgL x.1).map _
    rw [dgL, if_neg (by rw [hw]; decide), hd]
    show ((dgL x.1).map (d :: ·)).map _ = _
    cases dgL x.1 with
    | none => rfl
    | some es => simp
theorem restH_bad {ds l : List Nat} {k c : Nat} (h : l[k]? = some c) (hc : c ≠ 62) (hw : spB c = false) (hd : hexD c = none) : restH ds (l.drop k) = none := by
  rw [drop_at h]
  unfold restH
  rw [cutGt, if_neg hc]
  cases cutGt (l.drop (k + 1)) with
  | none => rfl
  | some x =>
    show (dgL (c :: x.1)).map _ = _
    rw [dgL, if_neg (by rw [hw]; decide), hd]
    rfl
def padE (ds : List Nat) : List Nat := if ds.length % 2 = 1 then ds ++ [0] else ds
theorem padE_cons (a b : Nat) (r : List Nat) : padE (a :: b :: r) = a :: b :: padE r := by
  unfold padE
  simp only [List.length_cons]
  by_cases hp : r.length % 2 = 1
  · rw [if_pos hp, if_pos (by omega)]; rfl
  · rw [if_neg hp, if_neg (by omega)]
theorem prL_pad : ∀ ds : List Nat, prL (padE ds) = prL ds ∧ (padE ds).length = 2 * (prL ds).length
  | [] => ⟨rfl, rfl⟩
  | [a] => ⟨by simp [padE, prL], rfl⟩
  | a :: b :: r => by
    obtain ⟨h1, h2⟩ := prL_pad r
    rw [padE_cons]
    simp only [prL, List.length_cons]
    exact ⟨by rw [h1], by omega⟩
theorem prL_at (ds : List Nat) (k x y : Nat) (hx : ds[2 * k]? = some x) (hy : ds[2 * k + 1]? = some y) : (prL ds)[k]? = some (16 * x + y) := by
  induction k generalizing ds with
  | zero =>
    match ds, hx, hy with
    | a :: b :: r, hx, hy => simp at hx hy; subst hx hy; rfl
  | succ k ih =>
    match ds, hx, hy with
    | a :: b :: r, hx, hy =>
      rw [show 2 * (k + 1) = 2 * k + 1 + 1 by omega] at hx hy
      simp only [List.getElem?_cons_succ] at hx hy
      simp only [prL, List.getElem?_cons_succ]
      exact ih r hx hy
theorem padE_lt {ds : List Nat} (h : ∀ d ∈ ds, d < 16) : ∀ d ∈ padE ds, d < 16 := by
  intro d hd
  unfold padE at hd
  split at hd
  · rcases List.mem_append.1 hd with hd | hd
    · exact h d hd
    · simp at hd; omega
  · exact h d hd
theorem one_litd (w : World) (x : Nat) (hx : x < 256) : (convert 22 9 (.slice (some ⟨w.heap.size, 0, none⟩) 1 1)).run Tryz.prog ((w.alloc (.cells #[.int .u8 (x : Int)] 5)).drew) = .ok (.string (strB [x])) ((w.alloc (.cells #[.int .u8 (x : Int)] 5)).drew) := by
  have := ((bytes_lit w [x] (by simpa using hx) (by simp)).below (Below.refl _ _).drew).str
  simpa [bvs] using this
set_option maxRecDepth 100000 in
set_option maxHeartbeats 8000000 in
theorem rhexa_any (A : Option Addr) (n c : Nat) (bs : List Nat) (k0 : Nat) (w : World) (h : Bytes w A n c bs) (hk : k0 ≤ n) (hn : n ≤ 1000) :
    Calls Tryz.prog 13 #[.slice A n c, .int .i64 (k0 : Int)] w (TxAns (hxL (bs.drop k0)) bs n k0 w) := by
  rw [restH_start]
  obtain ⟨i0, hi, hz0, hz1, hz2⟩ := info_parts infoInt
  have hcap := h.cap
  have htop := h.top
  have H := Lib.hid h
  have HL := Lib.hid h.len
  have HBY := Lib.hid h.byte
  clear h
  go_enter Tryz.func13, Tryz.ntmps13
  go_wp2_with fail
  go_loopw [1, 7] (fun i v wr => ∃ (k : Nat) (ds : List Nat), k0 ≤ k ∧ k ≤ n ∧ i = .int .i64 (k : Int) ∧ ds.length ≤ k ∧ Hid (∀ d ∈ ds, d < 16) ∧ Hid (wr.ownsRow w.heap.size 3 1 v ds.length (iiv (natI ds))) ∧ Hid (restH [] (bs.drop k0) = restH ds (bs.drop k)) ∧ Hid (Below w.heap.size w wr)) (fun i _ _ => n - (intOf i).toNat)
  case atStart => exact ⟨k0, [], by omega, hk, rfl, by simp, Lib.hid (fun d hd => by simp at hd), Lib.hid (World.ownsRow_nil _ _ _ _), Lib.hid rfl, Lib.hid (Below.refl _ _)⟩
  case round =>
    obtain ⟨k, ds, hkk, hkn, rfl, hdl, HD, HO, HA, HB⟩ := hrel
    obtain ⟨a0, cc, rfl⟩ := own_slice HO.out
    have hszb := HB.out.size
    by_cases hlt : k < n
    · have e1 : decide ((k : Int) < (n : Int)) = true := decide_eq_true (by omega)
      have H1 := Lib.hid (H.out.below HB.out)
      obtain ⟨R, o, rfl, hR, hcell⟩ := H1.out.at_ (by omega)
      obtain ⟨x, hx⟩ : ∃ x, bs[k]? = some x := ⟨_, List.getElem?_eq_getElem (by rw [HL.out]; exact hlt)⟩
      have hx9 := HBY.out x (List.mem_of_getElem? hx)
      have ck := hcell k x hx
      have HX := Lib.hid hx
      clear hx hcell
      by_cases h62 : x = 62
      · have t62 : ((x : Int) == 62) = true := by simp; omega
        subst h62
        have HE := Lib.hid (HA.out.trans (restH_stop HX.out))
        obtain ⟨ds', hds'⟩ : ∃ l, padE ds = l := ⟨_, rfl⟩
        obtain ⟨hp1, hp2⟩ := prL_pad ds
        rw [hds'] at hp1 hp2
        obtain ⟨q, hq⟩ : ∃ q, (prL ds).length = q := ⟨_, rfl⟩
        rw [hq] at hp2
        have hp3 := prL_len ds
        rw [hq] at hp3
        have hlt16 : ∀ d ∈ ds', d < 16 := by rw [← hds']; exact padE_lt HD.out
        obtain ⟨L2, hL2⟩ : ∃ l, 2 * q = l := ⟨_, rfl⟩
        have hL9 : L2 ≤ 2000 := by omega
        have hqn : q ≤ n := by omega
        have HP := Lib.hid (And.intro hp1 (And.intro hq hp2))
        have HQ := Lib.hid (And.intro hlt16 hL2)
        by_cases hodd : ds.length % 2 = 1
        case' pos =>
          have e4 : ((ds.length : Int) % 2 == 1) = true := by simp; omega
          have hds2 : ds' = ds ++ [0] := by rw [← hds']; unfold padE; rw [if_pos hodd]
          have hL : ds.length + 1 = L2 := by omega
          have HL2 := Lib.hid (And.intro hL hds2)
          have hodd2 : (ds.length + 1) / 2 = q := by omega
          clear hodd hL hds2 hds' hp1 hp2 hp3 hq hL2 hlt16 hodd2
          go_wp2_with (at_builtin; refine wpList_append_own _ rfl _ _ 61 rfl w.heap.size 3 i0 (.int .i64 0) 1 8 Tryz.underlying61 hi hz0 hz1 hz2 rfl (by decide) _ _ _ rfl (HO.out.alloc _) ⟨_, 0, none⟩ 1 1 [.int .i64 _] rfl rfl (World.news_of_block (t := 3) (fr := (0, 0)) (heap_alloc_new _ _)) ?d12 ?d13 ?d14 ?d15 ?_)
          case d12 => simp [Value.oneCell']
          case d13 => unfold maxLen; omega
          case d14 => omega
          case d15 => first | omega | (simp; omega)
          intro v' w5 hown' hgrow _
          have hb3 : Below w.heap.size w w5 := (HB.out.alloc hszb _).grown hgrow (by simp; omega) (fun j e => (own_lt HO.out e).1)
          have hown2 := own_snoc hown' (by rw [natI_len])
          obtain ⟨a1, c1, rfl⟩ := own_slice hown'
          rw [HL2.out.1]
          obtain ⟨A', c', e', hI⟩ := IntsAt.of_own hown2
          injection e' with e1 e2 e3
          subst e1 e3
          have hI2 : IntsAt w5 a1 L2 c1 (natI ds') := by
            have h1 : natI ds' = natI ds ++ [0] := by rw [HL2.out.2, natI_snoc]; rfl
            have h2 : (natI ds ++ [0]).length = L2 := by rw [← HL2.out.1]; simp [natI]
            rw [h1, ← h2]
            exact hI
          have HI := Lib.hid (And.intro hI2 hb3)
          clear hown' hgrow hown2 hI hI2 hb3 HL2 e2
        case' neg =>
          have e4 : ((ds.length : Int) % 2 == 1) = false := by simp; omega
          have hds2 : ds' = ds := by rw [← hds']; unfold padE; rw [if_neg hodd]
          have hL : ds.length = L2 := by
            have h1 : ds'.length = ds.length := by rw [hds2]
            omega
          obtain ⟨A', c', e', hI⟩ := IntsAt.of_own HO.out
          injection e' with f1 f2 f3
          obtain ⟨a1, ha1⟩ : ∃ a, a0 = a := ⟨_, rfl⟩
          obtain ⟨c1, hc1⟩ : ∃ a, cc = a := ⟨_, rfl⟩
          obtain ⟨w5, hw5⟩ : ∃ a, wr = a := ⟨_, rfl⟩
          have hI2 : IntsAt wr a0 L2 cc (natI ds') := by
            rw [hds2, ← hL, f1, f3]
            exact hI
          have HI := Lib.hid (And.intro hI2 HB.out)
          clear f1 f2 f3 hds' hp1 hp2 hp3 hq hL2 hlt16
          rw [hw5] at ck hR
          rw [hL] at e4 ⊢
          rw [ha1, hc1, hw5] at HI
          rw [ha1, hc1, hw5]
          clear hI hI2 hL hodd hds2 HO hszb ha1 hc1 hw5 HB HD
        all_goals
          go_wp2_with fail
          go_loopw [9, 10] (fun v i wx => ∃ k2 : Nat, k2 ≤ q ∧ i = .int .i64 ((2 * k2 : Nat) : Int) ∧ v = .string (strB ((prL ds).take k2)) ∧ Hid (Below w5.heap.size w5 wx)) (fun _ i _ => L2 - (intOf i).toNat)
          case atStart => exact ⟨0, by omega, rfl, rfl, Lib.hid (Below.refl _ _)⟩
          case round =>
            obtain ⟨k2, hkq, rfl, rfl, HBK⟩ := hrel
            obtain ⟨K2, hK2⟩ : ∃ K, 2 * k2 = K := ⟨_, rfl⟩
            rw [hK2]
            have hszk := HBK.out.size
            by_cases hkl : k2 < q
            · obtain ⟨x2, hx2⟩ : ∃ x, ds'[2 * k2]? = some x := ⟨_, List.getElem?_eq_getElem (by have := HP.out.2.2; omega)⟩
              obtain ⟨y2, hy2⟩ : ∃ x, ds'[2 * k2 + 1]? = some x := ⟨_, List.getElem?_eq_getElem (by have := HP.out.2.2; omega)⟩
              have hII := HI.out.1.below HBK.out
              obtain ⟨R1, o1, rfl, hR1, hcell⟩ := hII.at_ (by have := HQ.out.2; omega)
              have g1 := hcell (2 * k2) (x2 : Int) (by simp [natI, hx2])
              have g2 := hcell (2 * k2 + 1) (y2 : Int) (by simp [natI, hy2])
              rw [hK2] at g1 g2
              have hx16 : x2 < 16 := HQ.out.1 x2 (List.mem_of_getElem? hx2)
              have hy16 : y2 < 16 := HQ.out.1 y2 (List.mem_of_getElem? hy2)
              have hz := prL_at ds' k2 x2 y2 hx2 hy2
              rw [HP.out.1] at hz
              obtain ⟨z, hzz⟩ : ∃ z, 16 * x2 + y2 = z := ⟨_, rfl⟩
              rw [hzz] at hz
              have hzw : IntKind.u8.wrap (16 * (x2 : Int) + (y2 : Int)) = (z : Int) := by show _ % 256 = _; omega
              have hz9 : z < 256 := by omega
              have HT := Lib.hid (show (prL ds).take (k2 + 1) = (prL ds).take k2 ++ [z] by rw [List.take_add_one, hz]; rfl)
              have hkL : K2 < L2 := by have := HQ.out.2; omega
              have hk3L : K2 + 1 < L2 := by have := HQ.out.2; omega
              have e1 : decide ((K2 : Int) < (L2 : Int)) = true := decide_eq_true (by omega)
              have hw16 : IntKind.i64.wrap (16 * (x2 : Int)) = 16 * (x2 : Int) := by rw [IntKind.wrap_i64]; omega
              have hwxy : IntKind.i64.wrap (16 * (x2 : Int) + (y2 : Int)) = 16 * (x2 : Int) + (y2 : Int) := by rw [IntKind.wrap_i64]; omega
              have hsz : (strB ((prL ds).take k2)).size ≤ 5000 := by rw [strB_len, List.length_take]; omega
              have hs1 : (strB [z]).size = 1 := strB_len _
              have HCAT := Lib.hid (strB_cat ((prL ds).take k2) [z])
              have HK2 := Lib.hid hK2
              have cv := one_litd wr z hz9
              clear hcell hx2 hy2 hII hz hzz hK2
              go_wp2_with fail
              go_region
              go_wp2_with fail
              go_roundw
              case rel => exact ⟨k2 + 1, by omega, by have := HK2.out; go_num, by rw [HT.out, ← HCAT.out], Lib.hid (HBK.out.alloc hszk _).drew⟩
              case measure => simp [intOf]; omega
            · obtain rfl : k2 = q := by omega
              have h2 := HQ.out.2
              obtain rfl : K2 = L2 := by omega
              have e1 : decide ((K2 : Int) < (K2 : Int)) = false := by simp
              have HT := Lib.hid (show (prL ds).take k2 = prL ds from List.take_of_length_le (by rw [HP.out.2.1]; exact Nat.le_refl _))
              have HB3 := Lib.hid (HI.out.2.trans (HBK.out.mono HI.out.2.size))
              have hql : (prL ds).length ≤ n := by rw [HP.out.2.1]; omega
              clear h2 hK2
              go_wp2_with fail
              go_ret3
              rw [HT.out]
              exact TxAns.yes (k + 1) HE.out (by omega) (by omega) (by omega) hql HB3.out
      · have t62 : ((x : Int) == 62) = false := by simp; omega
        cases hw : spB x
        · cases hd : hexD x with
          | some d =>
            have hd16 := hexD_lt hd
            have hdg := fun w => digit_ref x w hx9
            have hwh := fun w => white_ref x w
            rw [hexI_some hd] at hdg
            rw [hw] at hwh
            have HDG := Lib.hid hdg
            have HWH := Lib.hid hwh
            have HE := Lib.hid (HA.out.trans (restH_digit HX.out h62 hw hd))
            clear hdg hwh hw hd h62
            go_wp2_with fail
            refine (HWH.out _).mono ?_
            rintro e w2 ⟨rfl, rfl⟩
            go_wp2_with fail
            refine (HDG.out _).mono ?_
            rintro e w2 ⟨rfl, rfl⟩
            go_wp2_with fail
            refine (HDG.out _).mono ?_
            rintro e w2 ⟨rfl, rfl⟩
            go_wp2_with (at_builtin; refine wpList_append_own _ rfl _ _ 61 rfl w.heap.size 3 i0 (.int .i64 0) 1 8 Tryz.underlying61 hi hz0 hz1 hz2 rfl (by decide) _ _ _ rfl (HO.out.alloc _) ⟨_, 0, none⟩ 1 1 [.int .i64 _] rfl rfl (World.news_of_block (t := 3) (fr := (0, 0)) (heap_alloc_new _ _)) ?c22 ?c23 ?c24 ?c25 ?_)
            case c22 => simp [Value.oneCell']
            case c23 => unfold maxLen; omega
            case c24 => omega
            case c25 => first | omega | (simp; omega)
            intro v' w5 hown' hgrow _
            have hb3 : Below w.heap.size w w5 := (HB.out.alloc hszb _).grown hgrow (by simp; omega) (fun j e => (own_lt HO.out e).1)
            have hown2 := own_snoc hown' (by rw [natI_len])
            obtain ⟨a1, c1, rfl⟩ := own_slice hown'
            rw [← natI_snoc, natI_len] at hown2
            have HO3 := Lib.hid (And.intro hown2 hb3)
            clear hown' hgrow hb3 hown2
            go_wp2_with fail
            go_roundw
            case rel => exact ⟨k + 1, ds ++ [d], by omega, by omega, by go_num, by simp; omega, Lib.hid (by
              intro y hy
              rcases List.mem_append.1 hy with hy | hy
              · exact HD.out y hy
              · simp at hy; omega), Lib.hid (by simpa using HO3.out.1), HE, Lib.hid HO3.out.2⟩
            case measure => simp [intOf]; omega
          | none =>
            have hdg := fun w => digit_ref x w hx9
            have hwh := fun w => white_ref x w
            rw [hexI_none hd] at hdg
            rw [hw] at hwh
            have HDG := Lib.hid hdg
            have HWH := Lib.hid hwh
            have HE := Lib.hid (HA.out.trans (restH_bad HX.out h62 hw hd))
            clear hdg hwh hw hd h62
            go_wp2_with fail
            refine (HWH.out _).mono ?_
            rintro e w2 ⟨rfl, rfl⟩
            go_wp2_with fail
            refine (HDG.out _).mono ?_
            rintro e w2 ⟨rfl, rfl⟩
            go_wp2_with fail
            go_ret3
            exact TxAns.no HE.out HB.out
        · have hwh := fun w => white_ref x w
          rw [hw] at hwh
          have HWH := Lib.hid hwh
          have HE := Lib.hid (HA.out.trans (restH_white HX.out h62 hw))
          clear hwh hw h62
          go_wp2_with fail
          refine (HWH.out _).mono ?_
          rintro e w2 ⟨rfl, rfl⟩
          go_wp2_with fail
          go_roundw
          case rel => exact ⟨k + 1, ds, by omega, by omega, by go_num, by omega, HD, HO, HE, HB⟩
          case measure => simp [intOf]; omega
    · obtain rfl : k = n := by omega
      have e1 : decide ((k : Int) < (k : Int)) = false := by simp
      have HE := Lib.hid (HA.out.trans (restH_end _ _ (by rw [List.length_drop, HL.out]; omega)))
      go_wp2_with fail
      go_ret3
      exact TxAns.no HE.out HB.out
def whlL (kd : Int) (t : List Nat) (at_ : Int) (ok : Bool) : Int × TokV × Int :=
  if ok = true then (if 65535 < t.length then (2, noTok, 0) else (0, ⟨kd, 0, 0, t⟩, at_)) else (4, noTok, 0)
set_option maxRecDepth 100000 in
set_option maxHeartbeats 4000000 in
theorem whole_ref (kd at_ : Int) (t : List Nat) (ok : Bool) (w : World) (ht : t.length ≤ 1000000) :
    Calls Tryz.prog 14 #[.int .i64 kd, .string (strB t), .int .i64 at_, .bool ok] w (NextSaid (whlL kd t at_ ok) w) := by
  have hsz := strB_len t
  cases ok
  · go_enter Tryz.func14, Tryz.ntmps14
    go_wp2_with fail
    exact bodyPost_ret (v := .tuple #[tokV noTok, .int .i64 0, .int .i64 4]) (by simp [results, Tryz.results14, go_sem, tokV, noTok]; rfl) rfl ⟨rfl, (Below.refl _ _).alloc (Nat.le_refl _) _⟩
  · unfold whlL
    by_cases hl : 65535 < t.length
    · have d1 : decide ((65535 : Int) < ((strB t).size : Int)) = true := decide_eq_true (by omega)
      rw [if_pos rfl, if_pos hl]
      go_enter Tryz.func14, Tryz.ntmps14
      go_wp2_with fail
      exact bodyPost_ret (v := .tuple #[tokV noTok, .int .i64 0, .int .i64 2]) (by simp [results, Tryz.results14, go_sem, tokV, noTok]; rfl) rfl ⟨rfl, (Below.refl _ _).alloc (Nat.le_refl _) _⟩
    · have d1 : decide ((65535 : Int) < ((strB t).size : Int)) = false := decide_eq_false (by omega)
      rw [if_pos rfl, if_neg hl]
      go_enter Tryz.func14, Tryz.ntmps14
      go_wp2_with fail
      exact bodyPost_ret (v := .tuple #[tokV ⟨kd, 0, 0, t⟩, .int .i64 at_, .int .i64 0]) (by simp [results, Tryz.results14, go_sem, tokV]) rfl ⟨rfl, (Below.refl _ _).alloc (Nat.le_refl _) _⟩
/-- The place that the answer names. -/
theorem nextI_at {bs : List Nat} {k k' : Nat} {z : NX} (hk : k ≤ bs.length) (hg : gapL (bs.drop k) = bs.drop k') (hz : nextG PN (bs.drop k') = z) :
    nextI bs (k : Int) = if z.1 = 0 then (0, z.2.1, (bs.length : Int) - (z.2.2.length : Int)) else (z.1, noTok, 0) := by
  unfold nextI
  rw [if_neg (by omega), Int.toNat_natCast, show nextL PN (bs.drop k) = z by unfold nextL; rw [hg, hz]]
theorem nextI_ok {bs : List Nat} {k k' m : Nat} {t : TokV} (hk : k ≤ bs.length) (hg : gapL (bs.drop k) = bs.drop k') (hm : m ≤ bs.length) (hz : nextG PN (bs.drop k') = (0, t, bs.drop m)) : nextI bs (k : Int) = (0, t, (m : Int)) := by
  rw [nextI_at hk hg hz, if_pos rfl, List.length_drop]
  congr 2
  omega
theorem nextI_no {bs : List Nat} {k k' : Nat} {e : Int} {t : TokV} {r : List Nat} (hk : k ≤ bs.length) (hg : gapL (bs.drop k) = bs.drop k') (he : e ≠ 0) (hz : nextG PN (bs.drop k') = (e, t, r)) : nextI bs (k : Int) = (e, noTok, 0) := by
  rw [nextI_at hk hg hz, if_neg he]
/-- A text, if it is no longer than may be. -/
theorem nextI_lim {bs : List Nat} {k k' : Nat} {kd : Int} {o : Option (List Nat × List Nat)} (hk : k ≤ bs.length) (hg : gapL (bs.drop k) = bs.drop k') (hz : nextG PN (bs.drop k') = limL kd o) :
    (o = none → nextI bs (k : Int) = whlL kd [] 0 false) ∧ (∀ t m, m ≤ bs.length → o = some (t, bs.drop m) → nextI bs (k : Int) = whlL kd t (m : Int) true) := by
  constructor
  · rintro rfl
    exact nextI_no hk hg (by decide) hz
  · rintro t m hm rfl
    unfold whlL
    rw [if_pos rfl]
    unfold limL at hz
    simp only at hz
    by_cases hl : 65535 < t.length
    · rw [if_pos hl] at hz ⊢
      exact nextI_no hk hg (by decide) hz
    · rw [if_neg hl] at hz ⊢
      exact nextI_ok hk hg hm hz
theorem gap_hd : ∀ (b : Bool) (l : List Nat) (c : Nat) (r : List Nat), gapM b l = c :: r → spB c = false
  | b, [], c, r, h => by cases b <;> cases h
  | false, a :: l, c, r, h => by
    rw [gapM] at h
    by_cases h1 : spB a = true
    · rw [if_pos h1] at h
      exact gap_hd _ _ _ _ h
    · rw [if_neg h1] at h
      by_cases h2 : a = 37
      · rw [if_pos h2] at h
        exact gap_hd _ _ _ _ h
      · rw [if_neg h2] at h
        injection h with h3 _
        subst h3
        simpa using h1
  | true, a :: l, c, r, h => by
    rw [gapM] at h
    by_cases h1 : a = 10 ∨ a = 13
    · rw [if_pos h1] at h
      exact gap_hd _ _ _ _ h
    · rw [if_neg h1] at h
      exact gap_hd _ _ _ _ h
theorem perrs (t : List UInt8) : (parseL t).2.2 = 0 ∨ (parseL t).2.2 = 5 ∨ (parseL t).2.2 = 4 := by
  unfold parseL
  split
  · exact .inr (.inr rfl)
  · split
    · exact .inr (.inr rfl)
    · split
      · exact rd_err _ _ _ (.inl rfl)
      · split
        · exact .inr (.inl rfl)
        · exact .inl rfl
theorem nm_size : ∀ (l acc t : List Nat), nmL acc l = some t → t.length ≤ acc.length + l.length := by
  have key : ∀ (n : Nat) (l acc t : List Nat), l.length ≤ n → nmL acc l = some t → t.length ≤ acc.length + l.length := by
    intro n
    induction n with
    | zero =>
      intro l acc t hl h
      rw [nmL_eq, if_pos (by omega)] at h
      injection h with h
      subst h
      omega
    | succ n ih =>
      intro l acc t hl h
      rw [nmL_eq] at h
      split at h
      · injection h with h; subst h; omega
      · split at h
        · have := ih _ _ _ (by rw [List.length_drop]; omega) h
          rw [List.length_drop, List.length_append] at this
          simp at this
          omega
        · split at h
          · cases h
          · split at h
            · split at h
              · cases h
              · have := ih _ _ _ (by rw [List.length_drop]; omega) h
                rw [List.length_drop, List.length_append] at this
                simp at this
                omega
            · cases h
  exact fun l acc t h => key l.length l acc t (Nat.le_refl _) h
theorem nextI_err {bs : List Nat} {k k' : Nat} {e : Int} (hk : k ≤ bs.length) (hg : gapL (bs.drop k) = bs.drop k') (he : e ≠ 0) (hz : nextG PN (bs.drop k') = errN e) : nextI bs (k : Int) = (e, noTok, 0) := nextI_no hk hg he hz
theorem plain_num {t r : List Nat} {M S : Int} (h : PN t = (M, S, 0)) : plainL PN t r = (0, ⟨1, M, S, []⟩, r) := by
  unfold plainL
  rw [h, if_pos rfl]
theorem plain_over {t r : List Nat} {M S E : Int} (h : PN t = (M, S, E)) (h0 : E ≠ 0) (h4 : E ≠ 4) : plainL PN t r = errN E := by
  unfold plainL
  rw [h, if_neg h0, if_pos h4]
theorem plain_word {t r : List Nat} {M S E : Int} (h : PN t = (M, S, E)) (h4 : E = 4) : plainL PN t r = if 127 < t.length then errN 2 else (0, ⟨4, 0, 0, t⟩, r) := by
  unfold plainL
  rw [h, h4, if_neg (show ¬ (4 : Int) = 0 by decide), if_neg (show ¬ (4 : Int) ≠ 4 from fun h => h rfl)]
set_option maxRecDepth 100000 in
set_option maxHeartbeats 16000000 in
theorem next_ref (A : Option Addr) (n c : Nat) (bs : List Nat) (at_ : Int) (w : World) (h : Bytes w A n c bs) (hn : n ≤ 500) :
    Calls Tryz.prog 7 #[.slice A n c, .int .i64 at_] w (NextSaid (nextI bs at_) w) := by
  have hlen := h.len
  by_cases hbad : at_ < 0 ∨ (n : Int) < at_
  · have HE := Lib.hid (show nextI bs at_ = (1, noTok, 0) by unfold nextI; rw [if_pos (by rw [hlen]; exact hbad)])
    clear h hlen
    rcases hbad with hb | hb
    · have d1 : decide (at_ < 0) = true := decide_eq_true hb
      go_enter Tryz.func7, Tryz.ntmps7
      go_wp2_with fail
      refine bodyPost_ret (v := .tuple #[tokV noTok, .int .i64 0, .int .i64 1]) (by simp [results, Tryz.results7, go_sem, tokV, noTok]; rfl) rfl ?_
      rw [HE.out]
      refine ⟨rfl, ?_⟩
      (repeat (first | with_reducible exact Below.refl _ _ | with_reducible refine Below.drew ?_ | with_reducible refine bdrewN ?_ _ | (with_reducible refine Below.setCell ?_ ?_ _; rotate_left; focus (first | exact Nat.le_refl _ | omega | (simp; omega) | (simp; done))) | (with_reducible refine Below.alloc ?_ ?_ _; rotate_left; focus (first | exact Nat.le_refl _ | omega | (simp; omega) | (simp; done))) | (with_reducible refine Below.trans ?_ (Below.mono (by assumption) ?_); rotate_left; focus (first | exact Nat.le_refl _ | omega | (simp; omega) | (simp; done)))))
    · have d1 : decide (at_ < 0) = false := decide_eq_false (by omega)
      have d2 : decide (at_ > (n : Int)) = true := decide_eq_true (by omega)
      have d3 : decide ((n : Int) < at_) = true := decide_eq_true (by omega)
      go_enter Tryz.func7, Tryz.ntmps7
      go_wp2_with fail
      refine bodyPost_ret (v := .tuple #[tokV noTok, .int .i64 0, .int .i64 1]) (by simp [results, Tryz.results7, go_sem, tokV, noTok]; rfl) rfl ?_
      rw [HE.out]
      refine ⟨rfl, ?_⟩
      (repeat (first | with_reducible exact Below.refl _ _ | with_reducible refine Below.drew ?_ | with_reducible refine bdrewN ?_ _ | (with_reducible refine Below.setCell ?_ ?_ _; rotate_left; focus (first | exact Nat.le_refl _ | omega | (simp; omega) | (simp; done))) | (with_reducible refine Below.alloc ?_ ?_ _; rotate_left; focus (first | exact Nat.le_refl _ | omega | (simp; omega) | (simp; done))) | (with_reducible refine Below.trans ?_ (Below.mono (by assumption) ?_); rotate_left; focus (first | exact Nat.le_refl _ | omega | (simp; omega) | (simp; done)))))
  · obtain ⟨k, rfl⟩ : ∃ k : Nat, at_ = (k : Int) := ⟨at_.toNat, by omega⟩
    have hkn : k ≤ n := by omega
    have hkb : k ≤ bs.length := by omega
    have d1 : decide ((k : Int) < 0) = false := decide_eq_false (by omega)
    have d2 : decide ((k : Int) > (n : Int)) = false := decide_eq_false (by omega)
    have d3 : decide ((n : Int) < (k : Int)) = false := decide_eq_false (by omega)
    have d4 : decide (n < k) = false := decide_eq_false (by omega)
    have hcap := h.cap
    have htop := h.top
    have hb0 := (Below.refl w.heap.size w).alloc (Nat.le_refl _) (.cells #[.int .i64 0, .int .i64 0, .int .i64 0, .string ⟨#[]⟩] 27)
    have H := Lib.hid (h.below hb0)
    have HB := Lib.hid hb0
    have HW := Lib.hid (Whole.made w 27 #[.int .i64 0, .int .i64 0, .int .i64 0, .string ⟨#[]⟩])
    have HBY := Lib.hid h.byte
    have HL := Lib.hid hlen
    clear h hbad hb0 hlen
    go_enter Tryz.func7, Tryz.ntmps7
    go_wp2_with fail
    refine (skip_ref A n c bs k _ H.out hkn (by omega)).mono ?_
    rintro e w1 ⟨k', rfl, hk1, hk2, hgap, hb⟩
    have HB1 := Lib.hid (HB.out.trans (hb.mono HB.out.size))
    have HW1 := Lib.hid (HW.out.here hb)
    have H1 := Lib.hid (H.out.below hb)
    have HG := Lib.hid hgap
    have lS := HW1.out.lt
    clear hb hgap H HB HW
    have rd := HW1.out.reads
    have ft := HW1.out.thawed
    by_cases hk3 : k' = n
    · subst hk3
      have z1 : ((k' : Int) == (k' : Int)) = true := by simp
      have HE := Lib.hid (nextI_ok (t := noTok) (m := k') hkb HG.out (by rw [HL.out]; exact Nat.le_refl _) (by rw [List.drop_eq_nil_of_le (by rw [HL.out]; exact Nat.le_refl _)]; rfl))
      go_wp2_with fail
      refine ret_tok3 (t := noTok) (x := .int .i64 (k' : Int)) (y := .int .i64 0) (g := w.heap.size) (tok_set HW1.out) (fun V hV => by have rv := hV.reads; simp [results, Tryz.results7, go_sem, rv, tokV, noTok, strB]) rfl ?_
      rw [HE.out]
      refine ⟨rfl, ?_⟩
      (repeat (first | with_reducible refine Below.drew ?_ | with_reducible refine bdrewN ?_ _ | (with_reducible refine Below.setCell ?_ ?_ _; rotate_left; focus (first | exact Nat.le_refl _ | omega | (simp; omega) | (simp; done))) | (with_reducible refine Below.alloc ?_ ?_ _; rotate_left; focus (first | exact Nat.le_refl _ | omega | (simp; omega) | (simp; done))))); with_reducible exact HB1.out
    · have z1 : ((k' : Int) == (n : Int)) = false := by simp; omega
      have hk4 : k' < n := by omega
      obtain ⟨R, o, rfl, hR, hcell⟩ := H1.out.at_ (by omega)
      obtain ⟨x, hx⟩ : ∃ x, bs[k']? = some x := ⟨_, List.getElem?_eq_getElem (by rw [HL.out]; exact hk4)⟩
      have hx9 := HBY.out x (List.mem_of_getElem? hx)
      have ck := hcell k' x hx
      have HC := Lib.hid hcell
      have HX := Lib.hid hx
      have HT := Lib.hid (nextG_at (P := PN) hx)
      have i0 : (0 : Int) ≤ (k' : Int) := by omega
      have i1 : (k' : Int) < (n : Int) := by omega
      have HSP := Lib.hid (gap_hd false _ _ _ (show gapM false (bs.drop k) = x :: bs.drop (k' + 1) from HG.out.trans (drop_at hx)))
      obtain ⟨tw, htw⟩ : ∃ t, decide (bs[k' + 1]? = some x) = t := ⟨_, rfl⟩
      have HTW := Lib.hid htw
      clear hcell hx hk3 htw
      go_wp2_with fail
      go_cut [7] from 40 to 57 (fun v wx => v = .bool tw ∧ Hid (Whole wx w.heap.size 27 #[.int .i64 0, .int .i64 0, .int .i64 0, .string ⟨#[]⟩] ∧ Bytes wx (some ⟨R, o, none⟩) n c bs ∧ Below w.heap.size w wx))
      case first =>
        by_cases h2 : k' + 1 < n
        · have e1 : decide ((k' : Int) + 1 < (n : Int)) = true := decide_eq_true (by omega)
          obtain ⟨y, hy⟩ : ∃ x, bs[k' + 1]? = some x := ⟨_, List.getElem?_eq_getElem (by rw [HL.out]; exact h2)⟩
          have ck2 := HC.out (k' + 1) y hy
          have ty : ((y : Int) == (x : Int)) = tw := by
            rw [← HTW.out, hy]
            by_cases e : y = x
            · subst e; simp
            · have h1 : ((y : Int) == (x : Int)) = false := by simp; omega
              rw [h1]
              simp [e]
          have j0 : (0 : Int) ≤ (k' : Int) + 1 := by omega
          have j1 : (k' : Int) + 1 < (n : Int) := by omega
          clear hy
          go_quiet (fail)
          all_goals
            go_wp2_with fail
            go_meet
            exact ⟨rfl, Lib.hid ⟨HW1.out.drawn _, H1.out.below (below_drewN (Below.refl _ _) _), below_drewN HB1.out _⟩⟩
        · have e1 : decide ((k' : Int) + 1 < (n : Int)) = false := decide_eq_false (by omega)
          obtain rfl : tw = false := by
            rw [← HTW.out]
            exact decide_eq_false (fun h => by have := (List.getElem?_eq_some_iff.1 h).1; rw [HL.out] at this; omega)
          go_quiet (fail)
          all_goals
            go_wp2_with fail
            go_meet
            exact ⟨rfl, Lib.hid ⟨HW1.out.drawn _, H1.out.below (below_drewN (Below.refl _ _) _), below_drewN HB1.out _⟩⟩
      case rest =>
        obtain ⟨rfl, HZ⟩ := hcut
        clear ck hR rd ft lS HW1 HB1 H1
        obtain ⟨R', o', hA', hR, hcell⟩ := HZ.out.2.1.at_ (by omega)
        injection hA' with hA'
        injection hA' with hA1 hA2
        subst hA1 hA2
        have ck := hcell k' x HX.out
        have HC := Lib.hid hcell
        clear hcell
        have rd := HZ.out.1.reads
        have ft := HZ.out.1.thawed
        have lS := HZ.out.1.lt
        by_cases e91 : x = 91
        · subst e91
          have HE := Lib.hid (nextI_ok (t := ⟨5, 0, 0, []⟩) (m := k' + 1) hkb HG.out (by rw [HL.out]; omega) (HT.out.trans ((if_neg (by decide)).trans (if_pos rfl))))
          go_wp2_with fail
          refine ret_tok3 (t := ⟨5, 0, 0, []⟩) (x := .int .i64 ((k' : Int) + 1)) (y := .int .i64 0) (g := w.heap.size) (tok_set HZ.out.1) (fun V hV => by have rv := hV.reads; simp [results, Tryz.results7, go_sem, rv, tokV, strB]) rfl ?_
          rw [HE.out]
          refine ⟨by first | rfl | simp, ?_⟩
          (repeat (first | with_reducible refine Below.drew ?_ | with_reducible refine bdrewN ?_ _ | (with_reducible refine Below.setCell ?_ ?_ _; rotate_left; focus (first | exact Nat.le_refl _ | omega | (simp; omega) | (simp; done))) | (with_reducible refine Below.alloc ?_ ?_ _; rotate_left; focus (first | exact Nat.le_refl _ | omega | (simp; omega) | (simp; done))))); with_reducible exact HZ.out.2.2
        have t91 : ((x : Int) == 91) = false := by simp; omega
        by_cases e93 : x = 93
        · subst e93
          have HE := Lib.hid (nextI_ok (t := ⟨6, 0, 0, []⟩) (m := k' + 1) hkb HG.out (by rw [HL.out]; omega) (HT.out.trans ((if_neg (by decide)).trans ((if_neg (by decide)).trans (if_pos rfl)))))
          go_wp2_with fail
          refine ret_tok3 (t := ⟨6, 0, 0, []⟩) (x := .int .i64 ((k' : Int) + 1)) (y := .int .i64 0) (g := w.heap.size) (tok_set HZ.out.1) (fun V hV => by have rv := hV.reads; simp [results, Tryz.results7, go_sem, rv, tokV, strB]) rfl ?_
          rw [HE.out]
          refine ⟨by first | rfl | simp, ?_⟩
          (repeat (first | with_reducible refine Below.drew ?_ | with_reducible refine bdrewN ?_ _ | (with_reducible refine Below.setCell ?_ ?_ _; rotate_left; focus (first | exact Nat.le_refl _ | omega | (simp; omega) | (simp; done))) | (with_reducible refine Below.alloc ?_ ?_ _; rotate_left; focus (first | exact Nat.le_refl _ | omega | (simp; omega) | (simp; done))))); with_reducible exact HZ.out.2.2
        have t93 : ((x : Int) == 93) = false := by simp; omega
        by_cases e60 : x = 60
        · subst e60
          cases tw
          · have hno : ¬ hd (bs.drop (k' + 1)) = 60 := fun e => of_decide_eq_false HTW.out ((hd_is (by decide)).1 e)
            have HN := Lib.hid (HT.out.trans ((if_neg (by decide)).trans ((if_neg (by decide)).trans ((if_neg (by decide)).trans ((if_neg (by decide)).trans ((if_neg (by decide)).trans ((if_pos rfl).trans (if_neg hno))))))))
            clear hno
            have HQ := Lib.hid (fun w' h => rhexa_any (some ⟨R, o, none⟩) n c bs (k' + 1) w' h (by omega) (by omega))
            rw [show ((k' + 1 : Nat) : Int) = (k' : Int) + 1 by omega] at HQ
            obtain ⟨oo, ho⟩ : ∃ z, hxL (bs.drop (k' + 1)) = z := ⟨_, rfl⟩
            rw [ho] at HQ HN
            clear ho
            go_wp2_with fail
            refine (HQ.out _ HZ.out.2.1).mono ?_
            cases oo with
            | none =>
              rintro e w2 ⟨he, hb⟩
              have he : e = .returned (.tuple #[.string ⟨#[]⟩, .int .i64 0, .bool false]) := he
              subst he
              have HB2 := Lib.hid (HZ.out.2.2.trans (hb.mono HZ.out.2.2.size))
              have HW2 := Lib.hid (HZ.out.1.here hb)
              have hE0 := (nextI_lim hkb HG.out HN.out).1 rfl
              clear hb rd ft lS
              obtain ⟨⟨zE, ⟨zk, zm, zs, zt⟩, zp⟩, hz⟩ : ∃ z, whlL 3 [] 0 false = z := ⟨_, rfl⟩
              have HE := Lib.hid (hE0.trans hz)
              have HWW : Hid (∀ w, Calls Tryz.prog 14 #[.int .i64 3, .string ⟨#[]⟩, .int .i64 0, .bool false] w fun e w' => e = .returned (.tuple #[.agg #[.int .i64 zk, .int .i64 zm, .int .i64 zs, .string (strB zt)], .int .i64 zp, .int .i64 zE]) ∧ Below w.heap.size w w') := Lib.hid (fun w => by
                have := whole_ref 3 0 [] false w (by first | exact Nat.zero_le _ | omega)
                rw [hz] at this
                exact this)
              clear hz
              go_wp2_with fail
              refine (HWW.out _).mono ?_
              rintro e w3 ⟨rfl, hb⟩
              have HB3 := Lib.hid (HB2.out.trans (hb.mono HB2.out.size))
              have HW3 := Lib.hid (HW2.out.here hb)
              have rd := HW3.out.reads
              have ft := HW3.out.thawed
              have lS := HW3.out.lt
              clear hb
              go_wp2_with fail
              refine ret_tok3 (t := ⟨zk, zm, zs, zt⟩) (x := .int .i64 zp) (y := .int .i64 zE) (g := w.heap.size) (tok_set HW3.out) (fun V hV => by have rv := hV.reads; simp [results, Tryz.results7, go_sem, rv, tokV]) rfl ?_
              rw [HE.out]
              refine ⟨by first | rfl | simp, ?_⟩
              (repeat (first | with_reducible refine Below.drew ?_ | with_reducible refine bdrewN ?_ _ | (with_reducible refine Below.setCell ?_ ?_ _; rotate_left; focus (first | exact Nat.le_refl _ | omega | (simp; omega) | (simp; done))) | (with_reducible refine Below.alloc ?_ ?_ _; rotate_left; focus (first | exact Nat.le_refl _ | omega | (simp; omega) | (simp; done))))); with_reducible exact HB3.out
            | some oo =>
              obtain ⟨t, r⟩ := oo
              rintro e w2 ⟨he, hb⟩
              obtain ⟨k2, rfl, hr, hk5, hk6, htl⟩ := he
              have HB2 := Lib.hid (HZ.out.2.2.trans (hb.mono HZ.out.2.2.size))
              have HW2 := Lib.hid (HZ.out.1.here hb)
              have hE0 := (nextI_lim hkb HG.out HN.out).2 t k2 (by rw [HL.out]; exact hk6) (by rw [hr])
              clear hb rd ft lS hr
              obtain ⟨⟨zE, ⟨zk, zm, zs, zt⟩, zp⟩, hz⟩ : ∃ z, whlL 3 t (k2 : Int) true = z := ⟨_, rfl⟩
              have HE := Lib.hid (hE0.trans hz)
              have HWW : Hid (∀ w, Calls Tryz.prog 14 #[.int .i64 3, .string (strB t), .int .i64 (k2 : Int), .bool true] w fun e w' => e = .returned (.tuple #[.agg #[.int .i64 zk, .int .i64 zm, .int .i64 zs, .string (strB zt)], .int .i64 zp, .int .i64 zE]) ∧ Below w.heap.size w w') := Lib.hid (fun w => by
                have := whole_ref 3 (k2 : Int) t true w (by first | exact Nat.zero_le _ | omega)
                rw [hz] at this
                exact this)
              clear hz
              go_wp2_with fail
              refine (HWW.out _).mono ?_
              rintro e w3 ⟨rfl, hb⟩
              have HB3 := Lib.hid (HB2.out.trans (hb.mono HB2.out.size))
              have HW3 := Lib.hid (HW2.out.here hb)
              have rd := HW3.out.reads
              have ft := HW3.out.thawed
              have lS := HW3.out.lt
              clear hb
              go_wp2_with fail
              refine ret_tok3 (t := ⟨zk, zm, zs, zt⟩) (x := .int .i64 zp) (y := .int .i64 zE) (g := w.heap.size) (tok_set HW3.out) (fun V hV => by have rv := hV.reads; simp [results, Tryz.results7, go_sem, rv, tokV]) rfl ?_
              rw [HE.out]
              refine ⟨by first | rfl | simp, ?_⟩
              (repeat (first | with_reducible refine Below.drew ?_ | with_reducible refine bdrewN ?_ _ | (with_reducible refine Below.setCell ?_ ?_ _; rotate_left; focus (first | exact Nat.le_refl _ | omega | (simp; omega) | (simp; done))) | (with_reducible refine Below.alloc ?_ ?_ _; rotate_left; focus (first | exact Nat.le_refl _ | omega | (simp; omega) | (simp; done))))); with_reducible exact HB3.out
          · have hyes : hd (bs.drop (k' + 1)) = 60 := (hd_is (by decide)).2 (of_decide_eq_true HTW.out)
            have HE := Lib.hid (nextI_ok (t := ⟨7, 0, 0, []⟩) (m := k' + 2) hkb HG.out (by have := (List.getElem?_eq_some_iff.1 (of_decide_eq_true HTW.out)).1; omega) (HT.out.trans ((if_neg (by decide)).trans ((if_neg (by decide)).trans ((if_neg (by decide)).trans ((if_neg (by decide)).trans ((if_neg (by decide)).trans ((if_pos rfl).trans (if_pos hyes)))))))))
            clear hyes
            go_wp2_with fail
            refine ret_tok3 (t := ⟨7, 0, 0, []⟩) (x := .int .i64 ((k' : Int) + 2)) (y := .int .i64 0) (g := w.heap.size) (tok_set HZ.out.1) (fun V hV => by have rv := hV.reads; simp [results, Tryz.results7, go_sem, rv, tokV, strB]) rfl ?_
            rw [HE.out]
            refine ⟨by first | rfl | simp, ?_⟩
            (repeat (first | with_reducible refine Below.drew ?_ | with_reducible refine bdrewN ?_ _ | (with_reducible refine Below.setCell ?_ ?_ _; rotate_left; focus (first | exact Nat.le_refl _ | omega | (simp; omega) | (simp; done))) | (with_reducible refine Below.alloc ?_ ?_ _; rotate_left; focus (first | exact Nat.le_refl _ | omega | (simp; omega) | (simp; done))))); with_reducible exact HZ.out.2.2
        have t60 : ((x : Int) == 60) = false := by simp; omega
        by_cases e62 : x = 62
        · subst e62
          cases tw
          · have hno : ¬ hd (bs.drop (k' + 1)) = 62 := fun e => of_decide_eq_false HTW.out ((hd_is (by decide)).1 e)
            have HE := Lib.hid (nextI_err (e := 4) hkb HG.out (by decide) (HT.out.trans ((if_neg (by decide)).trans ((if_neg (by decide)).trans ((if_neg (by decide)).trans ((if_neg (by decide)).trans ((if_neg (by decide)).trans ((if_neg (by decide)).trans ((if_pos rfl).trans (if_neg hno))))))))))
            clear hno
            go_wp2_with fail
            refine ret_tok3 (t := noTok) (x := .int .i64 0) (y := .int .i64 4) (g := w.heap.size) (tok_set HZ.out.1) (fun V hV => by have rv := hV.reads; simp [results, Tryz.results7, go_sem, rv, tokV, noTok, strB]) rfl ?_
            rw [HE.out]
            refine ⟨by first | rfl | simp, ?_⟩
            (repeat (first | with_reducible refine Below.drew ?_ | with_reducible refine bdrewN ?_ _ | (with_reducible refine Below.setCell ?_ ?_ _; rotate_left; focus (first | exact Nat.le_refl _ | omega | (simp; omega) | (simp; done))) | (with_reducible refine Below.alloc ?_ ?_ _; rotate_left; focus (first | exact Nat.le_refl _ | omega | (simp; omega) | (simp; done))))); with_reducible exact HZ.out.2.2
          · have hyes : hd (bs.drop (k' + 1)) = 62 := (hd_is (by decide)).2 (of_decide_eq_true HTW.out)
            have HE := Lib.hid (nextI_ok (t := ⟨8, 0, 0, []⟩) (m := k' + 2) hkb HG.out (by have := (List.getElem?_eq_some_iff.1 (of_decide_eq_true HTW.out)).1; omega) (HT.out.trans ((if_neg (by decide)).trans ((if_neg (by decide)).trans ((if_neg (by decide)).trans ((if_neg (by decide)).trans ((if_neg (by decide)).trans ((if_neg (by decide)).trans ((if_pos rfl).trans (if_pos hyes))))))))))
            clear hyes
            go_wp2_with fail
            refine ret_tok3 (t := ⟨8, 0, 0, []⟩) (x := .int .i64 ((k' : Int) + 2)) (y := .int .i64 0) (g := w.heap.size) (tok_set HZ.out.1) (fun V hV => by have rv := hV.reads; simp [results, Tryz.results7, go_sem, rv, tokV, strB]) rfl ?_
            rw [HE.out]
            refine ⟨by first | rfl | simp, ?_⟩
            (repeat (first | with_reducible refine Below.drew ?_ | with_reducible refine bdrewN ?_ _ | (with_reducible refine Below.setCell ?_ ?_ _; rotate_left; focus (first | exact Nat.le_refl _ | omega | (simp; omega) | (simp; done))) | (with_reducible refine Below.alloc ?_ ?_ _; rotate_left; focus (first | exact Nat.le_refl _ | omega | (simp; omega) | (simp; done))))); with_reducible exact HZ.out.2.2
        have t62 : ((x : Int) == 62) = false := by simp; omega
        by_cases e40 : x = 40
        · subst e40
          have HN := Lib.hid (HT.out.trans ((if_neg (by decide)).trans ((if_neg (by decide)).trans ((if_neg (by decide)).trans ((if_neg (by decide)).trans (if_pos rfl))))))
          have HQ := Lib.hid (fun w' h => rtext_any (some ⟨R, o, none⟩) n c bs (k' + 1) w' h (by omega) (by omega))
          rw [show ((k' + 1 : Nat) : Int) = (k' : Int) + 1 by omega] at HQ
          obtain ⟨oo, ho⟩ : ∃ z, strL 1 [] (bs.drop (k' + 1)) = z := ⟨_, rfl⟩
          rw [ho] at HQ HN
          clear ho
          go_wp2_with fail
          refine (HQ.out _ HZ.out.2.1).mono ?_
          cases oo with
          | none =>
            rintro e w2 ⟨he, hb⟩
            have he : e = .returned (.tuple #[.string ⟨#[]⟩, .int .i64 0, .bool false]) := he
            subst he
            have HB2 := Lib.hid (HZ.out.2.2.trans (hb.mono HZ.out.2.2.size))
            have HW2 := Lib.hid (HZ.out.1.here hb)
            have hE0 := (nextI_lim hkb HG.out HN.out).1 rfl
            clear hb rd ft lS
            obtain ⟨⟨zE, ⟨zk, zm, zs, zt⟩, zp⟩, hz⟩ : ∃ z, whlL 3 [] 0 false = z := ⟨_, rfl⟩
            have HE := Lib.hid (hE0.trans hz)
            have HWW : Hid (∀ w, Calls Tryz.prog 14 #[.int .i64 3, .string ⟨#[]⟩, .int .i64 0, .bool false] w fun e w' => e = .returned (.tuple #[.agg #[.int .i64 zk, .int .i64 zm, .int .i64 zs, .string (strB zt)], .int .i64 zp, .int .i64 zE]) ∧ Below w.heap.size w w') := Lib.hid (fun w => by
              have := whole_ref 3 0 [] false w (by first | exact Nat.zero_le _ | omega)
              rw [hz] at this
              exact this)
            clear hz
            go_wp2_with fail
            refine (HWW.out _).mono ?_
            rintro e w3 ⟨rfl, hb⟩
            have HB3 := Lib.hid (HB2.out.trans (hb.mono HB2.out.size))
            have HW3 := Lib.hid (HW2.out.here hb)
            have rd := HW3.out.reads
            have ft := HW3.out.thawed
            have lS := HW3.out.lt
            clear hb
            go_wp2_with fail
            refine ret_tok3 (t := ⟨zk, zm, zs, zt⟩) (x := .int .i64 zp) (y := .int .i64 zE) (g := w.heap.size) (tok_set HW3.out) (fun V hV => by have rv := hV.reads; simp [results, Tryz.results7, go_sem, rv, tokV]) rfl ?_
            rw [HE.out]
            refine ⟨by first | rfl | simp, ?_⟩
            (repeat (first | with_reducible refine Below.drew ?_ | with_reducible refine bdrewN ?_ _ | (with_reducible refine Below.setCell ?_ ?_ _; rotate_left; focus (first | exact Nat.le_refl _ | omega | (simp; omega) | (simp; done))) | (with_reducible refine Below.alloc ?_ ?_ _; rotate_left; focus (first | exact Nat.le_refl _ | omega | (simp; omega) | (simp; done))))); with_reducible exact HB3.out
          | some oo =>
            obtain ⟨t, r⟩ := oo
            rintro e w2 ⟨he, hb⟩
            obtain ⟨k2, rfl, hr, hk5, hk6, htl⟩ := he
            have HB2 := Lib.hid (HZ.out.2.2.trans (hb.mono HZ.out.2.2.size))
            have HW2 := Lib.hid (HZ.out.1.here hb)
            have hE0 := (nextI_lim hkb HG.out HN.out).2 t k2 (by rw [HL.out]; exact hk6) (by rw [hr])
            clear hb rd ft lS hr
            obtain ⟨⟨zE, ⟨zk, zm, zs, zt⟩, zp⟩, hz⟩ : ∃ z, whlL 3 t (k2 : Int) true = z := ⟨_, rfl⟩
            have HE := Lib.hid (hE0.trans hz)
            have HWW : Hid (∀ w, Calls Tryz.prog 14 #[.int .i64 3, .string (strB t), .int .i64 (k2 : Int), .bool true] w fun e w' => e = .returned (.tuple #[.agg #[.int .i64 zk, .int .i64 zm, .int .i64 zs, .string (strB zt)], .int .i64 zp, .int .i64 zE]) ∧ Below w.heap.size w w') := Lib.hid (fun w => by
              have := whole_ref 3 (k2 : Int) t true w (by first | exact Nat.zero_le _ | omega)
              rw [hz] at this
              exact this)
            clear hz
            go_wp2_with fail
            refine (HWW.out _).mono ?_
            rintro e w3 ⟨rfl, hb⟩
            have HB3 := Lib.hid (HB2.out.trans (hb.mono HB2.out.size))
            have HW3 := Lib.hid (HW2.out.here hb)
            have rd := HW3.out.reads
            have ft := HW3.out.thawed
            have lS := HW3.out.lt
            clear hb
            go_wp2_with fail
            refine ret_tok3 (t := ⟨zk, zm, zs, zt⟩) (x := .int .i64 zp) (y := .int .i64 zE) (g := w.heap.size) (tok_set HW3.out) (fun V hV => by have rv := hV.reads; simp [results, Tryz.results7, go_sem, rv, tokV]) rfl ?_
            rw [HE.out]
            refine ⟨by first | rfl | simp, ?_⟩
            (repeat (first | with_reducible refine Below.drew ?_ | with_reducible refine bdrewN ?_ _ | (with_reducible refine Below.setCell ?_ ?_ _; rotate_left; focus (first | exact Nat.le_refl _ | omega | (simp; omega) | (simp; done))) | (with_reducible refine Below.alloc ?_ ?_ _; rotate_left; focus (first | exact Nat.le_refl _ | omega | (simp; omega) | (simp; done))))); with_reducible exact HB3.out
        have t40 : ((x : Int) == 40) = false := by simp; omega
        by_cases e47 : x = 47
        · subst e47
          have HN := Lib.hid (HT.out.trans ((if_neg (by decide)).trans ((if_neg (by decide)).trans ((if_neg (by decide)).trans (if_pos rfl)))))
          have hreg : ∀ y ∈ regL (bs.drop (k' + 1)), y < 256 := fun y hy => HBY.out y (List.mem_of_mem_drop ((List.takeWhile_sublist _).mem hy))
          have hrl : (regL (bs.drop (k' + 1))).length ≤ 500 := by
            have e := congrArg List.length (reg_off (bs.drop (k' + 1)))
            rw [List.length_append, List.length_drop, HL.out] at e
            omega
          have HQ := Lib.hid (fun w' h => row_ref (some ⟨R, o, none⟩) n c bs (k' + 1) w' h (by omega) (by omega))
          rw [show ((k' + 1 : Nat) : Int) = (k' : Int) + 1 by omega] at HQ
          obtain ⟨q, hq⟩ : ∃ q, regL (bs.drop (k' + 1)) = q := ⟨_, rfl⟩
          rw [hq] at HQ HN hreg hrl
          clear hq
          go_wp2_with fail
          refine (HQ.out _ HZ.out.2.1).mono ?_
          rintro e w9 ⟨k2, rfl, hk5, hk6, hoff, hb⟩
          have HB9 := Lib.hid (HZ.out.2.2.trans (hb.mono HZ.out.2.2.size))
          have HW9 := Lib.hid (HZ.out.1.here hb)
          clear hb rd ft lS
          have HNM := Lib.hid (fun w => rname_any (strB q) w (by rw [strB_len]; omega))
          rw [nats_str hreg] at HNM
          obtain ⟨oo, ho⟩ : ∃ z, nmL [] q = z := ⟨_, rfl⟩
          rw [ho] at HNM HN
          have htl9 : ∀ t, oo = some t → t.length ≤ 1000000 := fun t ht => by
            have := nm_size q [] t (ho.trans ht)
            simp at this
            omega
          clear ho
          go_wp2_with fail
          refine (HNM.out _).mono ?_
          cases oo with
          | none =>
            rintro e w2 ⟨he, hb⟩
            have he : e = .returned (.tuple #[.string ⟨#[]⟩, .bool false]) := he
            subst he
            have HB2 := Lib.hid (HB9.out.trans (hb.mono HB9.out.size))
            have HW2 := Lib.hid (HW9.out.here hb)
            have hE0 := (nextI_lim hkb HG.out HN.out).1 rfl
            clear hb hoff htl9
            have HE := Lib.hid (show nextI bs (k : Int) = (4, ⟨0, 0, 0, []⟩, 0) from hE0)
            have HWW : Hid (∀ w, Calls Tryz.prog 14 #[.int .i64 2, .string ⟨#[]⟩, .int .i64 (k2 : Int), .bool false] w fun e w' => e = .returned (.tuple #[.agg #[.int .i64 0, .int .i64 0, .int .i64 0, .string ⟨#[]⟩], .int .i64 0, .int .i64 4]) ∧ Below w.heap.size w w') := Lib.hid (fun w => whole_ref 2 (k2 : Int) [] false w (Nat.zero_le _))
            clear hE0
            go_wp2_with fail
            refine (HWW.out _).mono ?_
            rintro e w3 ⟨rfl, hb⟩
            have HB3 := Lib.hid (HB2.out.trans (hb.mono HB2.out.size))
            have HW3 := Lib.hid (HW2.out.here hb)
            have rd := HW3.out.reads
            have ft := HW3.out.thawed
            have lS := HW3.out.lt
            clear hb
            go_wp2_with fail
            refine ret_tok3 (t := ⟨0, 0, 0, []⟩) (x := .int .i64 0) (y := .int .i64 4) (g := w.heap.size) (tok_set HW3.out) (fun V hV => by have rv := hV.reads; simp [results, Tryz.results7, go_sem, rv, tokV, strB]) rfl ?_
            rw [HE.out]
            refine ⟨by first | rfl | simp, ?_⟩
            (repeat (first | with_reducible refine Below.drew ?_ | with_reducible refine bdrewN ?_ _ | (with_reducible refine Below.setCell ?_ ?_ _; rotate_left; focus (first | exact Nat.le_refl _ | omega | (simp; omega) | (simp; done))) | (with_reducible refine Below.alloc ?_ ?_ _; rotate_left; focus (first | exact Nat.le_refl _ | omega | (simp; omega) | (simp; done))))); with_reducible exact HB3.out
          | some t =>
            rintro e w2 ⟨he, hb⟩
            have he : e = .returned (.tuple #[.string (strB t), .bool true]) := he
            subst he
            have HB2 := Lib.hid (HB9.out.trans (hb.mono HB9.out.size))
            have HW2 := Lib.hid (HW9.out.here hb)
            have htl := htl9 t rfl
            have hE0 := (nextI_lim hkb HG.out HN.out).2 t k2 (by rw [HL.out]; exact hk6) (by rw [hoff]; rfl)
            clear hb hoff htl9
            obtain ⟨⟨zE, ⟨zk, zm, zs, zt⟩, zp⟩, hz⟩ : ∃ z, whlL 2 t (k2 : Int) true = z := ⟨_, rfl⟩
            have HE := Lib.hid (hE0.trans hz)
            have HWW : Hid (∀ w, Calls Tryz.prog 14 #[.int .i64 2, .string (strB t), .int .i64 (k2 : Int), .bool true] w fun e w' => e = .returned (.tuple #[.agg #[.int .i64 zk, .int .i64 zm, .int .i64 zs, .string (strB zt)], .int .i64 zp, .int .i64 zE]) ∧ Below w.heap.size w w') := Lib.hid (fun w => by
              have := whole_ref 2 (k2 : Int) t true w (by first | exact Nat.zero_le _ | omega)
              rw [hz] at this
              exact this)
            clear hz
            go_wp2_with fail
            refine (HWW.out _).mono ?_
            rintro e w3 ⟨rfl, hb⟩
            have HB3 := Lib.hid (HB2.out.trans (hb.mono HB2.out.size))
            have HW3 := Lib.hid (HW2.out.here hb)
            have rd := HW3.out.reads
            have ft := HW3.out.thawed
            have lS := HW3.out.lt
            clear hb
            go_wp2_with fail
            refine ret_tok3 (t := ⟨zk, zm, zs, zt⟩) (x := .int .i64 zp) (y := .int .i64 zE) (g := w.heap.size) (tok_set HW3.out) (fun V hV => by have rv := hV.reads; simp [results, Tryz.results7, go_sem, rv, tokV]) rfl ?_
            rw [HE.out]
            refine ⟨by first | rfl | simp, ?_⟩
            (repeat (first | with_reducible refine Below.drew ?_ | with_reducible refine bdrewN ?_ _ | (with_reducible refine Below.setCell ?_ ?_ _; rotate_left; focus (first | exact Nat.le_refl _ | omega | (simp; omega) | (simp; done))) | (with_reducible refine Below.alloc ?_ ?_ _; rotate_left; focus (first | exact Nat.le_refl _ | omega | (simp; omega) | (simp; done))))); with_reducible exact HB3.out
        have t47 : ((x : Int) == 47) = false := by simp; omega
        cases hm : dlB x
        · have hrg : rgB x = true := by unfold rgB; rw [HSP.out, hm]; rfl
          have HM := Lib.hid (fun w => mark_ref x w)
          rw [hm] at HM
          have HN := Lib.hid (HT.out.trans (if_pos hrg))
          have hreg : ∀ y ∈ regL (bs.drop k'), y < 256 := fun y hy => HBY.out y (List.mem_of_mem_drop ((List.takeWhile_sublist _).mem hy))
          have hrl : (regL (bs.drop k')).length ≤ 500 := by
            have e := congrArg List.length (reg_off (bs.drop k'))
            rw [List.length_append, List.length_drop, HL.out] at e
            omega
          have HQ := Lib.hid (fun w' h => row_ref (some ⟨R, o, none⟩) n c bs k' w' h (by omega) (by omega))
          obtain ⟨q, hq⟩ : ∃ q, regL (bs.drop k') = q := ⟨_, rfl⟩
          rw [hq] at HQ HN hreg hrl
          clear hq hm hrg e91 e93 e60 e62 e40 e47
          obtain ⟨⟨M, S, E⟩, hE⟩ : ∃ z, PN q = z := ⟨_, rfl⟩
          have HP := Lib.hid (fun w => refparse_nats (strB q) w (by rw [strB_len]; omega) M S E (by rw [nats_str hreg]; exact hE))
          have herr : E = 0 ∨ E = 5 ∨ E = 4 := by
            have := perrs (q.map UInt8.ofNat)
            rw [show parseL (q.map UInt8.ofNat) = PN q from rfl, hE] at this
            exact this
          have hsq : (strB q).size = q.length := strB_len _
          have HEP := Lib.hid hE
          have HRL := Lib.hid hrl
          clear hreg hE hrl
          go_wp2_with fail
          refine (HM.out _).mono ?_
          rintro e w8 ⟨rfl, rfl⟩
          go_wp2_with fail
          refine (HQ.out _ HZ.out.2.1).mono ?_
          rintro e w9 ⟨k2, rfl, hk5, hk6, hoff, hb⟩
          have HB9 := Lib.hid (HZ.out.2.2.trans (hb.mono HZ.out.2.2.size))
          have HW9 := Lib.hid (HZ.out.1.here hb)
          have HOFF := Lib.hid hoff
          clear hb rd ft lS hoff
          have hk7 : k2 ≤ bs.length := by rw [HL.out]; exact hk6
          go_wp2_with fail
          refine (HP.out _).mono ?_
          rintro e w2 ⟨rfl, hb⟩
          have HB2 := Lib.hid (HB9.out.trans (hb.mono HB9.out.size))
          have HW2 := Lib.hid (HW9.out.here hb)
          have r0 : w2.cell? ⟨w.heap.size, 0, none⟩ = some (.int .i64 0) := HW2.out.reads 0
          have r1 : w2.cell? ⟨w.heap.size, 1, none⟩ = some (.int .i64 0) := HW2.out.reads 1
          have r2 : w2.cell? ⟨w.heap.size, 2, none⟩ = some (.int .i64 0) := HW2.out.reads 2
          have r3 : w2.cell? ⟨w.heap.size, 3, none⟩ = some (.string ⟨#[]⟩) := HW2.out.reads 3
          have f0 := HW2.out.thawed 0
          have f1 := HW2.out.thawed 1
          have f2 := HW2.out.thawed 2
          have f3 := HW2.out.thawed 3
          have lS := HW2.out.lt
          clear hb
          rcases herr with rfl | rfl | rfl
          · have HE := Lib.hid (nextI_ok (t := ⟨1, M, S, []⟩) (m := k2) hkb HG.out hk7 (by rw [HN.out, plain_num HEP.out, HOFF.out]))
            go_wp2_with fail
            refine ret_tok3 (t := ⟨1, M, S, []⟩) (x := .int .i64 (k2 : Int)) (y := .int .i64 0) (g := w.heap.size) ((tok_set HW2.out).old _) (fun V hV => by have rv := hV.reads; simp [results, Tryz.results7, go_sem, rv, tokV, strB]) rfl ?_
            rw [HE.out]
            refine ⟨by first | rfl | simp, ?_⟩
            (repeat (first | with_reducible refine Below.drew ?_ | with_reducible refine bdrewN ?_ _ | (with_reducible refine Below.setCell ?_ ?_ _; rotate_left; focus (first | exact Nat.le_refl _ | omega | (simp; omega) | (simp; done))) | (with_reducible refine Below.alloc ?_ ?_ _; rotate_left; focus (first | exact Nat.le_refl _ | omega | (simp; omega) | (simp; done))))); with_reducible exact HB2.out
          · have HE := Lib.hid (nextI_err (e := 5) hkb HG.out (by decide) (by rw [HN.out, plain_over HEP.out (by decide) (by decide)]))
            go_wp2_with fail
            refine ret_tok3 (t := noTok) (x := .int .i64 0) (y := .int .i64 5) (g := w.heap.size) ((tok_set HW2.out).old _) (fun V hV => by have rv := hV.reads; simp [results, Tryz.results7, go_sem, rv, tokV, noTok, strB]) rfl ?_
            rw [HE.out]
            refine ⟨by first | rfl | simp, ?_⟩
            (repeat (first | with_reducible refine Below.drew ?_ | with_reducible refine bdrewN ?_ _ | (with_reducible refine Below.setCell ?_ ?_ _; rotate_left; focus (first | exact Nat.le_refl _ | omega | (simp; omega) | (simp; done))) | (with_reducible refine Below.alloc ?_ ?_ _; rotate_left; focus (first | exact Nat.le_refl _ | omega | (simp; omega) | (simp; done))))); with_reducible exact HB2.out
          · by_cases hl : 127 < q.length
            · have e1 : decide ((127 : Int) < ((strB q).size : Int)) = true := decide_eq_true (by omega)
              have HE := Lib.hid (nextI_err (e := 2) hkb HG.out (by decide) (by rw [HN.out, plain_word HEP.out rfl, if_pos hl]))
              go_wp2_with fail
              refine ret_tok3 (t := noTok) (x := .int .i64 0) (y := .int .i64 2) (g := w.heap.size) ((tok_set HW2.out).old _) (fun V hV => by have rv := hV.reads; simp [results, Tryz.results7, go_sem, rv, tokV, noTok, strB]) rfl ?_
              rw [HE.out]
              refine ⟨by first | rfl | simp, ?_⟩
              (repeat (first | with_reducible refine Below.drew ?_ | with_reducible refine bdrewN ?_ _ | (with_reducible refine Below.setCell ?_ ?_ _; rotate_left; focus (first | exact Nat.le_refl _ | omega | (simp; omega) | (simp; done))) | (with_reducible refine Below.alloc ?_ ?_ _; rotate_left; focus (first | exact Nat.le_refl _ | omega | (simp; omega) | (simp; done))))); with_reducible exact HB2.out
            · have e1 : decide ((127 : Int) < ((strB q).size : Int)) = false := decide_eq_false (by omega)
              have HE := Lib.hid (nextI_ok (t := ⟨4, 0, 0, q⟩) (m := k2) hkb HG.out hk7 (by rw [HN.out, plain_word HEP.out rfl, if_neg hl, HOFF.out]))
              go_wp2_with fail
              refine ret_tok3 (t := ⟨4, 0, 0, q⟩) (x := .int .i64 (k2 : Int)) (y := .int .i64 0) (g := w.heap.size) ((tok_set HW2.out).old _) (fun V hV => by have rv := hV.reads; simp [results, Tryz.results7, go_sem, rv, tokV]) rfl ?_
              rw [HE.out]
              refine ⟨by first | rfl | simp, ?_⟩
              (repeat (first | with_reducible refine Below.drew ?_ | with_reducible refine bdrewN ?_ _ | (with_reducible refine Below.setCell ?_ ?_ _; rotate_left; focus (first | exact Nat.le_refl _ | omega | (simp; omega) | (simp; done))) | (with_reducible refine Below.alloc ?_ ?_ _; rotate_left; focus (first | exact Nat.le_refl _ | omega | (simp; omega) | (simp; done))))); with_reducible exact HB2.out
        · have hrg : ¬ rgB x = true := by unfold rgB; rw [HSP.out, hm]; decide
          have HM := Lib.hid (fun w => mark_ref x w)
          rw [hm] at HM
          have HE := Lib.hid (nextI_err (e := 4) hkb HG.out (by decide) (HT.out.trans ((if_neg hrg).trans ((if_neg e91).trans ((if_neg e93).trans ((if_neg e47).trans ((if_neg e40).trans ((if_neg e60).trans (if_neg e62)))))))))
          clear hm hrg e91 e93 e60 e62 e40 e47
          go_wp2_with fail
          refine (HM.out _).mono ?_
          rintro e w8 ⟨rfl, rfl⟩
          go_wp2_with fail
          refine ret_tok3 (t := noTok) (x := .int .i64 0) (y := .int .i64 4) (g := w.heap.size) (tok_set HZ.out.1) (fun V hV => by have rv := hV.reads; simp [results, Tryz.results7, go_sem, rv, tokV, noTok, strB]) rfl ?_
          rw [HE.out]
          refine ⟨by first | rfl | simp, ?_⟩
          (repeat (first | with_reducible refine Below.drew ?_ | with_reducible refine bdrewN ?_ _ | (with_reducible refine Below.setCell ?_ ?_ _; rotate_left; focus (first | exact Nat.le_refl _ | omega | (simp; omega) | (simp; done))) | (with_reducible refine Below.alloc ?_ ?_ _; rotate_left; focus (first | exact Nat.le_refl _ | omega | (simp; omega) | (simp; done))))); with_reducible exact HZ.out.2.2
theorem next_ok {bs : List Nat} {a p : Int} {t : TokV} (h : nextI bs a = (0, t, p)) : ∃ (i : Nat) (q : List Nat), a = (i : Int) ∧ i ≤ bs.length ∧ nextL PN (bs.drop i) = (0, t, q) ∧ p = (bs.length : Int) - (q.length : Int) := by
  unfold nextI at h
  split at h
  · injection h with h _
    exact absurd h (by decide)
  · rename_i hr
    split at h
    · rename_i h0
      injection h with _ h
      injection h with h1 h2
      refine ⟨a.toNat, (nextL PN (bs.drop a.toNat)).2.2, by omega, by omega, ?_, h2.symm⟩
      rw [← h1]
      exact Prod.ext h0 rfl
    · rename_i h0
      injection h with h _
      exact absurd h h0
theorem next_grow {bs : List Nat} {a p : Int} {t : TokV} (h : nextI bs a = (0, t, p)) (hk : t.kind ≠ 0) : ∃ i k : Nat, a = (i : Int) ∧ p = (k : Int) ∧ i < k ∧ k ≤ bs.length := by
  obtain ⟨i, q, rfl, hi, hn, rfl⟩ := next_ok h
  obtain ⟨pp, hne, e1, e2⟩ := next_on hn hk
  have hl := congrArg List.length e1
  rw [List.length_drop, List.length_append] at hl
  have hp1 : 0 < pp.length := by cases pp with | nil => exact absurd rfl hne | cons _ _ => simp
  exact ⟨i, bs.length - q.length, rfl, by omega, by omega, by omega⟩
set_option maxRecDepth 100000 in
set_option maxHeartbeats 16000000 in
theorem reads_law {w : World} (A : Option Addr) (n c : Nat) (bs : List Nat) (at_ : Int) (h : Bytes w A n c bs) (hE : Env w) :
    Calls Tryz.prog 3 #[.slice A n c, .int .i64 at_] w (True_ w) := by
  by_cases hl : 500 < n
  · have d1 : decide ((500 : Int) < (n : Int)) = true := decide_eq_true (by omega)
    clear hl
    go_enter Tryz.func3, Tryz.ntmps3
    go_wp2_with fail
    go_ret
    exact ⟨rfl, Below.refl _ _⟩
  · have d1 : decide ((500 : Int) < (n : Int)) = false := decide_eq_false (by omega)
    have H := Lib.hid h
    have HE := Lib.hid hE
    have HL := Lib.hid h.len
    have hn5 : n ≤ 500 := by omega
    clear h hE hl
    go_enter Tryz.func3, Tryz.ntmps3
    go_wp2_with fail
    refine (own_ref bs n c A _ H.out (by omega)).mono ?_
    rintro e w1 ⟨A1, c1, rfl, hy, hb⟩
    have HO := Lib.hid hy
    have HB := Lib.hid hb
    clear hy hb
    go_wp2_with fail
    go_loopw [1, 6] (fun a i wr => ∃ (j : Nat) (x : Int), a = .int .i64 x ∧ i = .int .i64 (j : Int) ∧ j ≤ n + 1 ∧ Hid (j = 0 ∨ ∃ p : Nat, x = (p : Int) ∧ j ≤ p ∧ p ≤ n) ∧ Hid (Below w1.heap.size w1 wr)) (fun _ i _ => n + 2 - (intOf i).toNat)
    case atStart => exact ⟨0, at_, rfl, rfl, by omega, Lib.hid (.inl rfl), Lib.hid (Below.refl _ _)⟩
    case round =>
      obtain ⟨j, x, rfl, rfl, hj, HJ, HR⟩ := hrel
      have e1 : decide ((j : Int) ≤ (n : Int) + 1) = true := decide_eq_true (by omega)
      obtain ⟨⟨E, ⟨kd, zm, zs, zt⟩, p⟩, hz⟩ : ∃ z, nextI bs x = z := ⟨_, rfl⟩
      have HZ := Lib.hid hz
      have N1 : Hid (∀ w', Bytes w' A1 n c1 bs → MaxLen w' → Calls Tryz.prog 6 #[.slice A1 n c1, .int .i64 x] w' fun e w'' => e = .returned (.tuple #[.agg #[.int .i64 kd, .int .i64 zm, .int .i64 zs, .string (strB zt)], .int .i64 p, .int .i64 E]) ∧ Below w'.heap.size w' w'') := Lib.hid (fun w' hy hm => by
        have := Next_any A1 n c1 bs x w' hy (by omega) hm
        rw [hz] at this
        exact this)
      have N2 : Hid (∀ w', Bytes w' A n c bs → Calls Tryz.prog 7 #[.slice A n c, .int .i64 x] w' fun e w'' => e = .returned (.tuple #[.agg #[.int .i64 kd, .int .i64 zm, .int .i64 zs, .string (strB zt)], .int .i64 p, .int .i64 E]) ∧ Below w'.heap.size w' w'') := Lib.hid (fun w' hy => by
        have := next_ref A n c bs x w' hy (by omega)
        rw [hz] at this
        exact this)
      clear hz
      have HB0 := Lib.hid (HB.out.trans (HR.out.mono HB.out.size))
      go_wp2_with fail
      refine (N1.out _ (HO.out.below HR.out) (maxLen_below HB0.out HE.out.1)).mono ?_
      rintro e w2 ⟨rfl, hb⟩
      have hb1 := hb.alloc hb.size (.cells #[.int .i64 kd, .int .i64 zm, .int .i64 zs, .string (strB zt)] 27)
      have HQ2 := Lib.hid (HR.out.trans (hb1.mono HR.out.size))
      have HT := Lib.hid (Whole.made w2 27 #[.int .i64 kd, .int .i64 zm, .int .i64 zs, .string (strB zt)])
      clear hb hb1
      go_wp2_with fail
      refine (N2.out _ ((H.out.below HB.out).below HQ2.out)).mono ?_
      rintro e w3 ⟨rfl, hb⟩
      have hT3 := HT.out.here hb
      have r0 : w3.cell? ⟨w2.heap.size, 0, none⟩ = some (.int .i64 kd) := hT3.reads 0
      have r1 : w3.cell? ⟨w2.heap.size, 1, none⟩ = some (.int .i64 zm) := hT3.reads 1
      have r2 : w3.cell? ⟨w2.heap.size, 2, none⟩ = some (.int .i64 zs) := hT3.reads 2
      have r3 : w3.cell? ⟨w2.heap.size, 3, none⟩ = some (.string (strB zt)) := hT3.reads 3
      have lT := hT3.lt
      have hb1 := hb.alloc hb.size (.cells #[.int .i64 kd, .int .i64 zm, .int .i64 zs, .string (strB zt)] 27)
      have HQ3 := Lib.hid (HQ2.out.trans (hb1.mono HQ2.out.size))
      have HB3 := Lib.hid (HB.out.trans (HQ3.out.mono HB.out.size))
      clear hb hb1 hT3
      by_cases hE0 : E = 0
      · have z1 : (E != 0) = false := by simp [hE0]
        have z1' : (E == 0) = true := by simp [hE0]
        by_cases hk : kd = 0
        · have z2 : (kd == 0) = true := by simp [hk]
          clear hE0 hk
          go_wp2_with fail
          refine (awake_any _ (HE.out.below HB3.out)).mono ?_
          rintro e w4 ⟨rfl, hb⟩
          have HB4 := Lib.hid (HB3.out.trans (hb.mono HB3.out.size))
          have hs1 := (((HO.out.below HQ3.out).below hb)).str
          have hs2 := (((H.out.below HB.out).below HQ3.out).below hb).str
          clear hb
          go_wp2_with fail
          go_ret
          exact ⟨rfl, HB4.out⟩
        · have z2 : (kd == 0) = false := by simpa using hk
          have HG := Lib.hid (next_grow (show nextI bs x = (0, ⟨kd, zm, zs, zt⟩, p) by rw [HZ.out, hE0]) hk)
          clear hE0 hk
          obtain ⟨i1, k1, hx1, rfl, hik, hkn⟩ := HG.out
          rw [HL.out] at hkn
          have HN := Lib.hid (show j + 1 ≤ k1 from by
            rcases HJ.out with h | ⟨p, h, h1, h2⟩
            · omega
            · omega)
          clear hx1
          go_wp2_with fail
          go_roundw
          case rel => exact ⟨j + 1, (k1 : Int), rfl, by go_num, by have := HN.out; omega, Lib.hid (.inr ⟨k1, rfl, HN.out, hkn⟩), HQ3⟩
          case measure => simp [intOf]; omega
      · have z1 : (E != 0) = true := by simpa using hE0
        have z1' : (E == 0) = false := by simpa using hE0
        clear hE0
        go_wp2_with fail
        refine (awake_any _ (HE.out.below HB3.out)).mono ?_
        rintro e w4 ⟨rfl, hb⟩
        have HB4 := Lib.hid (HB3.out.trans (hb.mono HB3.out.size))
        have hs1 := (((HO.out.below HQ3.out).below hb)).str
        have hs2 := (((H.out.below HB.out).below HQ3.out).below hb).str
        clear hb
        go_wp2_with fail
        go_ret
        exact ⟨rfl, HB4.out⟩
end Go.Proofs.YtdiaijdobglaaaaGreatDoor
