/- lex: name. -/
import Derived.Test.YtdiaijdobglaaaaGreatDoorLexE
namespace Go.Proofs.YtdiaijdobglaaaaGreatDoor
open Go.RowKit

theorem nm_plain {l acc : List Nat} {k x : Nat} (h : l[k]? = some x) (hx : x ≠ 35) : nmL acc (l.drop k) = nmL (acc ++ [x]) (l.drop (k + 1)) := by
  rw [nmL_eq, drop_at h, if_neg (by simp), if_pos (show hd (x :: l.drop (k + 1)) ≠ 35 from hx)]
  rfl
theorem nm_hex {l acc : List Nat} {k x y a b : Nat} (h : l[k]? = some 35) (h1 : l[k + 1]? = some x) (h2 : l[k + 2]? = some y) (ha : hexD x = some a) (hb : hexD y = some b) :
    nmL acc (l.drop k) = if 16 * a + b = 0 then none else nmL (acc ++ [16 * a + b]) (l.drop (k + 3)) := by
  rw [nmL_eq, drop_at h, drop_at h1, drop_at h2, if_neg (by simp), if_neg (show ¬ hd (35 :: x :: y :: l.drop (k + 2 + 1)) ≠ 35 from fun e => e rfl), if_neg (by simp)]
  have e1 : hexD (hd ((35 :: x :: y :: l.drop (k + 2 + 1)).drop 1)) = some a := ha
  have e2 : hexD (hd ((35 :: x :: y :: l.drop (k + 2 + 1)).drop 2)) = some b := hb
  rw [e1, e2]
  rfl
theorem nm_bad {l acc : List Nat} {k : Nat} (h : l[k]? = some 35) (hh : l.length < k + 3 ∨ ∃ x y, l[k + 1]? = some x ∧ l[k + 2]? = some y ∧ (hexD x = none ∨ hexD y = none)) : nmL acc (l.drop k) = none := by
  have hk := (List.getElem?_eq_some_iff.1 h).1
  have h35 : hd (l.drop k) = 35 := hd_at h
  rw [nmL_eq, if_neg (by rw [List.length_drop]; omega), if_neg (by rw [h35]; decide)]
  by_cases hl : (l.drop k).length < 3
  · rw [if_pos hl]
  · rw [if_neg hl]
    rcases hh with hh | ⟨x, y, h1, h2, h3⟩
    · rw [List.length_drop] at hl; omega
    · have e1 : hd ((l.drop k).drop 1) = x := by rw [List.drop_drop]; exact hd_at h1
      have e2 : hd ((l.drop k).drop 2) = y := by rw [List.drop_drop]; exact hd_at h2
      rw [e1, e2]
      rcases h3 with h3 | h3
      · rw [h3]
      · rw [h3]
        cases hexD x <;> rfl
theorem nm_end {l acc : List Nat} {k : Nat} (h : l.length ≤ k) : nmL acc (l.drop k) = some acc := by
  rw [nmL_eq, if_pos (by rw [List.length_drop]; omega)]
/-- A row of bytes of one's own, and a reader of one's own, and a result's cells, all behind what was there. -/
structure NmS (w wr : World) (A : Option Addr) (n c k : Nat) (v : Value) (acc : List Nat) : Prop where
  own : wr.ownsRow (w.heap.size + 2) 5 1 v acc.length (bvs acc)
  box : Whole wr (w.heap.size + 1) 38 #[.slice A n c, .int .i64 (k : Int)]
  res : Whole wr w.heap.size 27 #[.int .i64 0, .int .i64 0, .int .i64 0, .string ⟨#[]⟩]
  below : Below w.heap.size w wr
  byte : ∀ b ∈ acc, b < 256
section
variable {w wr w1 : World} {A : Option Addr} {n c k : Nat} {v : Value} {acc body : List Nat}
theorem NmS.rdr (h : NmS w wr A n c k v acc) (hb : Bytes w A n c body) (hk : k ≤ n) (hs : n ≤ 1000000000) : Rdr wr (w.heap.size + 1) A n c body k :=
  ⟨h.box, hb.below h.below, fun hn B o e => by
    obtain ⟨B', o', e', hB, _⟩ := hb.at_ hn
    rw [e] at e'
    injection e' with e'
    injection e' with e1 _
    omega, hk, hs⟩
theorem NmS.moved {k' : Nat} (h : NmS w wr A n c k v acc) (hr : Rdr w1 (w.heap.size + 1) A n c body k') (f : FrR (w.heap.size + 1) wr w1) : NmS w w1 A n c k' v acc :=
  ⟨own_frame h.own f (fun g e => by have := (own_lt h.own e).1; show ¬ g = w.heap.size + 1; omega), hr.box, h.res.frame f (by show ¬ w.heap.size = w.heap.size + 1; omega),
    h.below.trans (f.below h.below.size (fun j hj => by show ¬ j = w.heap.size + 1; omega)), h.byte⟩
theorem NmS.draw (h : NmS w wr A n c k v acc) (j : Nat) : NmS w (wr.drewN j) A n c k v acc :=
  ⟨own_frame h.own ((Fr.refl (fun _ => False) wr).drewN j) (fun _ _ h => h), h.box, h.res, below_drewN h.below j, h.byte⟩
theorem NmS.push {v' : Value} {x : Nat} {o : Obj} (h : NmS w wr A n c k v acc) (hx : x < 256) (hown : w1.ownsRow (w.heap.size + 2) 5 1 v' (acc.length + 1) (bvs acc ++ [.int .u8 (x : Int)])) (hg : (wr.alloc o).grownBy w1 v.ownBlock) : NmS w w1 A n c k v' (acc ++ [x]) :=
  ⟨by rw [List.length_append, bvs_append]; exact hown, (h.box.old o).kept hg (fun e => by have := (own_lt h.own e.symm).1; omega), (h.res.old o).kept hg (fun e => by have := (own_lt h.own e.symm).1; omega),
    (h.below.alloc h.below.size o).grown hg (by have := h.below.size; simp; omega) (fun j e => by have := (own_lt h.own e).1; omega), fun b hb => by
      rcases List.mem_append.1 hb with hb | hb
      · exact h.byte b hb
      · rw [List.mem_singleton.1 hb]; exact hx⟩
end
theorem own_slice {w : World} {base : Nat} {e : TypeId} {size : Nat} {v : Value} {n : Nat} {xs : List Value} (h : w.ownsRow base e size v n xs) : ∃ a c, v = .slice a n c := by
  rcases h.2 with ⟨rfl, rfl⟩ | ⟨g, cap, cur, rfl, _⟩
  · exact ⟨_, _, rfl⟩
  · exact ⟨_, _, rfl⟩
theorem own_bytes {W : World} {base : Nat} {a : Option Addr} {c n : Nat} {bs : List Nat} (h : W.ownsRow base 5 1 (.slice a n c) n (bvs bs)) (hb : ∀ b ∈ bs, b < 256) : Bytes W a n c bs := by
  obtain ⟨A, c', R, e, _, _, hr⟩ := Row8.of_own h hb
  injection e with e1 e2 e3
  subst e1 e3
  exact hr.bytes
set_option maxRecDepth 100000 in
set_option maxHeartbeats 8000000 in
theorem name_any (A : Option Addr) (n c : Nat) (body : List Nat) (w : World) (h : Bytes w A n c body) (hn : n ≤ 1000000000) :
    Calls Tryz.prog 34 #[.slice A n c] w (TokAns (limT 2 (nmL [] body)).1 (limT 2 (nmL [] body)).2 w) := by
  obtain ⟨i0, hi, hz0, hz1, hz2⟩ := info_parts info8
  have hlen := h.len
  have H := Lib.hid h
  have HN := Lib.hid hlen
  clear h hlen
  have H0 : Hid (NmS w ((w.alloc (.cells #[.int .i64 0, .int .i64 0, .int .i64 0, .string ⟨#[]⟩] 27)).alloc (.cells #[.slice A n c, .int .i64 0] 38)) A n c 0 (.slice none 0 0) []) := Lib.hid ⟨World.ownsRow_nil _ _ _ _, by
      have := Whole.made (w.alloc (.cells #[.int .i64 0, .int .i64 0, .int .i64 0, .string ⟨#[]⟩] 27)) 38 #[.slice A n c, .int .i64 0]
      simpa using this, (Whole.made w _ _).old _, ((Below.refl _ _).alloc (Nat.le_refl _) _).alloc (by simp) _, fun b hb => by simp at hb⟩
  go_enter Tryz.func34, Tryz.ntmps34
  go_wp2_with fail
  go_loopg [5] n (fun g v wr => ∃ (k : Nat) (acc : List Nat), g + k = n ∧ acc.length ≤ k ∧ Hid (NmS w wr A n c k v acc) ∧ Hid (nmL [] body = nmL acc (body.drop k)))
  case atStart => exact ⟨0, [], by omega, by simp, H0, Lib.hid rfl⟩
  case round =>
    obtain ⟨k, acc, hg, hal, HS, HA⟩ := hrel
    obtain ⟨a0, cc, rfl⟩ := own_slice HS.out.own
    have HR := Lib.hid (HS.out.rdr H.out (by omega) hn)
    have lR := HS.out.box.lt
    have lS := HS.out.res.lt
    by_cases hk : k < n
    · obtain ⟨x, hx⟩ : ∃ x, body[k]? = some x := ⟨_, List.getElem?_eq_getElem (by rw [HN.out]; exact hk)⟩
      have hx2 := H.out.byte x (List.mem_of_getElem? hx)
      have HX := Lib.hid hx
      have HK := Lib.hid hk
      clear hx
      go_wp2_with fail
      refine (more_t HR.out HK.out).mono ?_
      rintro e w1 ⟨rfl, j, rfl⟩
      go_wp2_with fail
      refine (take_any _ A n c body k x _ (HR.out.drewN j) HX.out).mono ?_
      rintro e w1 ⟨rfl, hr, hf⟩
      have HS1 := Lib.hid ((HS.out.draw j).moved hr hf)
      have HR1 := Lib.hid hr
      clear hr hf
      have lR1 := HS1.out.box.lt
      by_cases h35 : x = 35
      · have e1 : ((x : Int) == 35) = true := by simp; omega
        have HX5 : Hid (body[k]? = some 35) := Lib.hid (by rw [HX.out, h35])
        clear h35
        go_wp2_with fail
        refine (hexByte_any _ A n c body (k + 1) _ HR1.out).mono ?_
        rintro e w2 (⟨y, z, a, b, ⟨rfl, hr, hf⟩, hy, hz, ha, hb⟩ | ⟨vv, k', ⟨rfl, hr, hf⟩, hbad⟩)
        · have HE := Lib.hid (nm_hex (acc := acc) HX5.out hy hz ha hb)
          have ha16 := hexD_lt ha
          have hb16 := hexD_lt hb
          have HS2 := Lib.hid (HS1.out.moved hr hf)
          have hle := hr.le
          have lR2 := HS2.out.box.lt
          have lS2 := HS2.out.res.lt
          have rd := HS2.out.res.reads
          have ft := HS2.out.res.thawed
          clear hr hf hy hz ha hb HS HS1 HR HR1
          by_cases h0 : 16 * a + b = 0
          · have HE0 := Lib.hid (show nmL [] body = none by rw [HA.out, HE.out, if_pos h0])
            have e2 : (((16 * a + b : Nat) : Int) == 0) = true := by simp; omega
            have HZ := Lib.hid h0
            clear h0 HE
            generalize 16 * a + b = q at *
            go_wp2_with fail
            refine bodyPost_ret (v := .tuple #[tokV noTok, .int .i64 4]) (by simp [results, Tryz.results34, go_sem, rd, tokV, noTok]; rfl) rfl ?_
            rw [HE0.out]
            refine ⟨rfl, ?_⟩
            (repeat (first | with_reducible refine Below.drew ?_ | with_reducible refine bdrewN ?_ _ | (with_reducible refine Below.setCell ?_ ?_ _; rotate_left; focus (first | exact Nat.le_refl _ | omega | (simp; omega) | (simp; done))) | (with_reducible refine Below.alloc ?_ ?_ _; rotate_left; focus (first | exact Nat.le_refl _ | omega | (simp; omega) | (simp; done))))); with_reducible exact HS2.out.below
          · have HE0 := Lib.hid (show nmL [] body = nmL (acc ++ [16 * a + b]) (body.drop (k + 3)) by rw [HA.out, HE.out, if_neg h0])
            have e2 : (((16 * a + b : Nat) : Int) == 0) = false := by simp; omega
            have hq : 16 * a + b < 256 := by omega
            clear h0 HE
            generalize 16 * a + b = q at *
            go_wp2_with (at_builtin; refine wpList_append_own _ rfl _ _ 22 rfl (w.heap.size + 2) 5 i0 (.int .u8 0) 1 1 Tryz.underlying22 hi hz0 hz1 hz2 rfl (by decide) _ _ _ rfl (HS2.out.own.alloc _) ⟨w2.heap.size, 0, none⟩ 1 1 [.int .u8 (q : Int)] rfl rfl ?ca1 ?ca2 ?ca3 ?ca4 ?ca5 ?_)
            case ca1 => exact cell_one_new _ _ _
            case ca2 => simp [Value.oneCell']
            case ca3 => unfold maxLen; omega
            case ca4 => omega
            case ca5 => first | omega | (simp; omega)
            intro v' w3 hown' hgrow _
            obtain ⟨a1, c1, rfl⟩ := own_slice hown'
            have HS3 := Lib.hid (HS2.out.push hq hown' hgrow)
            clear hown' hgrow rd ft lR2 lS2
            go_wp2_with fail
            go_roundg (n - (k + 3))
            case measure => omega
            case rel => exact ⟨k + 3, acc ++ [q], by omega, by rw [List.length_append]; simp; omega, HS3, HE0⟩
        · have HE0 := Lib.hid (show nmL [] body = none by
            rw [HA.out]
            refine nm_bad HX5.out ?_
            rcases hbad with hb | hb
            · exact .inl (by rw [HN.out]; omega)
            · exact .inr hb)
          have HS2 := Lib.hid (HS1.out.moved hr hf)
          have lR2 := HS2.out.box.lt
          have lS2 := HS2.out.res.lt
          have rd := HS2.out.res.reads
          have ft := HS2.out.res.thawed
          clear hr hf hbad HS HS1 HR HR1
          go_wp2_with fail
          refine bodyPost_ret (v := .tuple #[tokV noTok, .int .i64 4]) (by simp [results, Tryz.results34, go_sem, rd, tokV, noTok]; rfl) rfl ?_
          rw [HE0.out]
          refine ⟨rfl, ?_⟩
          (repeat (first | with_reducible refine Below.drew ?_ | with_reducible refine bdrewN ?_ _ | (with_reducible refine Below.setCell ?_ ?_ _; rotate_left; focus (first | exact Nat.le_refl _ | omega | (simp; omega) | (simp; done))) | (with_reducible refine Below.alloc ?_ ?_ _; rotate_left; focus (first | exact Nat.le_refl _ | omega | (simp; omega) | (simp; done))))); with_reducible exact HS2.out.below
      · have e1 : ((x : Int) == 35) = false := by simp; omega
        have HE0 := Lib.hid (show nmL [] body = nmL (acc ++ [x]) (body.drop (k + 1)) by rw [HA.out, nm_plain HX.out h35])
        clear h35 HS HR HR1
        go_wp2_with (at_builtin; refine wpList_append_own _ rfl _ _ 22 rfl (w.heap.size + 2) 5 i0 (.int .u8 0) 1 1 Tryz.underlying22 hi hz0 hz1 hz2 rfl (by decide) _ _ _ rfl (HS1.out.own.alloc _) ⟨w1.heap.size, 0, none⟩ 1 1 [.int .u8 (x : Int)] rfl rfl ?cb1 ?cb2 ?cb3 ?cb4 ?cb5 ?_)
        case cb1 => exact cell_one_new _ _ _
        case cb2 => simp [Value.oneCell']
        case cb3 => unfold maxLen; omega
        case cb4 => omega
        case cb5 => first | omega | (simp; omega)
        intro v' w3 hown' hgrow _
        obtain ⟨a1, c1, rfl⟩ := own_slice hown'
        have HS3 := Lib.hid (HS1.out.push hx2 hown' hgrow)
        clear hown' hgrow
        go_wp2_with fail
        go_roundg (gk - 1)
        case measure => omega
        case rel => exact ⟨k + 1, acc ++ [x], by omega, by rw [List.length_append]; simp; omega, HS3, HE0⟩
    · have HE0 := Lib.hid (show nmL [] body = some acc by rw [HA.out, nm_end (by rw [HN.out]; omega)])
      have HK := Lib.hid hk
      clear hk
      go_wp2_with fail
      refine (more_f HR.out HK.out).mono ?_
      rintro e w1 ⟨rfl, j, rfl⟩
      go_wp2_with fail
      have hob := own_bytes (HS.out.draw j).own HS.out.byte
      refine (limited_any 2 a0 acc.length cc acc _ hob).mono ?_
      rintro e w1 ⟨rfl, hb⟩
      have hres := ((HS.out.draw j).res).here hb
      have rd := hres.reads
      have ft := hres.thawed
      have lS1 := hres.lt
      have HB := Lib.hid ((HS.out.draw j).below.trans (hb.mono (HS.out.draw j).below.size))
      clear hb hres hob
      obtain ⟨⟨z1, ⟨kd, zm, zs, zt⟩⟩, hz⟩ : ∃ z, limT 2 (some acc) = z := ⟨_, rfl⟩
      rw [hz]
      have HZ := Lib.hid hz
      clear hz
      simp only [tokV]
      go_wp2_with fail
      refine bodyPost_ret (v := .tuple #[.agg #[.int .i64 kd, .int .i64 zm, .int .i64 zs, .string (strB zt)], .int .i64 z1]) (by simp [results, Tryz.results34, go_sem, rd]) rfl ?_
      rw [HE0.out, HZ.out]
      refine ⟨rfl, ?_⟩
      (repeat (first | with_reducible refine Below.drew ?_ | with_reducible refine bdrewN ?_ _ | (with_reducible refine Below.setCell ?_ ?_ _; rotate_left; focus (first | exact Nat.le_refl _ | omega | (simp; omega) | (simp; done))) | (with_reducible refine Below.alloc ?_ ?_ _; rotate_left; focus (first | exact Nat.le_refl _ | omega | (simp; omega) | (simp; done))))); with_reducible exact HB.out
end Go.Proofs.YtdiaijdobglaaaaGreatDoor
