/- The reference's Get of layer 11: a walk. -/
import Derived.Test.YtbghmbcipekboaaRunRefP
namespace Go.Proofs.Ytbghmbcipekboaa
open Go.RowKit

theorem refg_one {w wr w4 : World} {n : Nat} {a : Option Addr} {c : Nat} {xs : List Value} {o : Obj} (ho : wr.ownsRow w.heap.size 5 1 (.slice a n c) n xs) (hb : Below w.heap.size w wr)
    (hg : (wr.alloc o).grownBy w4 (Value.slice a n c).ownBlock) : Below w.heap.size w w4 := (hb.alloc hb.size _).grown hg (by simp; have := hb.size; omega) (fun j e => (own_lt ho e).1)
theorem drop_at {bs : List Nat} {p x : Nat} (h : bs[p]? = some x) : bs.drop p = x :: bs.drop (p + 1) := by
  obtain ⟨hp, e⟩ := List.getElem?_eq_some_iff.1 h
  rw [List.drop_eq_getElem_cons hp, e]
set_option maxRecDepth 100000 in
set_option maxHeartbeats 4000000 in
theorem refget_ok (A : Option Addr) (n c most : Nat) (bs : List Nat) (w : World) (h : Bytes w A n c bs) (hn : n ≤ 100000) (hm : most ≤ 1048576) :
    Calls Try.prog 11 #[.slice A n c, .int .i64 most] w (GetIs (getM most bs []) w) := by
  have hl := h.len
  have hcap := h.cap
  have htop := h.top
  obtain rfl := hl
  have H := Lib.hid h
  clear h
  go_enter Try.func11, Try.ntmps11
  go_wp2
  go_loopg [6, 7] bs.length (fun g v x wr => ∃ (p : Nat) (acc : List Nat), g + p = bs.length ∧ x = .int .i64 p ∧ wr.ownsRow w.heap.size 5 1 v acc.length (bvs acc) ∧ (∀ y ∈ acc, y < 256) ∧ Below w.heap.size w wr ∧ acc.length ≤ most ∧ getM most (bs.drop p) acc = getM most bs [])
  case atStart => exact ⟨0, [], by omega, rfl, ⟨rfl, .inl ⟨rfl, rfl⟩⟩, by simp, Below.refl _ _, by simp, rfl⟩
  case round =>
    obtain ⟨p, acc, hgp, rfl, hown, hbyte, hbel, hacc, hget⟩ := hrel
    obtain ⟨a0, ca, rfl⟩ := own_slice hown
    have HX := Lib.hid (And.intro hown hbel)
    have HBY := Lib.hid hbyte
    have HGET := Lib.hid hget
    have hsz0 := hbel.size
    clear hown hbyte hbel hget
    by_cases hlt : p < bs.length
    · obtain ⟨R, o, hA, hR, hcell⟩ := H.out.at_ (by omega)
      obtain rfl := hA
      obtain ⟨x, hx⟩ : ∃ x, bs[p]? = some x := ⟨bs[p], List.getElem?_eq_getElem hlt⟩
      have hx2 : x < 256 := H.out.byte x (List.mem_of_getElem? hx)
      have hcx : wr.cell? ⟨R, o + p, none⟩ = some (.int .u8 (x : Int)) := (HX.out.2.cell (p := ⟨R, o + p, none⟩) hR).trans (hcell p x hx)
      have HDA := Lib.hid (drop_at hx)
      have HC := Lib.hid hcell
      clear hcell hx
      by_cases e1 : x = 128
      · subst e1
        have hfin := HGET.out
        rw [HDA.out, getM_end] at hfin
        have HF := Lib.hid hfin
        clear hfin
        go_wp2
        go_ret2
        rw [← HF.out]
        obtain ⟨A4, c4, e4, hy4⟩ := own_bytes HX.out.1 HBY.out
        injection e4 with e4 _ e5
        subst e4 e5
        exact ⟨HX.out.2, _, _, rfl, hy4⟩
      have b1 : ((x : Int) == 128) = false := by simp; omega
      by_cases e2 : x < 128
      · have b2 : decide ((x : Int) < 128) = true := by simp; omega
        have hdl : (bs.drop (p + 1)).length = bs.length - (p + 1) := List.length_drop ..
        by_cases e3 : bs.length < p + 1 + x + 1
        · have hfin := HGET.out
          rw [HDA.out, getM_copy _ _ _ _ e2, if_pos (by omega)] at hfin
          have HF := Lib.hid hfin
          clear hfin hdl
          have b3 : (bs.length : Int) < (p : Int) + 1 + (x : Int) + 1 := by omega
          go_wp2
          go_ret2
          rw [← HF.out]
          exact ⟨HX.out.2, rfl⟩
        have b3 : ¬ ((bs.length : Int) < (p : Int) + 1 + (x : Int) + 1) := by omega
        by_cases e4 : most < acc.length + (x + 1)
        · have hfin := HGET.out
          rw [HDA.out, getM_copy _ _ _ _ e2, if_neg (by omega), if_pos e4] at hfin
          have HF := Lib.hid hfin
          clear hfin hdl
          have b4 : (most : Int) < (acc.length : Int) + (x : Int) + 1 := by omega
          go_wp2
          go_ret2
          rw [← HF.out]
          exact ⟨HX.out.2, rfl⟩
        have b4 : ¬ ((most : Int) < (acc.length : Int) + (x : Int) + 1) := by omega
        have hfin := HGET.out
        rw [HDA.out, getM_copy _ _ _ _ e2, if_neg (by omega), if_neg e4] at hfin
        have HF := Lib.hid hfin
        clear hfin hdl
        go_wp2_with (refine wpList_app (o := ⟨some 54, _, _, _, _, _⟩) rfl (.tmp 46) (.tmp 53) rfl w.heap.size acc.length (x + 1) (c - (p + 1)) (.slice a0 acc.length ca) acc ((bs.drop (p + 1)).take (x + 1)) (some ⟨R, o + (p + 1), none⟩) ?k1 ?k2 ?k3 ?k4 ?k5 ?k6 ?k7)
        case k2 => go_simp; try omega
        case k3 => exact HX.out.1
        case k4 => exact ((H.out.below HX.out.2).tail (by omega)).head (by omega)
        case k5 => omega
        intro v5 w5 hown5 hgrow5
        have H5 := Lib.hid (And.intro hown5 (HX.out.2.grown hgrow5 HX.out.2.size (fun j e => (own_lt HX.out.1 e).1)))
        clear hown5 hgrow5
        go_wp2
        go_roundg (gk - (x + 2))
        case measure => omega
        case rel =>
          refine ⟨p + 1 + (x + 1), acc ++ (bs.drop (p + 1)).take (x + 1), by omega, by go_num, ?_, ?_, H5.out.2, ?_, ?_⟩
          · rw [show (acc ++ (bs.drop (p + 1)).take (x + 1)).length = acc.length + (x + 1) by simp; omega]
            exact H5.out.1
          · intro y hy
            rcases List.mem_append.1 hy with hy | hy
            · exact HBY.out y hy
            · exact H.out.byte y (List.mem_of_mem_drop (List.mem_of_mem_take hy))
          · rw [show (acc ++ (bs.drop (p + 1)).take (x + 1)).length = acc.length + (x + 1) by simp; omega]
            omega
          · rw [← HF.out, List.drop_drop]
      · have b2 : decide ((x : Int) < 128) = false := by simp; omega
        have b2' : ¬ ((x : Int) < 128) := by omega
        by_cases e3 : bs.length ≤ p + 1
        · have hfin := HGET.out
          rw [HDA.out, List.drop_eq_nil_of_le e3, getM_rep0 _ _ _ (by omega)] at hfin
          have HF := Lib.hid hfin
          clear hfin
          have b3 : (bs.length : Int) ≤ (p : Int) + 1 := by omega
          go_wp2
          go_ret2
          rw [← HF.out]
          exact ⟨HX.out.2, rfl⟩
        have b3 : ¬ ((bs.length : Int) ≤ (p : Int) + 1) := by omega
        obtain ⟨y, hy⟩ : ∃ y, bs[p + 1]? = some y := ⟨bs[p + 1], List.getElem?_eq_getElem (by omega)⟩
        have hy2 : y < 256 := H.out.byte y (List.mem_of_getElem? hy)
        have hcy := HC.out (p + 1) y hy
        have HDB := Lib.hid (drop_at hy)
        have HCY := Lib.hid hcy
        clear hy hcy
        by_cases e4 : most < acc.length + (257 - x)
        · have hfin := HGET.out
          rw [HDA.out, HDB.out, getM_rep _ _ _ _ _ (by omega), if_pos e4] at hfin
          have HF := Lib.hid hfin
          clear hfin
          have b4 : (most : Int) < (acc.length : Int) + 257 - (x : Int) := by omega
          go_wp2
          go_ret2
          rw [← HF.out]
          exact ⟨HX.out.2, rfl⟩
        have b4 : ¬ ((most : Int) < (acc.length : Int) + 257 - (x : Int)) := by omega
        have hfin := HGET.out
        rw [HDA.out, HDB.out, getM_rep _ _ _ _ _ (by omega), if_neg e4] at hfin
        have HF := Lib.hid hfin
        clear hfin
        obtain ⟨G, rfl⟩ : ∃ G, G = gk := ⟨_, rfl⟩
        go_wp2
        go_loopg [6, 9] (257 - x) (fun g v z wq => ∃ k, g + k = 257 - x ∧ z = .int .i64 k ∧ wq.ownsRow w.heap.size 5 1 v (acc.length + k) (bvs (acc ++ List.replicate k y)) ∧ Below w.heap.size w wq)
        case atStart => exact ⟨0, by omega, rfl, by simpa using HX.out.1, HX.out.2⟩
        case round =>
          obtain ⟨k, hgk, rfl, hown, hbel⟩ := hrel
          obtain ⟨a1, c1, rfl⟩ := own_slice hown
          have hcq : wr.cell? ⟨R, o + (p + 1), none⟩ = some (.int .u8 (y : Int)) := (hbel.cell (p := ⟨R, o + (p + 1), none⟩) hR).trans HCY.out
          have HQ := Lib.hid (And.intro hown hbel)
          have hszq := hbel.size
          clear hown hbel
          by_cases hk : k < 257 - x
          · have c4 : (k : Int) < 257 - (x : Int) := by omega
            have p1 : (p : Int) + 1 < (bs.length : Int) := by omega
            go_wp2_with (refine wpList_app (o := ⟨some 82, _, _, _, _, _⟩) rfl (.tmp 76) (.tmp 81) rfl w.heap.size (acc.length + k) 1 1 (.slice a1 (acc.length + k) c1) (acc ++ List.replicate k y) [y] (some ⟨wr.heap.size, 0, none⟩) ?rh1 ?rh2 ?rh3 ?rh4 ?rh5 ?rh6 ?rh7)
            case rh3 => exact HQ.out.1.alloc _
            case rh4 => exact bytes_one _ _ y rfl hy2
            case rh5 => omega
            case rh6 => simp; omega
            case rh1 => rfl
            case rh2 => rfl
            intro v5 w5 hown5 hgrow5
            have H5 := Lib.hid (And.intro hown5 (refg_one HQ.out.1 HQ.out.2 hgrow5))
            clear hown5 hgrow5
            go_wp2
            go_roundg (gk - 1)
            case measure => omega
            case rel =>
              refine ⟨k + 1, by omega, by go_num, ?_, H5.out.2⟩
              have := H5.out.1
              rw [List.replicate_succ', ← List.append_assoc]
              rw [← Nat.add_assoc]
              simpa using this
          · obtain rfl : k = 257 - x := by omega
            have c4 : ¬ (((257 - x : Nat) : Int) < 257 - (x : Int)) := by omega
            go_wp2
            go_roundg (G - 2)
            case measure => omega
            case rel =>
              refine ⟨p + 1 + 1, acc ++ List.replicate (257 - x) y, by omega, by go_num, ?_, ?_, HQ.out.2, ?_, ?_⟩
              · rw [show (acc ++ List.replicate (257 - x) y).length = acc.length + (257 - x) by simp]
                exact HQ.out.1
              · intro z hz
                rcases List.mem_append.1 hz with hz | hz
                · exact HBY.out z hz
                · rw [List.eq_of_mem_replicate hz]; exact hy2
              · rw [show (acc ++ List.replicate (257 - x) y).length = acc.length + (257 - x) by simp]
                omega
              · exact HF.out
    · have hfin := HGET.out
      rw [List.drop_eq_nil_of_le (by omega), getM_nil] at hfin
      have HF := Lib.hid hfin
      clear hfin
      have b3 : (bs.length : Int) ≤ (p : Int) := by omega
      go_wp2
      go_ret2
      rw [← HF.out]
      exact ⟨HX.out.2, rfl⟩
end Go.Proofs.Ytbghmbcipekboaa
