/- The reference's Put of layer 11: a walk. -/
import Derived.Test.YtbghmbcipekboaaRunRef
import Derived.Test.YtbghmbcipekboaaRunPut
import Derived.Test.YtbghmbcipekboaaRunBackL
import Derived.BigQuiet
namespace Go.Proofs.Ytbghmbcipekboaa
open Go.RowKit

theorem bytes_one (w : World) (z : Int) (x : Nat) (hz : z = x) (hx : x < 256) : Bytes (w.alloc (.cells #[.int .u8 z] 5)) (some ⟨w.heap.size, 0, none⟩) 1 1 [x] := by
  subst hz
  exact bytes_lit w [x] (by simpa using hx) (by simp)
theorem refp_one {w wr w4 : World} {n q : Nat} {a : Option Addr} {c : Nat} {xs : List Value} {o : Obj} (ho : wr.ownsRow w.heap.size 5 1 (.slice a n c) n xs) (hb : Below w.heap.size w wr)
    (hg : ((wr.drewN q).alloc o).grownBy w4 (Value.slice a n c).ownBlock) : Below w.heap.size w w4 :=
  (((show Below w.heap.size w (wr.drewN q) from ⟨hb.os, hb.tape, hb.output, hb.size, hb.block⟩).alloc hb.size _)).grown hg (by simp; have := hb.size; omega) (fun j e => (own_lt ho e).1)
theorem bytes_two (w : World) (z : Int) (x y : Nat) (hz : z = y) (hx : x < 256) (hy : y < 256) : Bytes (w.alloc (.cells #[.int .u8 z, .int .u8 x] 5)) (some ⟨w.heap.size, 0, none⟩) 2 2 [y, x] := by
  subst hz
  exact bytes_lit w [y, x] (by simp; omega) (by simp)
set_option maxRecDepth 100000 in
set_option maxHeartbeats 4000000 in
theorem refput_ok (A : Option Addr) (n c : Nat) (bs : List Nat) (w : World) (h : Bytes w A n c bs) (hn : n ≤ 100000) :
    Calls Try.prog 9 #[.slice A n c] w (PutIs bs w) := by
  have hl := h.len
  have hcap := h.cap
  have htop := h.top
  obtain rfl := hl
  have H := Lib.hid h
  clear h
  obtain ⟨i0, hi0, hz0, hz1, hz2⟩ := info_parts info8
  go_enter Try.func9, Try.ntmps9
  go_wp2
  go_loopg [4, 5] bs.length (fun g v x wr => ∃ (p : Nat) (acc : List Nat), g + p = bs.length ∧ x = .int .i64 p ∧ wr.ownsRow w.heap.size 5 1 v acc.length (bvs acc) ∧ (∀ y ∈ acc, y < 256) ∧ Below w.heap.size w wr ∧ acc ++ putM (bs.drop p) = putM bs)
  case atStart => exact ⟨0, [], by omega, rfl, ⟨rfl, .inl ⟨rfl, rfl⟩⟩, by simp, Below.refl _ _, rfl⟩
  case round =>
    obtain ⟨p, acc, hgp, rfl, hown, hbyte, hbel, hput⟩ := hrel
    obtain ⟨a0, ca, rfl⟩ := own_slice hown
    have hacc : acc.length ≤ 2 * bs.length := by
      have h1 := congrArg List.length hput
      simp only [List.length_append] at h1
      have h2 := putM_len bs
      omega
    have HX := Lib.hid (And.intro hown hbel)
    have HBY := Lib.hid hbyte
    have HPUT := Lib.hid hput
    have hsz0 := hbel.size
    clear hown hbyte hbel hput
    by_cases hlt : p < bs.length
    · obtain ⟨R, o, hA, hR, hcell⟩ := H.out.at_ (by omega)
      obtain rfl := hA
      have HC := Lib.hid hcell
      clear hcell
      obtain ⟨d, hd⟩ : ∃ d, d = bs.drop p := ⟨_, rfl⟩
      have hdl : d.length = bs.length - p := by rw [hd, List.length_drop]
      have hdn : d ≠ [] := by intro e; rw [e] at hdl; simp at hdl; omega
      have HD := Lib.hid hd
      have HDN := Lib.hid hdn
      have hrl := rep_min d
      have hrp := rep_pos hdn
      clear hd hdn
      go_wp2_with fail
      refine (same_any _ bs.length c p bs wr (H.out.below HX.out.2) (by omega) (by omega)).mono ?_
      rintro e w1 ⟨rfl, j, rfl⟩
      rw [← HD.out]
      by_cases hr : rep d < 2
      · have hr2 : decide ((2 : Int) ≤ (rep d : Int)) = false := by simp; omega
        have hsl := sgl_le d
        have hsp := sgl_pos HDN.out hr
        go_wp2
        go_loopw [7] (fun x wq => ∃ k q : Nat, 1 ≤ k ∧ k ≤ sgl d ∧ x = .int .i64 k ∧ wq = wr.drewN q) (fun x _ => 128 - (intOf x).toNat)
        case atStart => exact ⟨1, j, by omega, hsp, rfl, rfl⟩
        case round =>
          obtain ⟨k, q, hk1, hks, rfl, rfl⟩ := hrel
          have wr1 : IntKind.i64.wrap ((p : Int) + (k : Int)) = (p : Int) + (k : Int) := IntWalk.i64_in _ (by omega)
          have wr2 : IntKind.i64.wrap ((k : Int) - 1) = (k : Int) - 1 := IntWalk.i64_in _ (by omega)
          have wr3 : IntKind.u8.wrap ((k : Int) - 1) = (k : Int) - 1 := by show _ % 256 = _; omega
          by_cases h1 : k < 128
          · have d1 : decide ((k : Int) < 128) = true := by simp; omega
            by_cases h2 : p + k < bs.length
            · have d2 : decide ((p : Int) + (k : Int) < (bs.length : Int)) = true := by simp; omega
              have hdk : d.drop k = bs.drop (p + k) := by rw [HD.out, List.drop_drop]
              have HDK := Lib.hid hdk
              clear hdk
              have HPK : Hid ((p : Int) + (k : Int) = ((p + k : Nat) : Int)) := by show _ = _; omega
              by_cases hrk : rep (d.drop k) < 2
              · have HK1 := Lib.hid (sgl_step hks (by omega) (by omega) hrk)
                have d3 : decide ((rep (d.drop k) : Int) < 2) = true := by simp; omega
                go_wp2_with fail
                rw [HPK.out]
                refine (same_any _ bs.length c (p + k) bs _ (Bytes.drewN (H.out.below HX.out.2) _) (by omega) (by omega)).mono ?_
                rintro e w1 ⟨rfl, j2, rfl⟩
                rw [← HDK.out]
                go_wp2
                go_roundw
                case rel => exact ⟨k + 1, q + j2, by omega, HK1.out, by go_num, rfl⟩
                case measure => simp [intOf]; omega
              · have HK := Lib.hid (sgl_stop hks hrk)
                have d3 : decide ((rep (d.drop k) : Int) < 2) = false := by simp; omega
                go_wp2_with fail
                rw [HPK.out]
                refine (same_any _ bs.length c (p + k) bs _ (Bytes.drewN (H.out.below HX.out.2) _) (by omega) (by omega)).mono ?_
                rintro e w1 ⟨rfl, j2, rfl⟩
                rw [← HDK.out]
                go_wp2_with (refine wpList_app (o := ⟨some 58, _, _, _, _, _⟩) rfl (.tmp 53) (.tmp 57) rfl w.heap.size acc.length 1 1 (.slice a0 acc.length ca) acc [k - 1] (some ⟨wr.heap.size, 0, none⟩) ?ah1 ?ah2 ?ah3 ?ah4 ?ah5 ?ah6 ?ah7)
                case ah1 => rfl
                case ah2 => rfl
                case ah3 => exact HX.out.1.alloc _
                case ah4 => exact bytes_one _ _ (k - 1) (by omega) (by omega)
                case ah5 => omega
                case ah6 => simp; omega
                intro v4 w4 hown4 hgrow4
                obtain ⟨a4, c4, rfl⟩ := own_slice hown4
                have H4 := Lib.hid (And.intro hown4 (refp_one HX.out.1 HX.out.2 hgrow4))
                clear hown4 hgrow4
                go_wp2_with (refine wpList_app (o := ⟨some 66, _, _, _, _, _⟩) rfl (.tmp 59) (.tmp 65) rfl w.heap.size (acc.length + 1) k (c - p) (.slice a4 (acc.length + 1) c4) (acc ++ [k - 1]) (d.take k) (some ⟨R, o + p, none⟩) ?ak1 ?ak2 ?ak3 ?ak4 ?ak5 ?ak6 ?ak7)
                case ak1 => rfl
                case ak2 => go_simp
                case ak3 => exact H4.out.1
                case ak4 => rw [HD.out]; exact ((H.out.below H4.out.2).tail hlt).head (by omega)
                case ak5 => omega
                case ak6 => exact H4.out.2.size
                intro v5 w5 hown5 hgrow5
                have H5 := Lib.hid (And.intro hown5 (H4.out.2.grown hgrow5 H4.out.2.size (fun j e => (own_lt H4.out.1 e).1)))
                clear hown5 hgrow5
                go_wp2
                go_roundg (gk - k)
                case measure => omega
                case rel =>
                  have hk := HK.out
                  refine ⟨p + k, acc ++ (k - 1) :: d.take k, by omega, by go_num, ?_, ?_, H5.out.2, ?_⟩
                  · rw [show (acc ++ (k - 1) :: d.take k).length = acc.length + 1 + k by simp; omega]
                    exact H5.out.1
                  · intro y hy
                    rcases List.mem_append.1 hy with hy | hy
                    · exact HBY.out y hy
                    rcases List.mem_cons.1 hy with hy | hy
                    · omega
                    · exact H.out.byte y (List.mem_of_mem_drop (HD.out ▸ List.mem_of_mem_take hy))
                  · rw [← HPUT.out, ← HD.out, putM_step HDN.out, enc1, if_pos hr, psz, if_pos hr, ← hk, HD.out, List.drop_drop]
                    simp
            · have hke : k = sgl d := by omega
              have d2 : decide ((p : Int) + (k : Int) < (bs.length : Int)) = false := by simp; omega
              have HK := Lib.hid hke
              clear hke
              go_wp2_with (refine wpList_app (o := ⟨some 58, _, _, _, _, _⟩) rfl (.tmp 53) (.tmp 57) rfl w.heap.size acc.length 1 1 (.slice a0 acc.length ca) acc [k - 1] (some ⟨wr.heap.size, 0, none⟩) ?bh1 ?bh2 ?bh3 ?bh4 ?bh5 ?bh6 ?bh7)
              case bh1 => rfl
              case bh2 => rfl
              case bh3 => exact HX.out.1.alloc _
              case bh4 => exact bytes_one _ _ (k - 1) (by omega) (by omega)
              case bh5 => omega
              case bh6 => simp; omega
              intro v4 w4 hown4 hgrow4
              obtain ⟨a4, c4, rfl⟩ := own_slice hown4
              have H4 := Lib.hid (And.intro hown4 (refp_one HX.out.1 HX.out.2 hgrow4))
              clear hown4 hgrow4
              go_wp2_with (refine wpList_app (o := ⟨some 66, _, _, _, _, _⟩) rfl (.tmp 59) (.tmp 65) rfl w.heap.size (acc.length + 1) k (c - p) (.slice a4 (acc.length + 1) c4) (acc ++ [k - 1]) (d.take k) (some ⟨R, o + p, none⟩) ?bk1 ?bk2 ?bk3 ?bk4 ?bk5 ?bk6 ?bk7)
              case bk1 => rfl
              case bk2 => go_simp
              case bk3 => exact H4.out.1
              case bk4 => rw [HD.out]; exact ((H.out.below H4.out.2).tail hlt).head (by omega)
              case bk5 => omega
              case bk6 => exact H4.out.2.size
              intro v5 w5 hown5 hgrow5
              have H5 := Lib.hid (And.intro hown5 (H4.out.2.grown hgrow5 H4.out.2.size (fun j e => (own_lt H4.out.1 e).1)))
              clear hown5 hgrow5
              go_wp2
              go_roundg (gk - k)
              case measure => omega
              case rel =>
                have hk := HK.out
                refine ⟨p + k, acc ++ (k - 1) :: d.take k, by omega, by go_num, ?_, ?_, H5.out.2, ?_⟩
                · rw [show (acc ++ (k - 1) :: d.take k).length = acc.length + 1 + k by simp; omega]
                  exact H5.out.1
                · intro y hy
                  rcases List.mem_append.1 hy with hy | hy
                  · exact HBY.out y hy
                  rcases List.mem_cons.1 hy with hy | hy
                  · omega
                  · exact H.out.byte y (List.mem_of_mem_drop (HD.out ▸ List.mem_of_mem_take hy))
                · rw [← HPUT.out, ← HD.out, putM_step HDN.out, enc1, if_pos hr, psz, if_pos hr, ← hk, HD.out, List.drop_drop]
                  simp
          · have hke : k = sgl d := by omega
            have d1 : decide ((k : Int) < 128) = false := by simp; omega
            have HK := Lib.hid hke
            clear hke
            go_wp2_with (refine wpList_app (o := ⟨some 58, _, _, _, _, _⟩) rfl (.tmp 53) (.tmp 57) rfl w.heap.size acc.length 1 1 (.slice a0 acc.length ca) acc [k - 1] (some ⟨wr.heap.size, 0, none⟩) ?ch1 ?ch2 ?ch3 ?ch4 ?ch5 ?ch6 ?ch7)
            case ch1 => rfl
            case ch2 => rfl
            case ch3 => exact HX.out.1.alloc _
            case ch4 => exact bytes_one _ _ (k - 1) (by omega) (by omega)
            case ch5 => omega
            case ch6 => simp; omega
            intro v4 w4 hown4 hgrow4
            obtain ⟨a4, c4, rfl⟩ := own_slice hown4
            have H4 := Lib.hid (And.intro hown4 (refp_one HX.out.1 HX.out.2 hgrow4))
            clear hown4 hgrow4
            go_wp2_with (refine wpList_app (o := ⟨some 66, _, _, _, _, _⟩) rfl (.tmp 59) (.tmp 65) rfl w.heap.size (acc.length + 1) k (c - p) (.slice a4 (acc.length + 1) c4) (acc ++ [k - 1]) (d.take k) (some ⟨R, o + p, none⟩) ?ck1 ?ck2 ?ck3 ?ck4 ?ck5 ?ck6 ?ck7)
            case ck1 => rfl
            case ck2 => go_simp
            case ck3 => exact H4.out.1
            case ck4 => rw [HD.out]; exact ((H.out.below H4.out.2).tail hlt).head (by omega)
            case ck5 => omega
            case ck6 => exact H4.out.2.size
            intro v5 w5 hown5 hgrow5
            have H5 := Lib.hid (And.intro hown5 (H4.out.2.grown hgrow5 H4.out.2.size (fun j e => (own_lt H4.out.1 e).1)))
            clear hown5 hgrow5
            go_wp2
            go_roundg (gk - k)
            case measure => omega
            case rel =>
              have hk := HK.out
              refine ⟨p + k, acc ++ (k - 1) :: d.take k, by omega, by go_num, ?_, ?_, H5.out.2, ?_⟩
              · rw [show (acc ++ (k - 1) :: d.take k).length = acc.length + 1 + k by simp; omega]
                exact H5.out.1
              · intro y hy
                rcases List.mem_append.1 hy with hy | hy
                · exact HBY.out y hy
                rcases List.mem_cons.1 hy with hy | hy
                · omega
                · exact H.out.byte y (List.mem_of_mem_drop (HD.out ▸ List.mem_of_mem_take hy))
              · rw [← HPUT.out, ← HD.out, putM_step HDN.out, enc1, if_pos hr, psz, if_pos hr, ← hk, HD.out, List.drop_drop]
                simp
      · have hr2 : decide ((2 : Int) ≤ (rep d : Int)) = true := by simp; omega
        obtain ⟨x, hx⟩ : ∃ x, bs[p]? = some x := ⟨bs[p], List.getElem?_eq_getElem hlt⟩
        have cx := HC.out p x hx
        have hx2 : x < 256 := H.out.byte x (List.mem_of_getElem? hx)
        have hcx : wr.cell? ⟨R, o + p, none⟩ = some (.int .u8 (x : Int)) := (HX.out.2.cell (p := ⟨R, o + p, none⟩) hR).trans cx
        have hhd : d.headD 0 = x := by
          have h0 : d[0]? = some x := by rw [HD.out, List.getElem?_drop]; exact hx
          cases d with
          | nil => simp at h0
          | cons y l => simpa using h0
        have HHD := Lib.hid hhd
        have wr2 : IntKind.i64.wrap (257 - (rep d : Int)) = 257 - (rep d : Int) := IntWalk.i64_in _ (by omega)
        have wr3 : IntKind.u8.wrap (257 - (rep d : Int)) = 257 - (rep d : Int) := by show _ % 256 = _; omega
        have p0 : (p : Int) < (bs.length : Int) := by omega
        have b0 : (2 : Int) ≤ (rep d : Int) := by omega
        clear hhd cx hx
        go_wp2_with (refine wpList_app (o := ⟨some 29, _, _, _, _, _⟩) rfl (.tmp 20) (.tmp 28) rfl w.heap.size acc.length 2 2 (.slice a0 acc.length ca) acc [257 - rep d, x] (some ⟨wr.heap.size, 0, none⟩) ?eh1 ?eh2 ?eh3 ?eh4 ?eh5 ?eh6 ?eh7)
        case eh1 => rfl
        case eh2 => rfl
        case eh3 => exact HX.out.1.alloc _
        case eh4 => exact bytes_two _ _ x (257 - rep d) (by omega) (by omega) (by omega)
        case eh5 => omega
        case eh6 => simp; omega
        intro v4 w4 hown4 hgrow4
        have HG := Lib.hid (And.intro hown4 (refp_one HX.out.1 HX.out.2 hgrow4))
        clear hown4 hgrow4
        all_goals
          go_wp2
          go_roundg (gk - rep d)
          case measure => omega
          case rel =>
            refine ⟨p + rep d, acc ++ [257 - rep d, x], by omega, by go_num, ?_, ?_, HG.out.2, ?_⟩
            · rw [List.length_append]
              exact HG.out.1
            · intro y hy
              rcases List.mem_append.1 hy with hy | hy
              · exact HBY.out y hy
              · simp at hy; omega
            · rw [← HPUT.out, ← HD.out, putM_step HDN.out, enc1, if_neg hr, psz, if_neg hr, HHD.out, HD.out, List.drop_drop]
              simp
    · obtain rfl : p = bs.length := by omega
      have hfin : acc = putM bs := by
        have := HPUT.out
        rwa [List.drop_length, putM_nil, List.append_nil] at this
      subst hfin
      go_wp2_with (refine wpList_app (o := ⟨some 72, _, _, _, _, _⟩) rfl (.tmp 70) (.tmp 71) rfl w.heap.size (putM bs).length 1 1 (.slice a0 (putM bs).length ca) (putM bs) [128] (some ⟨wr.heap.size, 0, none⟩) ?dh1 ?dh2 ?dh3 ?dh4 ?dh5 ?dh6 ?dh7)
      case dh1 => rfl
      case dh2 => rfl
      case dh3 => exact HX.out.1.alloc _
      case dh4 => exact bytes_one _ _ 128 (by omega) (by omega)
      case dh5 => omega
      case dh6 => simp; omega
      intro v4 w4 hown4 hgrow4
      have hb4 := refp_one (q := 0) HX.out.1 HX.out.2 hgrow4
      obtain ⟨A4, c4, rfl, hy4⟩ := own_bytes hown4 (fun x hx => by
        rcases List.mem_append.1 hx with hx | hx
        · exact HBY.out x hx
        · simp at hx; omega)
      have H4 := Lib.hid (And.intro hy4 hb4)
      clear hown4 hgrow4 hy4 hb4
      go_wp2
      go_ret2
      exact ⟨_, _, rfl, H4.out.1, H4.out.2⟩
end Go.Proofs.Ytbghmbcipekboaa
