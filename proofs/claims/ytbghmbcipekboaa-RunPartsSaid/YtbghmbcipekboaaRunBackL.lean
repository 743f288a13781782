/- The walk of RunBack. -/
import Derived.Test.YtbghmbcipekboaaRunAwake
import Derived.Test.YtbghmbcipekboaaLaidBytes
namespace Go.Proofs.Ytbghmbcipekboaa
open Go.RowKit

theorem Bytes.head {w : World} {A : Option Addr} {n c k : Nat} {bs : List Nat} (h : Bytes w A n c bs) (hk : k ≤ n) : Bytes w A k c (bs.take k) := by
  have hl := h.len
  have hcap := h.cap
  have htop := h.top
  refine ⟨by rw [List.length_take]; omega, by omega, by omega, fun b hb => h.byte b (List.mem_of_mem_take hb), fun h0 => ?_⟩
  obtain ⟨R, o, e, hR, hc⟩ := h.at_ (by omega)
  refine ⟨R, o, e, hR, fun i b hb => hc i b ?_⟩
  have hi := (List.getElem?_eq_some_iff.1 hb).1
  rw [List.length_take] at hi
  rw [List.getElem?_take, if_pos (by omega)] at hb
  exact hb
/-- What Get answers, case by case. -/
theorem get_is_ok {A : Option Addr} {n c most : Nat} {bs l : List Nat} {w : World} (h : Bytes w A n c bs) (hm : most ≤ 1048576) (hg : getM most bs [] = .ok l) :
    Calls Try.prog 10 #[.slice A n c, .int .i64 most] w fun e w' => ∃ A' c', e = .returned (.tuple #[.slice A' l.length c', .int .i64 0]) ∧ Bytes w' A' l.length c' l ∧ Below w.heap.size w w' :=
  (get_ok A n c most bs w h hm).mono fun e w' ⟨hb, h1⟩ => by
    rw [hg] at h1
    obtain ⟨A', c', he, h2⟩ := h1
    exact ⟨A', c', he, h2, hb⟩
theorem get_is_long {A : Option Addr} {n c most : Nat} {bs : List Nat} {w : World} (h : Bytes w A n c bs) (hm : most ≤ 1048576) (hg : getM most bs [] = .long) :
    Calls Try.prog 10 #[.slice A n c, .int .i64 most] w fun e w' => e = .returned (.tuple #[.slice none 0 0, .int .i64 2]) ∧ Below w.heap.size w w' :=
  (get_ok A n c most bs w h hm).mono fun e w' ⟨hb, h1⟩ => by
    rw [hg] at h1
    exact ⟨h1, hb⟩
theorem get_is_more {A : Option Addr} {n c most : Nat} {bs : List Nat} {w : World} (h : Bytes w A n c bs) (hm : most ≤ 1048576) (hg : getM most bs [] = .more) :
    Calls Try.prog 10 #[.slice A n c, .int .i64 most] w fun e w' => e = .returned (.tuple #[.slice none 0 0, .int .i64 6]) ∧ Below w.heap.size w w' :=
  (get_ok A n c most bs w h hm).mono fun e w' ⟨hb, h1⟩ => by
    rw [hg] at h1
    exact ⟨h1, hb⟩
set_option maxRecDepth 100000 in
set_option maxHeartbeats 4000000 in
theorem back_law (A A2 : Option Addr) (n n2 c c2 : Nat) (bs rs : List Nat) (most : Int) (w : World) (h : Bytes w A n c bs) (h2 : Bytes w A2 n2 c2 rs) :
    Calls Try.prog 4 #[.slice A n c, .slice A2 n2 c2, .int .i64 most] w (True_ w) := by
  by_cases g1 : 2000 < n
  · go_enter Try.func4, Try.ntmps4
    go_wp2
    go_ret
    exact ⟨rfl, Below.refl _ _⟩
  by_cases g2 : 300 < n2
  · go_enter Try.func4, Try.ntmps4
    go_wp2
    go_ret
    exact ⟨rfl, Below.refl _ _⟩
  by_cases g3 : most < 0
  · go_enter Try.func4, Try.ntmps4
    go_wp2
    go_ret
    exact ⟨rfl, Below.refl _ _⟩
  by_cases g4 : 3000 < most
  · go_enter Try.func4, Try.ntmps4
    go_wp2
    go_ret
    exact ⟨rfl, Below.refl _ _⟩
  obtain ⟨M, rfl⟩ : ∃ M : Nat, most = M := ⟨most.toNat, by omega⟩
  have hl := h.len
  have hl2 := h2.len
  have hpl := putM_len bs
  obtain rfl := hl
  obtain rfl := hl2
  obtain ⟨N, hN⟩ : ∃ N, N = (putM bs).length := ⟨_, rfl⟩
  have hNl : N ≤ 2 * bs.length := by omega
  have H := Lib.hid h
  have H2 := Lib.hid h2
  have HN := Lib.hid hN
  clear h h2 hpl hN
  go_enter Try.func4, Try.ntmps4
  go_wp2_with fail
  refine (put_ok A bs.length c bs w H.out (by omega)).mono ?_
  rintro e w1 ⟨A3, c3, rfl, hy3, hb3⟩
  rw [← HN.out] at hy3 ⊢
  have H3 := Lib.hid (And.intro hy3 hb3)
  clear hy3 hb3
  go_wp2_with (refine wpList_app (o := ⟨some 53, _, _, _, _, _⟩) rfl (.tmp 51) (.tmp 52) rfl w1.heap.size 0 (N + 1) c3 (.slice (some ⟨w1.heap.size, 0, none⟩) 0 0) [] (putM bs ++ [128]) A3 ?h1 ?h2 ?h3 ?h4 ?h5 ?h6 ?h7)
  case h1 => rfl
  case h2 => rfl
  case h3 => exact own_lit w1 [] (by decide)
  case h4 => exact (H3.out.1.below ((Below.refl _ _).alloc (Nat.le_refl _) _))
  case h5 => omega
  case h6 => simp
  intro v4 w4 hown4 hgrow4
  obtain ⟨a4, cc4, rfl⟩ := own_slice hown4
  have hb4 : Below w1.heap.size w1 w4 := ((Below.refl _ _).alloc (Nat.le_refl _) _).grown hgrow4 (by simp) (fun j e => by have e : some w1.heap.size = some j := e; injection e; omega)
  have H4 := Lib.hid (And.intro hown4 hb4)
  clear hown4 hgrow4 hb4
  go_wp2_with (refine wpList_app (o := ⟨some 55, _, _, _, _, _⟩) rfl (.tmp 53) (.tmp 54) rfl w1.heap.size (N + 1) rs.length c2 (.slice a4 (N + 1) cc4) (putM bs ++ [128]) rs A2 ?k1 ?k2 ?k3 ?k4 ?k5 ?k6 ?k7)
  case k1 => rfl
  case k2 => rfl
  case k3 => exact H4.out.1
  case k4 => exact (H2.out.below H3.out.2).below H4.out.2
  case k5 => omega
  case k6 => exact H4.out.2.size
  intro v5 w5 hown5 hgrow5
  obtain ⟨A5, c5, rfl, hy5⟩ := own_bytes hown5 (fun x hx => by
    rcases List.mem_append.1 hx with hx | hx
    · exact H3.out.1.byte x (List.mem_append_left _ hx)
    · rcases List.mem_cons.1 hx with rfl | hx
      · omega
      · exact H2.out.byte x hx)
  have hb5 : Below w1.heap.size w1 w5 := H4.out.2.grown hgrow5 H4.out.2.size (fun j e => (own_lt H4.out.1 e).1)
  have H5 := Lib.hid (And.intro hy5 (H3.out.2.trans (hb5.mono H3.out.2.size)))
  have HB5 := Lib.hid hb5
  clear hown5 hgrow5 hy5 hb5
  have hcut : (putM bs ++ [128]).take N = putM bs := by rw [HN.out]; exact List.take_left' rfl
  have HCUT := Lib.hid hcut
  clear hcut
  have hgm : getM 3000 (putM bs) [] = .more := getM_cut 3000 bs (by omega)
  have HGM := Lib.hid hgm
  clear hgm
  have hc3 : N + 1 ≤ c3 := by have := H3.out.1.cap; omega
  have hc3t := H3.out.1.top
  by_cases hm : M < bs.length
  · have hgl : getM M (putM bs ++ 128 :: rs) [] = .long := by rw [getM_back, if_pos hm]
    have HG := Lib.hid hgl
    clear hgl
    go_wp2_with fail
    refine (get_is_long H5.out.1 (by omega) HG.out).mono ?_
    rintro e w6 ⟨rfl, hb6⟩
    have H6 := Lib.hid hb6
    clear hb6
    go_wp2_with fail
    refine (get_is_more (bs := putM bs) (HCUT.out ▸ (((H3.out.1.below HB5.out).below H6.out).head (k := N) (by omega))) (by omega) HGM.out).mono ?_
    rintro e w7 ⟨rfl, hb7⟩
    have H7 := Lib.hid hb7
    clear hb7
    go_wp2_with fail
    refine (awake_any _).mono ?_
    rintro e w8 ⟨rfl, hb8⟩
    have H8 := Lib.hid hb8
    clear hb8
    go_wp2
    go_ret
    have b6 := H5.out.2.trans (H6.out.mono H5.out.2.size)
    have b7 := b6.trans (H7.out.mono b6.size)
    exact ⟨rfl, b7.trans (H8.out.mono b7.size)⟩
  · have hgl : getM M (putM bs ++ 128 :: rs) [] = .ok bs := by rw [getM_back, if_neg hm]
    have HG := Lib.hid hgl
    clear hgl
    go_wp2_with fail
    refine (get_is_ok H5.out.1 (by omega) HG.out).mono ?_
    rintro e w6 ⟨A6, c6, rfl, hy6, hb6⟩
    have H6 := Lib.hid (And.intro hy6 hb6)
    clear hy6 hb6
    go_wp2_with fail
    refine (get_is_more (bs := putM bs) (HCUT.out ▸ (((H3.out.1.below HB5.out).below H6.out.2).head (k := N) (by omega))) (by omega) HGM.out).mono ?_
    rintro e w7 ⟨rfl, hb7⟩
    have H7 := Lib.hid hb7
    clear hb7
    go_wp2_with fail
    refine (awake_any _).mono ?_
    rintro e w8 ⟨rfl, hb8⟩
    have b6 := H5.out.2.trans (H6.out.2.mono H5.out.2.size)
    have b7 := b6.trans (H7.out.mono b6.size)
    have b8 := b7.trans (hb8.mono b7.size)
    have hs1 := ((H6.out.1.below H7.out).below hb8).str
    have hs2 := (H.out.below b8).str
    have H8 := Lib.hid b8
    clear hb8 b6 b7 b8
    go_wp2
    go_ret
    exact ⟨rfl, H8.out⟩
end Go.Proofs.Ytbghmbcipekboaa
