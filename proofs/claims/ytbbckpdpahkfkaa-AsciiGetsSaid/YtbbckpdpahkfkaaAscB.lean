/- Hex: walked. -/
import Derived.Test.YtbbckpdpahkfkaaAscA
import Derived.Test.YtbbckpdpahkfkaaChunk
import Derived.Deep.RegionLaw
import Derived.Deep.AppendLies
namespace Go.Proofs.Ytbbckpdpahkfkaa
open Go.RowKit

theorem own_slice {w : World} {base : Nat} {e : TypeId} {size : Nat} {v : Value} {n : Nat} {xs : List Value} (h : w.ownsRow base e size v n xs) : ∃ a c, v = .slice a n c := by
  rcases h.2 with ⟨rfl, rfl⟩ | ⟨g, cap, cur, rfl, _⟩
  · exact ⟨_, _, rfl⟩
  · exact ⟨_, _, rfl⟩
theorem own_bytes {W : World} {base : Nat} {v : Value} {n : Nat} {bs : List Nat} (h : W.ownsRow base 5 1 v n (bvs bs)) (hb : ∀ b ∈ bs, b < 256) : ∃ A c, v = .slice A n c ∧ Bytes W A n c bs := by
  obtain ⟨A, c, R, e, _, _, hr⟩ := Row8.of_own h hb
  exact ⟨A, c, e, hr.bytes⟩
/-- The bytes of a row of one's own. -/
theorem own_read {W : World} {base : Nat} {a : Option Addr} {c n : Nat} {bs : List Nat} (h : W.ownsRow base 5 1 (.slice a n c) n (bvs bs)) (hb : ∀ b ∈ bs, b < 256) : Bytes W a n c bs := by
  obtain ⟨A, c', e, h'⟩ := own_bytes h hb
  injection e with e1 e2 e3
  subst e1 e3
  exact h'
theorem own_stepd {B : Nat} {w wr w1 : World} {k : Nat} {a : Option Addr} {c : Nat} {xs : List Value} {o : Obj} {t : TypeId} (hown : wr.ownsRow B t 1 (.slice a k c) k xs) (hb : Below B w wr) (hB : B ≤ wr.heap.size)
    (hg : ((wr.alloc o).drew).grownBy w1 (Value.slice a k c).ownBlock) : Below B w w1 :=
  ((hb.alloc hB o).drew).grown hg (by simp; omega) (fun j e => (own_lt hown e).1)
theorem bytes_none (w : World) : Bytes w none 0 0 [] := ⟨rfl, Nat.le_refl _, by omega, by simp, fun h => by omega⟩
theorem strB_app (a b : List Nat) : strB a ++ strB b = strB (a ++ b) := by
  unfold strB
  rw [List.map_append]
  apply ByteArray.ext
  simp
theorem strB_size (a : List Nat) : (strB a).size = a.length := by
  show ((a.map UInt8.ofNat).toArray).size = _
  simp
theorem hexIx (k : Nat) (hk : k < 16) (w : World) : (Instr.index 9 (.string ⟨#[48, 49, 50, 51, 52, 53, 54, 55, 56, 57, 65, 66, 67, 68, 69, 70]⟩) (.int .u8 (k : Int))).run Try.prog w = .ok (.int .u8 (hexD k : Nat)) w := by
  rcases (by omega : k = 0 ∨ k = 1 ∨ k = 2 ∨ k = 3 ∨ k = 4 ∨ k = 5 ∨ k = 6 ∨ k = 7 ∨ k = 8 ∨ k = 9 ∨ k = 10 ∨ k = 11 ∨ k = 12 ∨ k = 13 ∨ k = 14 ∨ k = 15) with rfl | rfl | rfl | rfl | rfl | rfl | rfl | rfl | rfl | rfl | rfl | rfl | rfl | rfl | rfl | rfl <;> kernel_rfl
set_option maxRecDepth 100000 in
set_option maxHeartbeats 4000000 in
theorem hex_any (A : Option Addr) (n c : Nat) (bs : List Nat) (w : World) (h : Bytes w A n c bs) (hn : n ≤ 100000) :
    Calls Try.prog 10 #[.slice A n c] w fun e w' => e = .returned (.string (strB (hexS bs ++ [62]))) ∧ Below w.heap.size w w' := by
  obtain rfl := h.len
  have H := Lib.hid h
  obtain ⟨i0, hi, hz0, hz1, hz2⟩ := info_parts info8
  clear h
  go_enter Try.func10, Try.ntmps10
  go_wp2
  go_loopg [3, 8] bs.length (fun g v x wr => ∃ k : Nat, g + k = bs.length ∧ x = .int .i64 (k : Int) ∧ wr.ownsRow w.heap.size 5 1 v (2 * k) (bvs (hexS (bs.take k))) ∧ Below w.heap.size w wr)
  case atStart => exact ⟨0, by omega, rfl, ⟨rfl, .inl ⟨rfl, rfl⟩⟩, Below.refl _ _⟩
  case round =>
    obtain ⟨k, hgk, rfl, hrow, hbk⟩ := hrel
    obtain ⟨a1, ck, rfl⟩ := own_slice hrow
    have hszk := hbk.size
    have HY := Lib.hid (And.intro hrow hbk)
    clear hrow hbk
    by_cases hkn : k < bs.length
    · have hbb := H.out.below HY.out.2
      obtain ⟨R, q, rfl, hR, hcell⟩ := hbb.at_ (by omega)
      obtain ⟨x, hx⟩ : ∃ x, bs.getD k 0 = x := ⟨_, rfl⟩
      have hx2 : bs[k]? = some x := by rw [← hx, List.getD_eq_getElem?_getD, List.getElem?_eq_getElem hkn]; rfl
      have hc := hcell k x hx2
      have hx9 : x < 256 := hbb.byte x (List.mem_of_getElem? hx2)
      have HT := Lib.hid (show hexS (bs.take (k + 1)) = hexS (bs.take k) ++ [hexD (x / 16), hexD (x % 16)] by rw [take_snoc hkn, hx, hexS_snoc])
      have i1 : ∀ W : World, (Instr.index 9 (.string ⟨#[48, 49, 50, 51, 52, 53, 54, 55, 56, 57, 65, 66, 67, 68, 69, 70]⟩) (.int .u8 (IntKind.u8.wrap ((x : Int) / 16)))).run Try.prog W = .ok (.int .u8 (hexD (x / 16) : Nat)) W := fun W => by
        have := hexIx (x / 16) (by omega) W
        rwa [show ((x / 16 : Nat) : Int) = IntKind.u8.wrap ((x : Int) / 16) from by show _ = _ % 256; omega] at this
      have i2 : ∀ W : World, (Instr.index 9 (.string ⟨#[48, 49, 50, 51, 52, 53, 54, 55, 56, 57, 65, 66, 67, 68, 69, 70]⟩) (.int .u8 ((x : Int).tmod 16))).run Try.prog W = .ok (.int .u8 (hexD (x % 16) : Nat)) W := fun W => by
        have := hexIx (x % 16) (by omega) W
        rwa [show ((x % 16 : Nat) : Int) = (x : Int).tmod 16 from by rw [Int.tmod_eq_emod_of_nonneg (by omega)]; omega] at this
      clear hcell hx hx2 hbb
      obtain ⟨y1, hy1⟩ : ∃ y, hexD (x / 16) = y := ⟨_, rfl⟩
      obtain ⟨y2, hy2⟩ : ∃ y, hexD (x % 16) = y := ⟨_, rfl⟩
      rw [hy1] at i1 HT
      rw [hy2] at i2 HT
      go_upto_region 5 with fail
      go_region_law? ((refine step_append_lies _ (by rfl) _ _ _ (by rfl) w.heap.size 5 i0 (.int .u8 0) 1 1 Try.underlying22 hi hz0 hz1 hz2 rfl (by omega) (.slice a1 (2 * k) ck) (2 * k) (bvs (hexS (bs.take k))) (by rfl) ((HY.out.1.alloc _).drew) ⟨wr.heap.size, 0, none⟩ 2 2 [.int .u8 (y1 : Int), .int .u8 (y2 : Int)] (by rfl) (by rfl) (World.news_of_block (cs := #[.int .u8 (y1 : Int), .int .u8 (y2 : Int)]) (t := 5) (fr := (0, 0)) (heap_alloc_new wr _)) (by simp [Value.oneCell']) (by omega) (by unfold maxLen; omega) (by omega) (by simp; omega) (wr.heap.size + 1) (by simp) ?_; intro g1 cap1 w1 hown1 hgrow1 hat1 hlt1; have HG := Lib.hid (And.intro hown1 (own_stepd HY.out.1 HY.out.2 hszk hgrow1)); clear hown1 hgrow1 hat1 hlt1))
      all_goals
        go_wp2_with fail
        go_roundg (bs.length - (k + 1))
        case measure => omega
        case rel => exact ⟨k + 1, by omega, by go_num, by rw [HT.out, bvs_append]; exact HG.out.1, HG.out.2⟩
    · obtain rfl : k = bs.length := by omega
      have hst := (own_read HY.out.1 (hexS_byte (fun x hx => H.out.byte x (List.mem_of_mem_take hx)))).str
      rw [List.take_of_length_le (Nat.le_refl _)] at hst
      have hsz : (strB (hexS bs)).size ≤ 200000 := by rw [strB_size, hexS_len]; omega
      go_wp2
      go_ret
      exact ⟨by rw [show (⟨#[62]⟩ : ByteArray) = strB [62] from rfl, strB_app]; rfl, HY.out.2⟩
end Go.Proofs.Ytbbckpdpahkfkaa
