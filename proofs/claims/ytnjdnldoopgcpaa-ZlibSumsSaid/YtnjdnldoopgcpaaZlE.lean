/- zlib: Pack. -/
import Derived.Test.YtnjdnldoopgcpaaZlD
import Derived.Test.YtnjdnldoopgcpaaDefK
namespace Go.Proofs.Ytnjdnldoopgcpaa
open Go.RowKit

theorem own_le {w : World} {base base' size n : Nat} {e : TypeId} {v : Value} {xs : List Value} (h : w.ownsRow base e size v n xs) (hb : base' ≤ base) : w.ownsRow base' e size v n xs :=
  ⟨h.1, h.2.elim Or.inl (fun ⟨g, cap, cur, hv, hg, r⟩ => Or.inr ⟨g, cap, cur, hv, Nat.le_trans hb hg, r⟩)⟩
theorem Bytes.whole {w : World} {R n : Nat} {bs : List Nat} (h : Whole w R 5 (bvs bs).toArray) (hl : bs.length = n) (hn : n ≤ 9223372036854775807) (hb : ∀ x ∈ bs, x < 256) : Bytes w (some ⟨R, 0, none⟩) n n bs :=
  ⟨hl, Nat.le_refl _, hn, hb, fun _ => ⟨R, 0, rfl, h.lt, fun i b hb => by
    rw [Nat.zero_add, h.reads i]
    unfold bvs
    simp [hb]⟩⟩
/-- Bytes packed. -/
def packB (bs ds : List Nat) : List Nat := [120, 1] ++ ds ++ bigE (sumZ bs)
theorem packB_len (bs ds : List Nat) : (packB bs ds).length = 2 + ds.length + 4 := by unfold packB bigE; simp; omega
theorem HoldT.pos {l : List Tk} {ds : List Nat} (h : HoldT l ds) : 1 ≤ ds.length := by
  have h1 := h.len
  have : 3 ≤ catT (allF l) := by unfold allF catT catT; omega
  omega
/-- What Pack answers. -/
def ZPIs (bs : List Nat) (w : World) (e : Ending) (w' : World) : Prop :=
  ∃ v ds, HoldT (tokD bs) ds ∧ e = .returned (.tuple #[v, .int .i64 0]) ∧ w'.ownsRow w.heap.size 5 1 v (packB bs ds).length (bvs (packB bs ds)) ∧ Below w.heap.size w w'
set_option maxRecDepth 100000 in
set_option maxHeartbeats 4000000 in
theorem zpack_any (A : Option Addr) (n c : Nat) (bs : List Nat) (w : World) (h : Bytes w A n c bs) (hn : n ≤ 100000) :
    Calls Try.prog 35 #[.slice A n c] w (ZPIs bs w) := by
  have hl := h.len
  have H0 := Lib.hid h
  clear h
  go_enter Try.func35, Try.ntmps35
  go_wp2_with fail
  refine (ddeflate_any A n c bs w H0.out).mono ?_
  rintro e w1 (⟨-, A1, c1, ds, rfl, hdy, hho, hb⟩ | ⟨hgt, -, -⟩)
  rotate_left
  · omega
  have hsh := hho.short (tokD_ok H0.out.byte)
  have htl := tokD_len bs
  have hpos := hho.pos
  have hds : ds.length ≤ 600003 := by omega
  obtain ⟨wE, hwE⟩ : ∃ wE, w1.alloc (.cells #[.int .u8 120, .int .u8 1] 5) = wE := ⟨_, rfl⟩
  have hbE : Below w1.heap.size w1 wE := by rw [← hwE]; exact (Below.refl _ _).alloc (Nat.le_refl _) _
  have hE2 : Whole wE w1.heap.size 5 (bvs [120, 1]).toArray := by rw [← hwE]; exact Whole.made _ _ _
  have hbw := hb.trans (hbE.mono hb.size)
  have HE := Lib.hid (And.intro hho (And.intro (hdy.below hbE) (And.intro hE2 hbw)))
  have HSU := Lib.hid (sum_any A n c bs wE (H0.out.below hbw) (by omega))
  clear hho hdy hb hbE hE2 hbw hsh htl
  go_wp2_with fail
  refine HSU.out.mono ?_
  rintro e w2 ⟨rfl, hb⟩
  have H2 := Lib.hid (And.intro (HE.out.2.1.below hb) (And.intro (HE.out.2.2.1.here hb) (HE.out.2.2.2.trans (hb.mono HE.out.2.2.2.size))))
  have HBG := Lib.hid (big_any (sumZ bs) w2 (sumZ_lt bs))
  clear hb HSU
  go_wp2_with fail
  refine HBG.out.mono ?_
  rintro e w3 ⟨rfl, hw, hb⟩
  have H3 := Lib.hid (And.intro (H2.out.1.below hb) (And.intro (H2.out.2.1.here hb) (And.intro hw (H2.out.2.2.trans (hb.mono H2.out.2.2.size)))))
  have hz1 := HE.out.2.2.2.size
  clear hw hb HBG
  obtain ⟨wK, hwK⟩ : ∃ wK, w3.alloc (.cells #[.slice (some ⟨w1.heap.size, 0, none⟩) 2 2, .slice A1 ds.length c1, .slice (some ⟨w2.heap.size, 0, none⟩) 4 4] 22) = wK := ⟨_, rfl⟩
  have hbK : Below w3.heap.size w3 wK := by rw [← hwK]; exact (Below.refl _ _).alloc (Nat.le_refl _) _
  have hK : Whole wK w3.heap.size 22 #[.slice (some ⟨w1.heap.size, 0, none⟩) 2 2, .slice A1 ds.length c1, .slice (some ⟨w2.heap.size, 0, none⟩) 4 4] := by rw [← hwK]; exact Whole.made _ _ _
  have hy1 : Bytes wK (some ⟨w1.heap.size, 0, none⟩) 2 2 [120, 1] := Bytes.whole (H3.out.2.1.here hbK) rfl (by decide) (by decide)
  have hy3 : Bytes wK (some ⟨w2.heap.size, 0, none⟩) 4 4 (bigE (sumZ bs)) := Bytes.whole (H3.out.2.2.1.here hbK) rfl (by decide) (bigE_byte _)
  have HC := Lib.hid (concat3_any w3.heap.size (some ⟨w1.heap.size, 0, none⟩) A1 (some ⟨w2.heap.size, 0, none⟩) 2 ds.length 4 2 c1 4 [120, 1] ds (bigE (sumZ bs)) wK hK hy1 (H3.out.1.below hbK) hy3 (fun e => by cases e) (fun e => by
    obtain ⟨R, o, e2, -⟩ := H3.out.1.at_ (by omega)
    rw [e] at e2
    cases e2) (fun e => by cases e) (by omega) (by omega))
  have HK := Lib.hid (H3.out.2.2.2.trans (hbK.mono H3.out.2.2.2.size))
  clear hbK hK hy1 hy3
  go_wp2_with fail
  refine HC.out.mono ?_
  rintro e w4 ⟨v, rfl, hown, hb⟩
  have HZ := Lib.hid (And.intro (own_le hown HK.out.size) (HK.out.trans (hb.mono HK.out.size)))
  clear hown hb HC
  go_wp2_with fail
  go_ret2
  refine ⟨v, ds, HE.out.1, rfl, ?_, HZ.out.2⟩
  rw [packB_len]
  exact HZ.out.1
end Go.Proofs.Ytnjdnldoopgcpaa
