/- deflate: the search in memory; hash, common. -/
import Derived.Test.YtnjdnldoopgcpaaDefP
namespace Go.Proofs.Ytnjdnldoopgcpaa
open Go.RowKit

def tabI (f : Nat → Int) (n : Nat) : Array Value := ((List.range n).map fun i => Value.int .i64 (f i)).toArray
theorem tabI_at (f : Nat → Int) (n i : Nat) (h : i < n) : (tabI f n)[i]? = some (.int .i64 (f i)) := by simp [tabI, h]
theorem tabI_size (f : Nat → Int) (n : Nat) : (tabI f n).size = n := by simp [tabI]
theorem tabI_ext {f g : Nat → Int} {n : Nat} (h : ∀ i, i < n → f i = g i) : tabI f n = tabI g n := by
  unfold tabI
  congr 1
  apply List.map_congr_left
  intro i hi
  rw [h i (List.mem_range.1 hi)]
theorem tabI_set (f : Nat → Int) (n i : Nat) (v : Int) : (tabI f n).setIfInBounds i (.int .i64 v) = tabI (fun j => if j = i then v else f j) n := by
  apply Array.ext_getElem?
  intro j
  rw [Array.getElem?_setIfInBounds]
  by_cases hj : j < n
  · rw [tabI_at _ _ _ hj]
    by_cases e : i = j
    · subst e
      rw [if_pos rfl, tabI_size, if_pos hj, tabI_at _ _ _ hj, if_pos rfl]
    · rw [if_neg e, tabI_at _ _ _ hj, if_neg (fun h => e h.symm)]
  · have h1 : (tabI (fun j => if j = i then v else f j) n)[j]? = none := Array.getElem?_eq_none (by rw [tabI_size]; omega)
    rw [h1]
    by_cases e : i = j
    · rw [if_pos e, tabI_size, if_neg (by omega)]
    · rw [if_neg e]
      exact Array.getElem?_eq_none (by rw [tabI_size]; omega)
theorem bits_xor_i64 (a b : Nat) (ha : a < 4611686018427387904) (hb : b < 4611686018427387904) : bits .xor .i64 (a : Int) (b : Int) = ((a ^^^ b : Nat) : Int) := by
  have hx : a ^^^ b < 2 ^ 62 := Nat.xor_lt_two_pow (by omega) (by omega)
  have h1 : (BitVec.ofInt 64 (a : Int)).toNat = a := by
    rw [BitVec.ofInt_natCast, BitVec.toNat_ofNat]; exact Nat.mod_eq_of_lt (by omega)
  have h2 : (BitVec.ofInt 64 (b : Int)).toNat = b := by
    rw [BitVec.ofInt_natCast, BitVec.toNat_ofNat]; exact Nat.mod_eq_of_lt (by omega)
  show IntKind.i64.wrap ((BitVec.ofInt 64 (a : Int) ^^^ BitVec.ofInt 64 (b : Int)).toNat : Int) = _
  rw [BitVec.toNat_xor, h1, h2, IntKind.wrap_i64]
  omega
theorem hash_val (x y z : Nat) (hx : x < 256) (hy : y < 256) (hz : z < 256) : (bits .xor .i64 (bits .xor .i64 ((x : Int) * 1024) ((y : Int) * 32)) (z : Int)).tmod 32768 = (((x <<< 10 ^^^ y <<< 5 ^^^ z) % 32768 : Nat) : Int) := by
  have e1 : (x : Int) * (1024 : Int) = ((x <<< 10 : Nat) : Int) := by rw [Nat.shiftLeft_eq]; omega
  have e2 : (y : Int) * (32 : Int) = ((y <<< 5 : Nat) : Int) := by rw [Nat.shiftLeft_eq]; omega
  have l1 : x <<< 10 < 2 ^ 18 := by rw [Nat.shiftLeft_eq]; omega
  have l2 : y <<< 5 < 2 ^ 18 := by rw [Nat.shiftLeft_eq]; omega
  have l3 := Nat.xor_lt_two_pow l1 l2
  rw [e1, e2, bits_xor_i64 _ _ (by omega) (by omega), bits_xor_i64 _ _ (by omega) (by omega), show (32768 : Int) = ((32768 : Nat) : Int) from rfl, ← Int.ofNat_tmod]
/-- A search: the bytes, the last place of each hash, the one before each place. -/
structure SrS (base : Nat) (w : World) (S Ll Bb : Nat) (A : Option Addr) (n c : Nat) (bs : List Nat) (e : Nat) : Prop where
  whole : Whole w S 61 #[.slice A n c, .int .i64 (e : Int), .slice (some ⟨Ll, 0, none⟩) 32768 32768, .slice (some ⟨Bb, 0, none⟩) n n]
  last : Whole w Ll 3 (tabI (fun h => prevH bs h e) 32768)
  bef : Whole w Bb 3 (tabI (fun p => if p < e then prevH bs (hashD bs p) p else 0) n)
  row : Bytes w A n c bs
  ne : Ll ≠ Bb
  low : base ≤ S ∧ base ≤ Ll ∧ base ≤ Bb ∧ base ≤ w.heap.size
  rowLow : 0 < n → ∀ R o, A = some ⟨R, o, none⟩ → R < base
set_option maxRecDepth 100000 in
set_option maxHeartbeats 2000000 in
theorem hash_any (base S Ll Bb : Nat) (A : Option Addr) (n c : Nat) (bs : List Nat) (e i : Nat) (w : World) (h : SrS base w S Ll Bb A n c bs e) (hi : i + 3 ≤ n) (hn : n ≤ 1048576) :
    Calls Try.prog 37 #[.pointer (some ⟨S, 0, none⟩), .int .i64 (i : Int)] w fun e w' => e = .returned (.int .i64 (hashD bs i : Int)) ∧ Below w.heap.size w w' := by
  have hl := h.row.len
  have hcap := h.row.cap
  have htop := h.row.top
  obtain ⟨R, o, rfl, hR, hc⟩ := h.row.at_ (by omega)
  obtain ⟨x, hx⟩ : ∃ x, bs[i]? = some x := ⟨_, List.getElem?_eq_getElem (by omega)⟩
  obtain ⟨y, hy⟩ : ∃ y, bs[i + 1]? = some y := ⟨_, List.getElem?_eq_getElem (by omega)⟩
  obtain ⟨z, hz⟩ : ∃ z, bs[i + 2]? = some z := ⟨_, List.getElem?_eq_getElem (by omega)⟩
  have k0 : w.cell? ⟨R, o + i, none⟩ = some (.int .u8 (x : Int)) := hc i x hx
  have k1 : w.cell? ⟨R, o + i + 1, none⟩ = some (.int .u8 (y : Int)) := hc (i + 1) y hy
  have k2 : w.cell? ⟨R, o + i + 2, none⟩ = some (.int .u8 (z : Int)) := hc (i + 2) z hz
  have hx8 := h.row.byte x (List.mem_of_getElem? hx)
  have hy8 := h.row.byte y (List.mem_of_getElem? hy)
  have hz8 := h.row.byte z (List.mem_of_getElem? hz)
  have HX := Lib.hid (show hashD bs i = (x <<< 10 ^^^ y <<< 5 ^^^ z) % 32768 by
    unfold hashD
    rw [List.getD_eq_getElem?_getD, List.getD_eq_getElem?_getD, List.getD_eq_getElem?_getD, hx, hy, hz]
    rfl)
  have y0 : w.cell? ⟨S, 0, none⟩ = some (.slice (some ⟨R, o, none⟩) n c) := h.whole.reads 0
  have lS := h.whole.lt
  have ew3 : IntKind.i64.wrap ((i : Int) + 3) = (i : Int) + 3 := by rw [IntKind.wrap_i64]; omega
  have b1 : (0 : Int) ≤ (i : Int) := by omega
  have b2 : (i : Int) ≤ (i : Int) + 3 := by omega
  have b3 : (i : Int) + 3 ≤ (n : Int) := by omega
  rw [HX.out]
  clear hx hy hz hc h
  have e3 : i + 3 - i = 3 := by omega
  go_enter Try.func37, Try.ntmps37
  go_wp2_with fail
  rw [e3]
  go_region
  go_wp2
  go_ret
  refine ⟨?_, (Below.refl _ _).drew⟩
  rw [← hash_val x y z hx8 hy8 hz8]
  rfl
set_option maxRecDepth 100000 in
set_option maxHeartbeats 2000000 in
theorem common_any (base S Ll Bb : Nat) (A : Option Addr) (n c : Nat) (bs : List Nat) (e p i m : Nat) (w : World) (h : SrS base w S Ll Bb A n c bs e) (hp : p < i) (hi : i + m ≤ n) (hn : n ≤ 1048576) :
    Calls Try.prog 38 #[.pointer (some ⟨S, 0, none⟩), .int .i64 (p : Int), .int .i64 (i : Int), .int .i64 (m : Int)] w fun e w' => e = .returned (.int .i64 (comD bs p i m : Int)) ∧ Below w.heap.size w w' := by
  have hl := h.row.len
  have hcap := h.row.cap
  have htop := h.row.top
  have HW := Lib.hid h
  clear h
  go_enter Try.func38, Try.ntmps38
  go_wp2_with fail
  go_loopw [9] (fun s wr => ∃ k : Nat, s = .int .i64 (k : Int) ∧ k ≤ m ∧ Hid (∀ j, j < k → bs.getD (p + j) 0 = bs.getD (i + j) 0) ∧ Hid (Below w.heap.size w wr)) (fun s _ => m - (intOf s).toNat)
  case atStart => exact ⟨0, rfl, by omega, Lib.hid (fun j hj => absurd hj (Nat.not_lt_zero _)), Lib.hid (Below.refl _ _)⟩
  case round =>
    obtain ⟨k, rfl, hk, HE, HB⟩ := hrel
    by_cases hlt : k < m
    · have d1 : decide ((k : Int) < (m : Int)) = true := decide_eq_true (by omega)
      have hS := HW.out.whole.here HB.out
      have hrow := HW.out.row.below HB.out
      obtain ⟨R, o, rfl, hR, hc⟩ := hrow.at_ (by omega)
      obtain ⟨x, hx⟩ : ∃ x, bs[p + k]? = some x := ⟨_, List.getElem?_eq_getElem (by omega)⟩
      obtain ⟨y, hy⟩ : ∃ y, bs[i + k]? = some y := ⟨_, List.getElem?_eq_getElem (by omega)⟩
      have k0 := hc _ x hx
      have k1 := hc _ y hy
      have ex : bs.getD (p + k) 0 = x := by rw [List.getD_eq_getElem?_getD, hx]; rfl
      have ey : bs.getD (i + k) 0 = y := by rw [List.getD_eq_getElem?_getD, hy]; rfl
      have y0 : wr.cell? ⟨S, 0, none⟩ = some (.slice (some ⟨R, o, none⟩) n c) := hS.reads 0
      have lS := hS.lt
      have ew1 : IntKind.i64.wrap ((p : Int) + (k : Int)) = ((p + k : Nat) : Int) := by rw [IntKind.wrap_i64]; omega
      have ew2 : IntKind.i64.wrap ((i : Int) + (k : Int)) = ((i + k : Nat) : Int) := by rw [IntKind.wrap_i64]; omega
      have b1 : (0 : Int) ≤ ((p + k : Nat) : Int) := by omega
      have b2 : ((p + k : Nat) : Int) < (n : Int) := by omega
      have b3 : (0 : Int) ≤ ((i + k : Nat) : Int) := by omega
      have b4 : ((i + k : Nat) : Int) < (n : Int) := by omega
      clear hx hy hc hS hrow
      by_cases hxy : x = y
      · have d2 : ((x : Int) == (y : Int)) = true := by simp [hxy]
        have HN := Lib.hid (show ∀ j, j < k + 1 → bs.getD (p + j) 0 = bs.getD (i + j) 0 from fun j hj => by
          by_cases e : j = k
          · rw [e, ex, ey, hxy]
          · exact HE.out j (by omega))
        clear ex ey hxy
        go_wp2_with fail
        go_region
        go_wp2
        go_roundw
        case rel => exact ⟨k + 1, by go_num, by omega, HN, Lib.hid HB.out.drew⟩
        case measure => simp [intOf]; omega
      · have d2 : ((x : Int) == (y : Int)) = false := by simp; omega
        have HN := Lib.hid (comD_is (m := m) (by omega) HE.out (.inr (by rw [ex, ey]; exact hxy)))
        clear ex ey hxy
        go_wp2_with fail
        go_region
        go_wp2
        go_ret
        exact ⟨by rw [HN.out]; rfl, HB.out.drew⟩
    · obtain rfl : k = m := by omega
      have d1 : decide ((k : Int) < (k : Int)) = false := by simp
      have HN := Lib.hid (comD_is (m := k) (Nat.le_refl _) HE.out (.inl rfl))
      go_wp2_with fail
      go_region
      go_wp2
      go_ret
      exact ⟨by rw [HN.out]; rfl, HB.out.drew⟩
end Go.Proofs.Ytnjdnldoopgcpaa
/- deflate: enter. -/
namespace Go.Proofs.Ytnjdnldoopgcpaa
open Go.RowKit

theorem Bytes.belowB {w w' : World} {base : Nat} {A : Option Addr} {n c : Nat} {bs : List Nat} (h : Bytes w A n c bs) (hb : Below base w w') (hl : 0 < n → ∀ R o, A = some ⟨R, o, none⟩ → R < base) : Bytes w' A n c bs :=
  ⟨h.len, h.cap, h.top, h.byte, fun hn => by
    obtain ⟨R, o, e, hR, hc⟩ := h.at_ hn
    refine ⟨R, o, e, Nat.lt_of_lt_of_le hR hb.size, fun i b hi => ?_⟩
    exact (hb.cell (p := ⟨R, o + i, none⟩) (hl hn R o e)).trans (hc i b hi)⟩
def FrD (S Ll Bb : Nat) (w w' : World) : Prop := Fr (fun k => k = S ∨ k = Ll ∨ k = Bb) w w'
theorem SrS.fr {base : Nat} {w w' : World} {S Ll Bb : Nat} {A : Option Addr} {n c : Nat} {bs : List Nat} {e : Nat} (h : SrS base w S Ll Bb A n c bs e) (hb : Below w.heap.size w w') : SrS base w' S Ll Bb A n c bs e :=
  ⟨h.whole.here hb, h.last.here hb, h.bef.here hb, h.row.below hb, h.ne, ⟨h.low.1, h.low.2.1, h.low.2.2.1, Nat.le_trans h.low.2.2.2 hb.size⟩, h.rowLow⟩
theorem prevH_next (bs : List Nat) (h e : Nat) : prevH bs h (e + 1) = if h = hashD bs e then (e : Int) else prevH bs h e := by
  unfold prevH
  by_cases q : hashD bs e = h
  · rw [if_pos q, if_pos q.symm]
  · rw [if_neg q, if_neg (fun k => q k.symm)]
    cases e <;> rfl
/-- A place entered. -/
theorem SrS.next {base : Nat} {w w' : World} {S Ll Bb : Nat} {A : Option Addr} {n c : Nat} {bs : List Nat} {e : Nat} (h : SrS base w S Ll Bb A n c bs e)
    (hq : w'.heap = (((w.setCell ⟨Bb, e, none⟩ (.int .i64 (prevH bs (hashD bs e) e))).setCell ⟨Ll, hashD bs e, none⟩ (.int .i64 (e : Int))).setCell ⟨S, 1, none⟩ (.int .i64 ((e + 1 : Nat) : Int))).heap) (hfr : FrD S Ll Bb w w') :
    SrS base w' S Ll Bb A n c bs (e + 1) := by
  have n1 : S ≠ Ll := h.whole.apart h.last (by decide)
  have n2 : S ≠ Bb := h.whole.apart h.bef (by decide)
  have hw := ((h.whole.away (p := ⟨Bb, e, none⟩) n2 (.int .i64 (prevH bs (hashD bs e) e))).away (p := ⟨Ll, hashD bs e, none⟩) n1 (.int .i64 (e : Int))).set 1 (.int .i64 ((e + 1 : Nat) : Int))
  have hl := ((h.last.away (p := ⟨Bb, e, none⟩) h.ne (.int .i64 (prevH bs (hashD bs e) e))).set (hashD bs e) (.int .i64 (e : Int))).away (p := ⟨S, 1, none⟩) n1.symm (.int .i64 ((e + 1 : Nat) : Int))
  have hb := ((h.bef.set e (.int .i64 (prevH bs (hashD bs e) e))).away (p := ⟨Ll, hashD bs e, none⟩) h.ne.symm (.int .i64 (e : Int))).away (p := ⟨S, 1, none⟩) n2.symm (.int .i64 ((e + 1 : Nat) : Int))
  rw [tabI_set] at hl hb
  have hbel : Below base w w' := hfr.below h.low.2.2.2 (fun j hj hs => by have := h.low; omega)
  have mv : ∀ {g : Nat} {T : TypeId} {cs : Array Value}, Whole (((w.setCell ⟨Bb, e, none⟩ (.int .i64 (prevH bs (hashD bs e) e))).setCell ⟨Ll, hashD bs e, none⟩ (.int .i64 (e : Int))).setCell ⟨S, 1, none⟩ (.int .i64 ((e + 1 : Nat) : Int))) g T cs → Whole w' g T cs := fun {g T cs} hx => by
    show w'.heap[g]? = _
    rw [hq]
    exact hx
  refine ⟨mv hw, ?_, ?_, h.row.belowB hbel h.rowLow, h.ne, ⟨h.low.1, h.low.2.1, h.low.2.2.1, Nat.le_trans h.low.2.2.2 hfr.size⟩, h.rowLow⟩
  · have := mv hl
    rwa [tabI_ext (g := fun k => prevH bs k (e + 1)) (fun i _ => (prevH_next bs i e).symm)] at this
  · have := mv hb
    rwa [tabI_ext (g := fun p => if p < e + 1 then prevH bs (hashD bs p) p else 0) (fun i _ => by
      by_cases q : i = e
      · rw [if_pos q, if_pos (by omega), q]
      · rw [if_neg q]
        by_cases q2 : i < e
        · rw [if_pos q2, if_pos (by omega)]
        · rw [if_neg q2, if_neg (by omega)])] at this
set_option maxRecDepth 100000 in
set_option maxHeartbeats 4000000 in
theorem enter_any (base S Ll Bb : Nat) (A : Option Addr) (n c : Nat) (bs : List Nat) (e i : Nat) (w : World) (h : SrS base w S Ll Bb A n c bs e) (hei : e ≤ i) (hi : i + 3 ≤ n) (hn : n ≤ 1048576) :
    Calls Try.prog 36 #[.pointer (some ⟨S, 0, none⟩), .int .i64 (i : Int)] w fun e w' => e = .returned (.tuple #[]) ∧ SrS base w' S Ll Bb A n c bs i ∧ FrD S Ll Bb w w' := by
  have H := Lib.hid h
  clear h
  go_enter Try.func36, Try.ntmps36
  go_wp2_with fail
  go_loopg [4] (i - e) (fun g _ wr => ∃ k : Nat, e ≤ k ∧ k + g = i ∧ Hid (SrS base wr S Ll Bb A n c bs k ∧ FrD S Ll Bb w wr))
  case atStart => exact ⟨e, Nat.le_refl _, by omega, Lib.hid ⟨H.out, Fr.refl _ _⟩⟩
  case round =>
    obtain ⟨k, hek, hkg, HK⟩ := hrel
    have y1 : wr.cell? ⟨S, 1, none⟩ = some (.int .i64 (k : Int)) := HK.out.1.whole.reads 1
    have lS := HK.out.1.whole.lt
    by_cases hlt : k < i
    · have d1 : decide ((k : Int) < (i : Int)) = true := decide_eq_true (by omega)
      have HH := Lib.hid (hash_any base S Ll Bb A n c bs k k wr HK.out.1 (by omega) hn)
      go_wp2_with fail
      refine HH.out.mono ?_
      rintro e1 w1 ⟨rfl, hb⟩
      have h1 := HK.out.1.fr hb
      have H1 := Lib.hid (And.intro h1 (show FrD S Ll Bb w w1 from HK.out.2.trans (Fr.of_below hb) (fun j hj hs => by have := HK.out.2.size; omega)))
      have n1 : S ≠ Ll := h1.whole.apart h1.last (by decide)
      have n2 : S ≠ Bb := h1.whole.apart h1.bef (by decide)
      have n3 := h1.ne
      have z1 : w1.cell? ⟨S, 1, none⟩ = some (.int .i64 (k : Int)) := h1.whole.reads 1
      have z2 : w1.cell? ⟨S, 2, none⟩ = some (.slice (some ⟨Ll, 0, none⟩) 32768 32768) := h1.whole.reads 2
      have z3 : w1.cell? ⟨S, 3, none⟩ = some (.slice (some ⟨Bb, 0, none⟩) n n) := h1.whole.reads 3
      have hlt2 := hashD_lt bs k
      obtain ⟨hv, hhv⟩ : ∃ hv, hashD bs k = hv := ⟨_, rfl⟩
      obtain ⟨pv, hpv⟩ : ∃ pv, prevH bs hv k = pv := ⟨_, rfl⟩
      rw [hhv] at hlt2 ⊢
      have z4 : w1.cell? ⟨Ll, hv, none⟩ = some (.int .i64 pv) := by rw [h1.last.reads, tabI_at _ _ _ hlt2, hpv]
      have z5 : w1.cell? ⟨Bb, k, none⟩ = some (.int .i64 0) := by rw [h1.bef.reads, tabI_at _ _ _ (by omega), if_neg (by omega)]
      have tS := h1.whole.thawed 1
      have tL := h1.last.thawed hv
      have tB := h1.bef.thawed k
      have lS := h1.whole.lt
      have lL := h1.last.lt
      have lB := h1.bef.lt
      have b1 : (0 : Int) ≤ (hv : Int) := by omega
      have b2 : (hv : Int) < 32768 := by omega
      have b3 : (0 : Int) ≤ (k : Int) := by omega
      have b4 : (k : Int) < (n : Int) := by omega
      have HHV := Lib.hid (And.intro hhv hpv)
      clear hb h1 hhv hpv y1
      go_wp2_with fail
      go_region
      go_wp2
      go_region
      go_wp2
      go_roundg (gk - 1)
      case measure => omega
      case rel =>
        refine ⟨k + 1, by omega, by omega, Lib.hid ⟨SrS.next H1.out.1 ?_ ?_, Fr.trans H1.out.2 (?_ : FrD S Ll Bb w1 _) (fun _ _ h => h)⟩⟩
        · rw [HHV.out.1, HHV.out.2]
          rfl
        · repeat (first | exact Fr.refl _ _ | refine Fr.drew ?_ | refine Fr.set ?_ (fun _ => by first | exact .inl rfl | exact .inr (.inl rfl) | exact .inr (.inr rfl)) _)
        · repeat (first | exact Fr.refl _ _ | refine Fr.drew ?_ | refine Fr.set ?_ (fun _ => by first | exact .inl rfl | exact .inr (.inl rfl) | exact .inr (.inr rfl)) _)
    · obtain rfl : k = i := by omega
      have d1 : decide ((k : Int) < (k : Int)) = false := by simp
      go_wp2_with fail
      go_end0
      exact ⟨rfl, HK.out⟩
end Go.Proofs.Ytnjdnldoopgcpaa
/- deflate: longest: pure. -/
namespace Go.Proofs.Ytnjdnldoopgcpaa

/-- What is told of the nearest J places. -/
def Told (bs : List Nat) (i J L B : Nat) : Prop := (L < 3 ∧ bestD bs i J = (0, 0)) ∨ (3 ≤ L ∧ bestD bs i J = (L, B))
/-- Where a search stands: J places are done, those up to the next one are no row of three. -/
def Done (bs : List Nat) (i : Nat) (p : Int) (L B : Nat) : Prop :=
  ∃ J, J ≤ i ∧ J ≤ 1024 ∧ Told bs i J L B ∧ (∀ j, J < j → j ≤ i → ((j : Int) < i - p ∨ p = -1) → comD bs (i - j) i (mostD bs i) < 3) ∧ (p = -1 ∨ ∃ q : Nat, p = (q : Int) ∧ q < i ∧ J < i - q ∧ hashD bs q = hashD bs i)
theorem com_far {bs : List Nat} {q i : Nat} (h : hashD bs q ≠ hashD bs i) (m : Nat) : comD bs q i m < 3 := by
  by_cases h3 : 3 ≤ comD bs q i m
  · exact absurd (com_hash h3) h
  · omega
theorem done_first (bs : List Nat) (i : Nat) : Done bs i (prevH bs (hashD bs i) i) 0 0 := by
  refine ⟨0, Nat.zero_le _, by omega, .inl ⟨by omega, rfl⟩, ?_, ?_⟩
  · intro j h1 h2 h3
    rcases prevH_in bs (hashD bs i) i with ⟨e, hno⟩ | ⟨p, e, hp, hh, hno⟩
    · exact com_far (hno _ (by omega)) _
    · rcases h3 with h3 | h3
      · exact com_far (hno (i - j) (by omega) (by omega)) _
      · omega
  · rcases prevH_in bs (hashD bs i) i with ⟨e, -⟩ | ⟨p, e, hp, hh, -⟩
    · exact .inl e
    · exact .inr ⟨p, e, hp, by omega, hh⟩
theorem told_step {bs : List Nat} {i J L B q n : Nat} (h : Told bs i J L B) (hq : q < i) (hJ : J < i - q) (hsk : ∀ j, J < j → j ≤ i → (j : Int) < i - (q : Int) → comD bs (i - j) i (mostD bs i) < 3) (hn : comD bs q i (mostD bs i) = n) :
    (L < n → Told bs i (i - q) n (i - q)) ∧ (¬ L < n → Told bs i (i - q) L B) := by
  obtain ⟨d, hd⟩ : ∃ d, i - q = J + d + 1 := ⟨i - q - J - 1, by omega⟩
  have hs := bestD_skip (b := bs) (i := i) (k := J) d (fun j h1 h2 => .inl (hsk j h1 (by omega) (by omega)))
  have hb : bestD bs i (i - q) = if 3 ≤ n ∧ (bestD bs i J).1 < n then (n, i - q) else bestD bs i J := by
    rw [hd]
    show bestD bs i (J + d + 1) = _
    rw [bestD, hs, ← hd, show i - (i - q) = q by omega, hn]
  constructor
  · intro hlt
    rcases h with ⟨h1, h2⟩ | ⟨h1, h2⟩
    · by_cases h3 : 3 ≤ n
      · exact .inr ⟨h3, by rw [hb, h2, if_pos ⟨h3, by show 0 < n; omega⟩]⟩
      · exact .inl ⟨by omega, by rw [hb, if_neg (fun h => h3 h.1), h2]⟩
    · exact .inr ⟨by omega, by rw [hb, h2, if_pos ⟨by omega, hlt⟩]⟩
  · intro hge
    rcases h with ⟨h1, h2⟩ | ⟨h1, h2⟩
    · exact .inl ⟨h1, by rw [hb, if_neg (by omega), h2]⟩
    · exact .inr ⟨h1, by rw [hb, h2, if_neg (fun h => hge h.2)]⟩
/-- A place done: the next one. -/
theorem done_next {bs : List Nat} {i q L B n L' B' : Nat} (h : Done bs i (q : Int) L B) (hq : i - q ≤ 1024) (hn : comD bs q i (mostD bs i) = n) (hL : (L < n ∧ L' = n ∧ B' = i - q) ∨ (¬ L < n ∧ L' = L ∧ B' = B)) :
    Done bs i (prevH bs (hashD bs q) q) L' B' := by
  obtain ⟨J, h1, h2, h3, h4, h5⟩ := h
  rcases h5 with h5 | ⟨q', e, h6, h7, h8⟩
  · omega
  obtain rfl : q' = q := by omega
  have ht := told_step h3 h6 h7 (fun j a b c => h4 j a b (.inl c)) hn
  refine ⟨i - q', by omega, hq, ?_, ?_, ?_⟩
  · rcases hL with ⟨a, rfl, rfl⟩ | ⟨a, rfl, rfl⟩
    · exact ht.1 a
    · exact ht.2 a
  · intro j a b c
    rw [h8] at c
    rcases prevH_in bs (hashD bs i) q' with ⟨e, hno⟩ | ⟨p, e, hp, hh, hno⟩
    · exact com_far (hno _ (by omega)) _
    · rcases c with c | c
      · exact com_far (hno (i - j) (by omega) (by omega)) _
      · omega
  · rw [h8]
    rcases prevH_in bs (hashD bs i) q' with ⟨e, -⟩ | ⟨p, e, hp, hh, -⟩
    · exact .inl e
    · exact .inr ⟨p, e, by omega, by omega, hh⟩
/-- The search is over. -/
theorem done_end {bs : List Nat} {i L B : Nat} {p : Int} (h : Done bs i p L B) (hend : p = -1 ∨ 1024 < (i : Int) - p ∨ (3 ≤ mostD bs i ∧ mostD bs i ≤ L)) : (L < 3 ∧ (foundD bs i).1 < 3) ∨ (3 ≤ L ∧ foundD bs i = (L, B)) := by
  obtain ⟨J, h1, h2, h3, h4, h5⟩ := h
  obtain ⟨d, hd⟩ : ∃ d, min i 1024 = J + d := ⟨min i 1024 - J, by omega⟩
  have hs : foundD bs i = bestD bs i J := by
    unfold foundD
    rw [hd]
    refine bestD_skip d (fun j a b => ?_)
    rcases hend with e | e | ⟨e1, e2⟩
    · exact .inl (h4 j a (by omega) (.inr e))
    · exact .inl (h4 j a (by omega) (.inl (by omega)))
    · refine .inr ?_
      have := comD_le bs (i - j) i (mostD bs i)
      rcases h3 with ⟨a1, a2⟩ | ⟨a1, a2⟩
      · omega
      · rw [a2]
        show _ ≤ L
        omega
  rcases h3 with ⟨a1, a2⟩ | ⟨a1, a2⟩
  · exact .inl ⟨a1, by rw [hs, a2]; show (0 : Nat) < 3; omega⟩
  · exact .inr ⟨a1, by rw [hs, a2]⟩
theorem found_small {bs : List Nat} {i : Nat} (h : mostD bs i < 3) : (foundD bs i).1 < 3 := by
  unfold foundD
  have := bestD_skip (b := bs) (i := i) (k := 0) (min i 1024) (fun j _ _ => .inl (by have := comD_le bs (i - j) i (mostD bs i); omega))
  rw [Nat.zero_add] at this
  rw [this]
  show (0 : Nat) < 3
  omega
end Go.Proofs.Ytnjdnldoopgcpaa
/- deflate: longest. -/
namespace Go.Proofs.Ytnjdnldoopgcpaa
open Go.RowKit

/-- What longest answers. -/
def LongIs (base S Ll Bb : Nat) (A : Option Addr) (n c : Nat) (bs : List Nat) (i : Nat) (w : World) (e : Ending) (w' : World) : Prop :=
  ∃ (L B k : Nat), e = .returned (.tuple #[.int .i64 (L : Int), .int .i64 (B : Int)]) ∧ SrS base w' S Ll Bb A n c bs k ∧ k ≤ i ∧ FrD S Ll Bb w w' ∧ ((L < 3 ∧ (foundD bs i).1 < 3) ∨ (3 ≤ L ∧ foundD bs i = (L, B)))
set_option maxRecDepth 100000 in
set_option maxHeartbeats 4000000 in
theorem longest_any (base S Ll Bb : Nat) (A : Option Addr) (n c : Nat) (bs : List Nat) (e i : Nat) (w : World) (h : SrS base w S Ll Bb A n c bs e) (hei : e ≤ i) (hi : i < n) (hn : n ≤ 1048576) :
    Calls Try.prog 19 #[.pointer (some ⟨S, 0, none⟩), .int .i64 (i : Int)] w (LongIs base S Ll Bb A n c bs i w) := by
  have hl := h.row.len
  have y0 : w.cell? ⟨S, 0, none⟩ = some (.slice A n c) := h.whole.reads 0
  have lS0 := h.whole.lt
  have H := Lib.hid h
  clear h
  obtain ⟨M, hM⟩ : ∃ M, n - i = M := ⟨_, rfl⟩
  have ewm : IntKind.i64.wrap ((n : Int) - (i : Int)) = (M : Int) := by rw [IntKind.wrap_i64]; omega
  go_enter Try.func19, Try.ntmps19
  by_cases h258 : 258 ≤ M
  · have HM := Lib.hid (show mostD bs i = 258 by unfold mostD; omega)
    have dm : (258 : Int) ≤ (M : Int) := by omega
    have HEN := Lib.hid (enter_any base S Ll Bb A n c bs e i w H.out hei (by omega) hn)
    go_wp2_with fail
    refine HEN.out.mono ?_
    rintro e1 w1 ⟨rfl, hs1, hf1⟩
    have HS1 := Lib.hid (And.intro hs1 hf1)
    have HS1d := Lib.hid (And.intro (hs1.fr (Below.refl _ _).drew) (show FrD S Ll Bb w w1.drew from Fr.drew hf1))
    have HH := Lib.hid (fun v (hv : SrS base v S Ll Bb A n c bs i) => hash_any base S Ll Bb A n c bs i i v hv (by omega) hn)
    have hlt2 := hashD_lt bs i
    obtain ⟨hv, hhv⟩ : ∃ hv, hashD bs i = hv := ⟨_, rfl⟩
    obtain ⟨P0, hP0⟩ : ∃ P0, prevH bs (hashD bs i) i = P0 := ⟨_, rfl⟩
    have hdone := done_first bs i
    have hP0r : -1 ≤ P0 ∧ P0 < (i : Int) := by
      rw [← hP0]
      rcases prevH_in bs (hashD bs i) i with ⟨e, -⟩ | ⟨p, e, hp, -, -⟩ <;> omega
    rw [hP0] at hdone
    have HD0 := Lib.hid hdone
    rw [hhv] at hlt2 hP0 HH
    have y2 : w1.cell? ⟨S, 2, none⟩ = some (.slice (some ⟨Ll, 0, none⟩) 32768 32768) := hs1.whole.reads 2
    have lS1 := hs1.whole.lt
    have b1 : (0 : Int) ≤ (hv : Int) := by omega
    have b2 : (hv : Int) < 32768 := by omega
    have HP0 := Lib.hid hP0
    have HAFT := Lib.hid (show ∀ w2, Below w1.drew.heap.size w1.drew w2 → w2.cell? ⟨S, 2, none⟩ = some (.slice (some ⟨Ll, 0, none⟩) 32768 32768) ∧ w2.cell? ⟨Ll, hv, none⟩ = some (.int .i64 P0) ∧ S < w2.heap.size ∧ Hid (SrS base w2 S Ll Bb A n c bs i ∧ FrD S Ll Bb w w2) from fun w2 hb => by
      have h2 := HS1d.out.1.fr hb
      refine ⟨h2.whole.reads 2, ?_, h2.whole.lt, Lib.hid ⟨h2, HS1d.out.2.trans (Fr.of_below hb) (fun j hj hs => by
        have := HS1d.out.2.size
        omega)⟩⟩
      rw [h2.last.reads, tabI_at _ _ _ hlt2, hP0])
    clear hs1 hf1 HEN hhv hP0 hdone
    go_wp2_with fail
    go_cut [9] from 24 to 33 (fun s9 wx => s9 = .int .i64 P0 ∧ Hid (SrS base wx S Ll Bb A n c bs i ∧ FrD S Ll Bb w wx))
    case first =>
      go_region_with (go_at_call 37; (with_reducible refine (HH.out _ HS1d.out.1).mono ?_); rintro e2 w2 ⟨rfl, hb⟩; obtain ⟨z2, z4, lS, HS2⟩ := HAFT.out _ hb; clear hb)
      all_goals
        go_wp2_with fail
        go_meet
        exact ⟨rfl, HS2⟩
    case rest =>
      obtain ⟨rfl, HS2⟩ := hcut
      go_wp2_with fail
      go_loopw [7, 8, 9] (fun s7 s8 s9 wr => ∃ (L B : Nat) (p : Int), s7 = .int .i64 (L : Int) ∧ s8 = .int .i64 (B : Int) ∧ s9 = .int .i64 p ∧ -1 ≤ p ∧ p < (i : Int) ∧ L ≤ 258 ∧ Hid (Done bs i p L B) ∧ Hid (SrS base wr S Ll Bb A n c bs i ∧ FrD S Ll Bb w wr)) (fun _ _ s9 _ => (intOf s9 + 1).toNat)
      case atStart => exact ⟨0, 0, P0, rfl, rfl, rfl, hP0r.1, hP0r.2, by omega, HD0, Lib.hid HS2.out⟩
      case round =>
        obtain ⟨L, B, p, rfl, rfl, rfl, hp1, hp2, hLM, HD, HR⟩ := hrel
        by_cases hpn : p = -1
        · have dp : (p != -1) = false := by simp [hpn]
          have HF := Lib.hid (done_end HD.out (.inl hpn))
          clear hpn
          go_wp2_with fail
          go_ret2
          exact ⟨L, B, i, rfl, HR.out.1, Nat.le_refl _, HR.out.2, HF.out⟩
        · obtain ⟨q, rfl⟩ : ∃ q : Nat, p = (q : Int) := ⟨p.toNat, by omega⟩
          have dp : ((q : Int) != -1) = true := by simp
          obtain ⟨D, hD⟩ : ∃ D, i - q = D := ⟨_, rfl⟩
          have ewd : IntKind.i64.wrap ((i : Int) - (q : Int)) = (D : Int) := by rw [IntKind.wrap_i64]; omega
          by_cases hfar : 1024 < D
          · have d2 : decide ((D : Int) ≤ 1024) = false := decide_eq_false (by omega)
            have HF := Lib.hid (done_end HD.out (.inr (.inl (by omega))))
            clear hfar
            go_wp2_with fail
            go_ret2
            exact ⟨L, B, i, rfl, HR.out.1, Nat.le_refl _, HR.out.2, HF.out⟩
          · have d2 : decide ((D : Int) ≤ 1024) = true := decide_eq_true (by omega)
            by_cases hful : L < 258
            · have d3 : decide ((L : Int) < 258) = true := decide_eq_true (by omega)
              have HCM := Lib.hid (common_any base S Ll Bb A n c bs i q i 258 wr HR.out.1 (by omega) (by omega) hn)
              obtain ⟨N, hN⟩ : ∃ N, comD bs q i 258 = N := ⟨_, rfl⟩
              rw [hN] at HCM
              have hNle := comD_le bs q i 258
              rw [hN] at hNle
              rw [← HM.out] at hN
              have HN := Lib.hid hN
              obtain ⟨P, hP⟩ : ∃ P, prevH bs (hashD bs q) q = P := ⟨_, rfl⟩
              have hPr : -1 ≤ P ∧ P < (q : Int) := by
                rw [← hP]
                rcases prevH_in bs (hashD bs q) q with ⟨e, -⟩ | ⟨p, e, hp, -, -⟩ <;> omega
              have HP := Lib.hid hP
              have hfar2 : i - q ≤ 1024 := by omega
              clear hN hP hfar
              go_wp2_with fail
              refine HCM.out.mono ?_
              rintro e3 w3 ⟨rfl, hb⟩
              have h3 := HR.out.1.fr hb
              have HS3 := Lib.hid (And.intro h3 (show FrD S Ll Bb w w3 from HR.out.2.trans (Fr.of_below hb) (fun j hj hs => by have := HR.out.2.size; omega)))
              have z3 : w3.cell? ⟨S, 3, none⟩ = some (.slice (some ⟨Bb, 0, none⟩) n n) := h3.whole.reads 3
              have z5 : w3.cell? ⟨Bb, q, none⟩ = some (.int .i64 P) := by rw [h3.bef.reads, tabI_at _ _ _ (by omega), if_pos (by omega), HP.out]
              have lS3 := h3.whole.lt
              have b3 : (0 : Int) ≤ (q : Int) := by omega
              have b4 : (q : Int) < (n : Int) := by omega
              clear hb h3 HCM
              have HNL := Lib.hid hNle
              have HPR := Lib.hid hPr
              have hpi : P < (i : Int) := by omega
              have HPI := Lib.hid hpi
              by_cases hgt : L < N
              · have d4 : decide ((N : Int) > (L : Int)) = true := decide_eq_true (by omega)
                have HDN := Lib.hid (done_next (L' := N) (B' := i - q) HD.out hfar2 HN.out (.inl ⟨hgt, rfl, rfl⟩))
                rw [HP.out, hD] at HDN
                clear hD hfar2 hNle hPr hpi
                go_wp2_with fail
                go_roundw
                case rel => exact ⟨N, D, P, rfl, rfl, rfl, HPR.out.1, HPI.out, (by have := HNL.out; omega), HDN, Lib.hid HS3.out⟩
                case measure => (have h1 := HPR.out; simp [intOf]; omega)
              · have d4 : decide ((N : Int) > (L : Int)) = false := decide_eq_false (by omega)
                have HDN := Lib.hid (done_next (L' := L) (B' := B) HD.out hfar2 HN.out (.inr ⟨hgt, rfl, rfl⟩))
                rw [HP.out] at HDN
                clear hD hfar2 hNle hPr hpi
                go_wp2_with fail
                go_roundw
                case rel => exact ⟨L, B, P, rfl, rfl, rfl, HPR.out.1, HPI.out, (by have := HNL.out; omega), HDN, Lib.hid HS3.out⟩
                case measure => (have h1 := HPR.out; simp [intOf]; omega)
            · have d3 : decide ((L : Int) < 258) = false := decide_eq_false (by omega)
              have HF := Lib.hid (done_end HD.out (.inr (.inr (by rw [HM.out]; omega))))

              go_wp2_with fail
              go_ret2
              exact ⟨L, B, i, rfl, HR.out.1, Nat.le_refl _, HR.out.2, HF.out⟩
  · have HM := Lib.hid (show mostD bs i = M by unfold mostD; omega)
    have dm : ¬ (258 : Int) ≤ (M : Int) := by omega
    by_cases h3 : M < 3
    · have d1 : decide ((M : Int) < 3) = true := decide_eq_true (by omega)
      go_wp2_with fail
      go_ret2
      exact ⟨0, 0, e, rfl, H.out, hei, Fr.refl _ _, .inl ⟨by omega, found_small (by rw [HM.out]; exact h3)⟩⟩
    · have d1 : decide ((M : Int) < 3) = false := decide_eq_false (by omega)
      have HEN := Lib.hid (enter_any base S Ll Bb A n c bs e i w H.out hei (by omega) hn)
      go_wp2_with fail
      refine HEN.out.mono ?_
      rintro e1 w1 ⟨rfl, hs1, hf1⟩
      have HS1 := Lib.hid (And.intro hs1 hf1)
      have HS1d := Lib.hid (And.intro (hs1.fr (Below.refl _ _).drew) (show FrD S Ll Bb w w1.drew from Fr.drew hf1))
      have HH := Lib.hid (fun v (hv : SrS base v S Ll Bb A n c bs i) => hash_any base S Ll Bb A n c bs i i v hv (by omega) hn)
      have hlt2 := hashD_lt bs i
      obtain ⟨hv, hhv⟩ : ∃ hv, hashD bs i = hv := ⟨_, rfl⟩
      obtain ⟨P0, hP0⟩ : ∃ P0, prevH bs (hashD bs i) i = P0 := ⟨_, rfl⟩
      have hdone := done_first bs i
      have hP0r : -1 ≤ P0 ∧ P0 < (i : Int) := by
        rw [← hP0]
        rcases prevH_in bs (hashD bs i) i with ⟨e, -⟩ | ⟨p, e, hp, -, -⟩ <;> omega
      rw [hP0] at hdone
      have HD0 := Lib.hid hdone
      rw [hhv] at hlt2 hP0 HH
      have y2 : w1.cell? ⟨S, 2, none⟩ = some (.slice (some ⟨Ll, 0, none⟩) 32768 32768) := hs1.whole.reads 2
      have lS1 := hs1.whole.lt
      have b1 : (0 : Int) ≤ (hv : Int) := by omega
      have b2 : (hv : Int) < 32768 := by omega
      have HP0 := Lib.hid hP0
      have HAFT := Lib.hid (show ∀ w2, Below w1.drew.heap.size w1.drew w2 → w2.cell? ⟨S, 2, none⟩ = some (.slice (some ⟨Ll, 0, none⟩) 32768 32768) ∧ w2.cell? ⟨Ll, hv, none⟩ = some (.int .i64 P0) ∧ S < w2.heap.size ∧ Hid (SrS base w2 S Ll Bb A n c bs i ∧ FrD S Ll Bb w w2) from fun w2 hb => by
        have h2 := HS1d.out.1.fr hb
        refine ⟨h2.whole.reads 2, ?_, h2.whole.lt, Lib.hid ⟨h2, HS1d.out.2.trans (Fr.of_below hb) (fun j hj hs => by
          have := HS1d.out.2.size
          omega)⟩⟩
        rw [h2.last.reads, tabI_at _ _ _ hlt2, hP0])
      clear hs1 hf1 HEN hhv hP0 hdone
      go_wp2_with fail
      go_cut [9] from 24 to 33 (fun s9 wx => s9 = .int .i64 P0 ∧ Hid (SrS base wx S Ll Bb A n c bs i ∧ FrD S Ll Bb w wx))
      case first =>
        go_region_with (go_at_call 37; (with_reducible refine (HH.out _ HS1d.out.1).mono ?_); rintro e2 w2 ⟨rfl, hb⟩; obtain ⟨z2, z4, lS, HS2⟩ := HAFT.out _ hb; clear hb)
        all_goals
          go_wp2_with fail
          go_meet
          exact ⟨rfl, HS2⟩
      case rest =>
        obtain ⟨rfl, HS2⟩ := hcut
        go_wp2_with fail
        go_loopw [7, 8, 9] (fun s7 s8 s9 wr => ∃ (L B : Nat) (p : Int), s7 = .int .i64 (L : Int) ∧ s8 = .int .i64 (B : Int) ∧ s9 = .int .i64 p ∧ -1 ≤ p ∧ p < (i : Int) ∧ L ≤ M ∧ Hid (Done bs i p L B) ∧ Hid (SrS base wr S Ll Bb A n c bs i ∧ FrD S Ll Bb w wr)) (fun _ _ s9 _ => (intOf s9 + 1).toNat)
        case atStart => exact ⟨0, 0, P0, rfl, rfl, rfl, hP0r.1, hP0r.2, by omega, HD0, Lib.hid HS2.out⟩
        case round =>
          obtain ⟨L, B, p, rfl, rfl, rfl, hp1, hp2, hLM, HD, HR⟩ := hrel
          by_cases hpn : p = -1
          · have dp : (p != -1) = false := by simp [hpn]
            have HF := Lib.hid (done_end HD.out (.inl hpn))
            clear hpn
            go_wp2_with fail
            go_ret2
            exact ⟨L, B, i, rfl, HR.out.1, Nat.le_refl _, HR.out.2, HF.out⟩
          · obtain ⟨q, rfl⟩ : ∃ q : Nat, p = (q : Int) := ⟨p.toNat, by omega⟩
            have dp : ((q : Int) != -1) = true := by simp
            obtain ⟨D, hD⟩ : ∃ D, i - q = D := ⟨_, rfl⟩
            have ewd : IntKind.i64.wrap ((i : Int) - (q : Int)) = (D : Int) := by rw [IntKind.wrap_i64]; omega
            by_cases hfar : 1024 < D
            · have d2 : decide ((D : Int) ≤ 1024) = false := decide_eq_false (by omega)
              have HF := Lib.hid (done_end HD.out (.inr (.inl (by omega))))
              clear hfar
              go_wp2_with fail
              go_ret2
              exact ⟨L, B, i, rfl, HR.out.1, Nat.le_refl _, HR.out.2, HF.out⟩
            · have d2 : decide ((D : Int) ≤ 1024) = true := decide_eq_true (by omega)
              by_cases hful : L < M
              · have d3 : decide ((L : Int) < (M : Int)) = true := decide_eq_true (by omega)
                have HCM := Lib.hid (common_any base S Ll Bb A n c bs i q i M wr HR.out.1 (by omega) (by omega) hn)
                obtain ⟨N, hN⟩ : ∃ N, comD bs q i M = N := ⟨_, rfl⟩
                rw [hN] at HCM
                have hNle := comD_le bs q i M
                rw [hN] at hNle
                rw [← HM.out] at hN
                have HN := Lib.hid hN
                obtain ⟨P, hP⟩ : ∃ P, prevH bs (hashD bs q) q = P := ⟨_, rfl⟩
                have hPr : -1 ≤ P ∧ P < (q : Int) := by
                  rw [← hP]
                  rcases prevH_in bs (hashD bs q) q with ⟨e, -⟩ | ⟨p, e, hp, -, -⟩ <;> omega
                have HP := Lib.hid hP
                have hfar2 : i - q ≤ 1024 := by omega
                clear hN hP hfar
                go_wp2_with fail
                refine HCM.out.mono ?_
                rintro e3 w3 ⟨rfl, hb⟩
                have h3 := HR.out.1.fr hb
                have HS3 := Lib.hid (And.intro h3 (show FrD S Ll Bb w w3 from HR.out.2.trans (Fr.of_below hb) (fun j hj hs => by have := HR.out.2.size; omega)))
                have z3 : w3.cell? ⟨S, 3, none⟩ = some (.slice (some ⟨Bb, 0, none⟩) n n) := h3.whole.reads 3
                have z5 : w3.cell? ⟨Bb, q, none⟩ = some (.int .i64 P) := by rw [h3.bef.reads, tabI_at _ _ _ (by omega), if_pos (by omega), HP.out]
                have lS3 := h3.whole.lt
                have b3 : (0 : Int) ≤ (q : Int) := by omega
                have b4 : (q : Int) < (n : Int) := by omega
                clear hb h3 HCM
                have HNL := Lib.hid hNle
                have HPR := Lib.hid hPr
                have hpi : P < (i : Int) := by omega
                have HPI := Lib.hid hpi
                by_cases hgt : L < N
                · have d4 : decide ((N : Int) > (L : Int)) = true := decide_eq_true (by omega)
                  have HDN := Lib.hid (done_next (L' := N) (B' := i - q) HD.out hfar2 HN.out (.inl ⟨hgt, rfl, rfl⟩))
                  rw [HP.out, hD] at HDN
                  clear hD hfar2 hNle hPr hpi
                  go_wp2_with fail
                  go_roundw
                  case rel => exact ⟨N, D, P, rfl, rfl, rfl, HPR.out.1, HPI.out, (by have := HNL.out; omega), HDN, Lib.hid HS3.out⟩
                  case measure => (have h1 := HPR.out; simp [intOf]; omega)
                · have d4 : decide ((N : Int) > (L : Int)) = false := decide_eq_false (by omega)
                  have HDN := Lib.hid (done_next (L' := L) (B' := B) HD.out hfar2 HN.out (.inr ⟨hgt, rfl, rfl⟩))
                  rw [HP.out] at HDN
                  clear hD hfar2 hNle hPr hpi
                  go_wp2_with fail
                  go_roundw
                  case rel => exact ⟨L, B, P, rfl, rfl, rfl, HPR.out.1, HPI.out, (by have := HNL.out; omega), HDN, Lib.hid HS3.out⟩
                  case measure => (have h1 := HPR.out; simp [intOf]; omega)
              · have d3 : decide ((L : Int) < (M : Int)) = false := decide_eq_false (by omega)
                have HF := Lib.hid (done_end HD.out (.inr (.inr (by rw [HM.out]; omega))))

                go_wp2_with fail
                go_ret2
                exact ⟨L, B, i, rfl, HR.out.1, Nat.le_refl _, HR.out.2, HF.out⟩
end Go.Proofs.Ytnjdnldoopgcpaa
/- deflate: newSearch. -/
namespace Go.Proofs.Ytnjdnldoopgcpaa
open Go.RowKit

theorem tabI_zero (k : Nat) : madeCells #[.int .i64 0] k = tabI (fun _ => 0) k := by
  unfold tabI
  apply Array.ext
  · simp [madeCells]
  · intro i h1 h2
    simp [madeCells, Nat.mod_one]
theorem make_tab (k : Nat) (hk : k ≤ 1048576) (W : World) : (Instr.makeSlice 50 (.int .i64 (k : Int)) (.int .i64 (k : Int))).run Try.prog W = .ok (.slice (some ⟨W.heap.size, 0, none⟩) k k) (W.alloc (.cells (tabI (fun _ => 0) k) 3)) := by
  rw [← tabI_zero]
  exact run_make_row' (P := Try.prog) 50 3 (.int .i64 0) 8 Try.underlying50 (by kernel_rfl) rfl .i64 .i64 k (by omega) (by omega) W
/-- A search that is being made: k places are set. -/
structure NsS (w : World) (S Ll Bb : Nat) (A : Option Addr) (n c k : Nat) (w' : World) : Prop where
  whole : Whole w' S 61 #[.slice A n c, .int .i64 0, .slice (some ⟨Ll, 0, none⟩) 32768 32768, .slice (some ⟨Bb, 0, none⟩) n n]
  last : Whole w' Ll 3 (tabI (fun h => if h < k then -1 else 0) 32768)
  bef : Whole w' Bb 3 (tabI (fun _ => 0) n)
  ne : Ll ≠ Bb
  low : w.heap.size ≤ S ∧ w.heap.size ≤ Ll ∧ w.heap.size ≤ Bb
  below : Below w.heap.size w w'
theorem NsS.next {w : World} {S Ll Bb : Nat} {A : Option Addr} {n c k : Nat} {w' : World} (h : NsS w S Ll Bb A n c k w') : NsS w S Ll Bb A n c (k + 1) (w'.setCell ⟨Ll, k, none⟩ (.int .i64 (-1))) := by
  refine ⟨h.whole.away (p := ⟨Ll, k, none⟩) (h.whole.apart h.last (by decide)) _, ?_, h.bef.away (p := ⟨Ll, k, none⟩) h.ne.symm _, h.ne, h.low, h.below.setCell h.low.2.1 _⟩
  have := h.last.set k (.int .i64 (-1))
  rw [tabI_set] at this
  rwa [tabI_ext (g := fun h => if h < k + 1 then -1 else 0) (fun i _ => by
    by_cases q : i = k
    · rw [if_pos q, if_pos (by omega)]
    · rw [if_neg q]
      by_cases q2 : i < k
      · rw [if_pos q2, if_pos (by omega)]
      · rw [if_neg q2, if_neg (by omega)])] at this
theorem ns_start {w w' : World} {S Ll Bb : Nat} {A : Option Addr} {n c : Nat} (h1 : Whole w' S 61 #[.slice A n c, .int .i64 0, .slice (some ⟨Ll, 0, none⟩) 32768 32768, .slice (some ⟨Bb, 0, none⟩) n n]) (h2 : Whole w' Ll 3 (tabI (fun _ => 0) 32768)) (h3 : Whole w' Bb 3 (tabI (fun _ => 0) n)) (h4 : Ll ≠ Bb) (h5 : w.heap.size ≤ S ∧ w.heap.size ≤ Ll ∧ w.heap.size ≤ Bb) (h6 : Below w.heap.size w w') : NsS w S Ll Bb A n c 0 w' :=
  ⟨h1, by rw [tabI_ext (g := fun _ => 0) (fun i _ => if_neg (Nat.not_lt_zero i))]; exact h2, h3, h4, h5, h6⟩
theorem made_at {W : World} {B : Nat} {T : TypeId} {cs : Array Value} (h : W.heap.size = B) : Whole (W.alloc (.cells cs T)) B T cs := by subst h; exact Whole.made _ _ _
theorem NsS.srs {w w' : World} {S Ll Bb : Nat} {A : Option Addr} {n c : Nat} {bs : List Nat} (h : NsS w S Ll Bb A n c 32768 w') (hb : Bytes w A n c bs) : SrS w.heap.size w' S Ll Bb A n c bs 0 :=
  ⟨h.whole, by rw [tabI_ext (f := fun q => prevH bs q 0) (g := fun q => if q < 32768 then -1 else 0) (fun i hi => by rw [if_pos hi]; rfl)]; exact h.last, by
    rw [tabI_ext (g := fun _ => 0) (fun i _ => if_neg (Nat.not_lt_zero i))]
    exact h.bef, hb.below h.below, h.ne, ⟨h.low.1, h.low.2.1, h.low.2.2, h.below.size⟩, fun hn R o e => by
    obtain ⟨R', o', e', hR, -⟩ := hb.at_ hn
    rw [e] at e'
    injection e' with e'
    injection e' with e' _
    omega⟩
/-- What newSearch answers. -/
def NsIs (A : Option Addr) (n c : Nat) (bs : List Nat) (w : World) (e : Ending) (w' : World) : Prop :=
  ∃ S Ll Bb, e = .returned (.pointer (some ⟨S, 0, none⟩)) ∧ SrS w.heap.size w' S Ll Bb A n c bs 0 ∧ Below w.heap.size w w'
set_option maxRecDepth 100000 in
set_option maxHeartbeats 4000000 in
theorem newSearch_any (A : Option Addr) (n c : Nat) (bs : List Nat) (w : World) (h : Bytes w A n c bs) (hn : n ≤ 1048576) :
    Calls Try.prog 18 #[.slice A n c] w (NsIs A n c bs w) := by
  have hm1 : ∀ W : World, (Instr.makeSlice 50 (.int .i64 32768) (.int .i64 32768)).run Try.prog W = .ok (.slice (some ⟨W.heap.size, 0, none⟩) 32768 32768) (W.alloc (.cells (tabI (fun _ => 0) 32768) 3)) := fun W => make_tab 32768 (by decide) W
  have hm2 := fun W => make_tab n hn W
  obtain ⟨Z1, hZ1⟩ : ∃ Z, tabI (fun _ => 0) 32768 = Z := ⟨_, rfl⟩
  obtain ⟨Z2, hZ2⟩ : ∃ Z, tabI (fun _ => 0) n = Z := ⟨_, rfl⟩
  simp only [hZ1] at hm1
  simp only [hZ2] at hm2
  have HZ := Lib.hid (And.intro hZ1 hZ2)
  have H := Lib.hid h
  clear h hZ1 hZ2
  go_enter Try.func18, Try.ntmps18
  go_wp2_with fail
  go_region
  · have e1 : (w.alloc (.cells Z1 3)).heap.size = w.heap.size + 1 := by simp
    have e2 : ((w.alloc (.cells Z1 3)).alloc (.cells Z2 3)).heap.size = w.heap.size + 1 + 1 := by simp
    have HN := Lib.hid (show NsS w (w.heap.size + 1 + 1) w.heap.size (w.heap.size + 1) A n c 0 (((w.alloc (.cells Z1 3)).alloc (.cells Z2 3)).alloc (.cells #[.slice A n c, .int .i64 0, .slice (some ⟨w.heap.size, 0, none⟩) 32768 32768, .slice (some ⟨(w.heap.size + 1), 0, none⟩) n n] 61)).drew from
      ns_start (made_at e2).drawn1 (by rw [HZ.out.1]; exact ((made_at rfl).old _ |>.old _).drawn1) (by rw [HZ.out.2]; exact ((made_at e1).old _).drawn1) (by omega) (by omega) (((((Below.refl w.heap.size w).alloc (Nat.le_refl _) _).alloc (by rw [e1]; omega) _).alloc (by rw [e2]; omega) _).drew))
    clear e1 e2
    go_wp2_with fail
    go_loopw [17] (fun s wr => ∃ k : Nat, s = .int .i64 (k : Int) ∧ k ≤ 32768 ∧ Hid (NsS w (w.heap.size + 1 + 1) w.heap.size (w.heap.size + 1) A n c k wr)) (fun s _ => 32768 - (intOf s).toNat)
    case atStart => exact ⟨0, rfl, by omega, HN⟩
    case round =>
      obtain ⟨k, rfl, hk, HK⟩ := hrel
      by_cases hlt : k < 32768
      · have d1 : decide ((k : Int) < 32768) = true := decide_eq_true (by omega)
        have z2 : wr.cell? ⟨w.heap.size + 1 + 1, 2, none⟩ = some (.slice (some ⟨w.heap.size, 0, none⟩) 32768 32768) := HK.out.whole.reads 2
        obtain ⟨u, hu⟩ : ∃ u, wr.cell? ⟨w.heap.size, k, none⟩ = some (.int .i64 u) := ⟨_, by rw [HK.out.last.reads, tabI_at _ _ _ hlt]⟩
        have tL := HK.out.last.thawed k
        have lS := HK.out.whole.lt
        have lL := HK.out.last.lt
        have HX := Lib.hid HK.out.next
        go_wp2_with fail
        go_roundw
        case rel => exact ⟨k + 1, by go_num, by omega, HX⟩
        case measure => simp [intOf]; omega
      · obtain rfl : k = 32768 := by omega
        have d1 : decide (((32768 : Nat) : Int) < 32768) = false := by decide
        go_wp2_with fail
        go_ret
        exact ⟨_, _, _, rfl, HK.out.srs H.out, HK.out.below⟩
  · have e1 : (w.alloc (.cells Z2 3)).heap.size = w.heap.size + 1 := by simp
    have e2 : ((w.alloc (.cells Z2 3)).alloc (.cells Z1 3)).heap.size = w.heap.size + 1 + 1 := by simp
    have HN := Lib.hid (show NsS w (w.heap.size + 1 + 1) (w.heap.size + 1) w.heap.size A n c 0 (((w.alloc (.cells Z2 3)).alloc (.cells Z1 3)).alloc (.cells #[.slice A n c, .int .i64 0, .slice (some ⟨(w.heap.size + 1), 0, none⟩) 32768 32768, .slice (some ⟨w.heap.size, 0, none⟩) n n] 61)).drew from
      ns_start (made_at e2).drawn1 (by rw [HZ.out.1]; exact ((made_at e1).old _).drawn1) (by rw [HZ.out.2]; exact ((made_at rfl).old _ |>.old _).drawn1) (by omega) (by omega) (((((Below.refl w.heap.size w).alloc (Nat.le_refl _) _).alloc (by rw [e1]; omega) _).alloc (by rw [e2]; omega) _).drew))
    clear e1 e2
    go_wp2_with fail
    go_loopw [17] (fun s wr => ∃ k : Nat, s = .int .i64 (k : Int) ∧ k ≤ 32768 ∧ Hid (NsS w (w.heap.size + 1 + 1) (w.heap.size + 1) w.heap.size A n c k wr)) (fun s _ => 32768 - (intOf s).toNat)
    case atStart => exact ⟨0, rfl, by omega, HN⟩
    case round =>
      obtain ⟨k, rfl, hk, HK⟩ := hrel
      by_cases hlt : k < 32768
      · have d1 : decide ((k : Int) < 32768) = true := decide_eq_true (by omega)
        have z2 : wr.cell? ⟨w.heap.size + 1 + 1, 2, none⟩ = some (.slice (some ⟨(w.heap.size + 1), 0, none⟩) 32768 32768) := HK.out.whole.reads 2
        obtain ⟨u, hu⟩ : ∃ u, wr.cell? ⟨(w.heap.size + 1), k, none⟩ = some (.int .i64 u) := ⟨_, by rw [HK.out.last.reads, tabI_at _ _ _ hlt]⟩
        have tL := HK.out.last.thawed k
        have lS := HK.out.whole.lt
        have lL := HK.out.last.lt
        have HX := Lib.hid HK.out.next
        go_wp2_with fail
        go_roundw
        case rel => exact ⟨k + 1, by go_num, by omega, HX⟩
        case measure => simp [intOf]; omega
      · obtain rfl : k = 32768 := by omega
        have d1 : decide (((32768 : Nat) : Int) < 32768) = false := by decide
        go_wp2_with fail
        go_ret
        exact ⟨_, _, _, rfl, HK.out.srs H.out, HK.out.below⟩
end Go.Proofs.Ytnjdnldoopgcpaa
