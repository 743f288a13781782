/- ZlibTurned, walked. -/
import Derived.Test.YtnjdnldoopgcpaaDoorZlH
namespace Go.Proofs.YtnjdnldoopgcpaaDoor
open Go.RowKit

/-- A byte set in a row of one's own. -/
theorem own_setz {w : World} {base n : Nat} {v : Value} {bs : List Nat} (h : w.ownsRow base 5 1 v n (bvs bs)) (hl : bs.length = n) (hb : ∀ b ∈ bs, b < 256) (hn : 0 < n) :
    ∃ g cap, v = .slice (some ⟨g, 0, none⟩) n cap ∧ n ≤ cap ∧ base ≤ g ∧ g < w.heap.size ∧ (∀ k : Nat, w.frozen? ⟨g, k, none⟩ = false) ∧ (∀ k x : Nat, bs[k]? = some x → w.cell? ⟨g, k, none⟩ = some (.int .u8 (x : Int))) ∧
      ∀ k y : Nat, k < n → y < 256 → Bytes (w.setCell ⟨g, k, none⟩ (.int .u8 (y : Int))) (some ⟨g, 0, none⟩) n cap (bs.set k y) := by
  obtain ⟨h1, h2 | ⟨g, cap, cur, rfl, hg, hw, hc, hm, hs, ht⟩⟩ := h
  · omega
  have hcell : ∀ i x : Nat, bs[i]? = some x → cur[i]? = some (.int .u8 (x : Int)) := fun i x hx => by
    have hi : i < bs.length := (List.getElem?_eq_some_iff.1 hx).1
    have h3 : (cur.toList.take (n * 1))[i]? = some (.int .u8 (x : Int)) := by
      rw [ht]
      unfold bvs
      rw [List.getElem?_map, hx]
      rfl
    rw [List.getElem?_take, if_pos (by omega)] at h3
    simpa using h3
  have hcapm : cap ≤ 9223372036854775807 := by unfold maxLen at hm; omega
  refine ⟨g, cap, rfl, hc, hg, Whole.lt hw, Whole.thawed hw, fun k x hx => (Whole.reads hw k).trans (hcell k x hx), fun k y hk hy => ⟨by rw [List.length_set]; exact hl, hc, hcapm, fun x hx => ?_, fun _ => ⟨g, 0, rfl, by simpa using Whole.lt hw, fun i x hx => ?_⟩⟩⟩
  · rcases List.mem_or_eq_of_mem_set hx with hx | hx
    · exact hb x hx
    · omega
  · rw [Nat.zero_add, (Whole.set hw k _).reads, Array.getElem?_setIfInBounds]
    rw [List.getElem?_set] at hx
    by_cases e : k = i
    · subst e
      rw [if_pos rfl] at hx ⊢
      have hkl : k < bs.length := by omega
      rw [if_pos hkl] at hx
      have hks : k < cur.size := by
        have := hcell k _ (List.getElem?_eq_getElem hkl)
        exact (Array.getElem?_eq_some_iff.1 this).1
      rw [if_pos hks]
      injection hx with hx
      rw [hx]
    · rw [if_neg e] at hx ⊢
      exact hcell i x hx
theorem bigE_set {n j x y : Nat} (hj : (bigE n)[j]? = some y) : ((bigE n).set j x = bigE n ↔ y = x) := by
  constructor
  · intro h
    have h2 : ((bigE n).set j x)[j]? = some x := by
      rw [List.getElem?_set, if_pos rfl, if_pos (List.getElem?_eq_some_iff.1 hj).1]
    rw [h, hj] at h2
    injection h2
  · rintro rfl
    apply List.ext_getElem?
    intro i
    rw [List.getElem?_set]
    by_cases e : j = i
    · subst e
      rw [if_pos rfl, if_pos (List.getElem?_eq_some_iff.1 hj).1, hj]
    · rw [if_neg e]
theorem packB_set (bs ds : List Nat) (j x : Nat) : (packB bs ds).set (ds.length + 2 + j) x = 120 :: 1 :: (ds ++ (bigE (sumZ bs)).set j x) := by
  have hll : ([120, 1] ++ ds).length ≤ ds.length + 2 + j := by simp only [List.length_append, List.length_cons, List.length_nil]; omega
  unfold packB
  rw [List.set_append_right _ _ hll]
  simp only [List.length_append, List.length_cons, List.length_nil]
  rw [show ds.length + 2 + j - (0 + 1 + 1 + ds.length) = j by omega]
  rfl
set_option maxRecDepth 100000 in
set_option maxHeartbeats 8000000 in
theorem zturned_law (A : Option Addr) (n c : Nat) (bs : List Nat) (at_ : Int) (x : Int) (w : World) (h : Bytes w A n c bs) (hx : 0 ≤ x ∧ x < 256) (hE : Env w) :
    Calls Tryd.prog 6 #[.slice A n c, .int .i64 at_, .int .u8 x] w (True_ w) := by
  have hl := h.len
  have H0 := Lib.hid h
  have HE := Lib.hid hE
  clear h hE
  obtain ⟨y, rfl⟩ : ∃ y : Nat, x = (y : Int) := ⟨x.toNat, by omega⟩
  go_enter Tryd.func6, Tryd.ntmps6
  by_cases g1 : 1000 < n
  · have d1 : decide ((n : Int) > 1000) = true := decide_eq_true (by omega)
    go_wp2_with fail
    go_ret
    exact ⟨rfl, Below.refl _ _⟩
  have d1 : decide ((n : Int) > 1000) = false := decide_eq_false (by omega)
  by_cases g2 : at_ < 0
  · have d2 : decide (at_ < 0) = true := decide_eq_true g2
    go_wp2_with fail
    go_ret
    exact ⟨rfl, Below.refl _ _⟩
  have d2 : decide (at_ < 0) = false := decide_eq_false g2
  by_cases g3 : 3 < at_
  · have d3 : decide (at_ > 3) = true := decide_eq_true (by omega)
    go_wp2_with fail
    go_ret
    exact ⟨rfl, Below.refl _ _⟩
  have d3 : decide (at_ > 3) = false := decide_eq_false (by omega)
  obtain ⟨j, rfl⟩ : ∃ j : Nat, at_ = (j : Int) := ⟨at_.toNat, by omega⟩
  have hj4 : j < 4 := by omega
  go_wp2_with fail
  refine (zpack_any A n c bs w H0.out (by omega)).mono ?_
  rintro e w1 ⟨v, ds, hho, rfl, hown, hb⟩
  have hpb : ∀ x ∈ packB bs ds, x < 256 := fun x hx => by
    unfold packB at hx
    rcases List.mem_append.1 hx with hx | hx
    · rcases List.mem_append.1 hx with hx | hx
      · simp at hx; omega
      · exact hho.byte x hx
    · exact bigE_byte _ x hx
  have hpl := packB_len bs ds
  have hsh := hho.short (tokD_ok H0.out.byte)
  have htl := tokD_len bs
  obtain ⟨K, hK⟩ : ∃ K, (packB bs ds).length = K := ⟨_, rfl⟩
  rw [hK] at hown
  obtain ⟨g, cap, rfl, hKc, hg, hgs, hfz, hce, hset⟩ := own_setz hown hK hpb (by omega)
  obtain ⟨z, hz⟩ : ∃ z, (bigE (sumZ bs))[j]? = some z := ⟨_, List.getElem?_eq_getElem (by simp [bigE]; omega)⟩
  obtain ⟨i, hi⟩ : ∃ i, ds.length + 2 + j = i := ⟨_, rfl⟩
  have k0 : w1.cell? ⟨g, i, none⟩ = some (.int .u8 (z : Int)) := by rw [← hi]; exact hce _ _ (packB_at bs ds j z hz)
  have f0 := hfz i
  have d4 : decide ((K : Int) < 6) = false := decide_eq_false (by omega)
  have ew1 : IntKind.i64.wrap ((K : Int) - 4) = ((ds.length + 2 : Nat) : Int) := by rw [IntKind.wrap_i64]; omega
  obtain ⟨p, hp⟩ : ∃ p, ds.length + 2 = p := ⟨_, rfl⟩
  rw [hp] at ew1
  have ew2 : IntKind.i64.wrap ((p : Int) + (j : Int)) = (i : Int) := by rw [IntKind.wrap_i64]; omega
  have b1 : (0 : Int) ≤ (i : Int) := by omega
  have b2 : (i : Int) < (K : Int) := by omega
  have hKl : K ≤ 20000 := by omega
  have hK3 : 3 ≤ K := by omega
  obtain ⟨w2, hw2⟩ : ∃ w2, w1.setCell ⟨g, i, none⟩ (.int .u8 (y : Int)) = w2 := ⟨_, rfl⟩
  have hby2 := hset i y (by omega) (by omega)
  rw [hw2, ← hi, packB_set] at hby2
  have hb2 : Below w.heap.size w w2 := by rw [← hw2]; exact hb.setCell (p := ⟨g, i, none⟩) hg _
  have ht4 : (bigE (sumZ bs)).set j y ≠ [] := by simp [bigE]
  have HU := Lib.hid (zunp_any (some ⟨g, 0, none⟩) K cap (ds ++ (bigE (sumZ bs)).set j y) 1000 w2 hby2 hK3 (by omega) (by omega) (HE.out.here hb2) (fun x u hx => unz_used H0.out.byte (by omega) (by omega) hho ht4 hx))
  have HP := Lib.hid (show unzP (ds ++ (bigE (sumZ bs)).set j y) 1000 = if z = y then (bs, 0) else ([], 7) by
    rw [unz_pack _ H0.out.byte (by omega) (by omega) hho, if_neg (by simp [bigE]), List.take_of_length_le (by simp [bigE])]
    by_cases e : z = y
    · rw [if_pos e, if_pos ((bigE_set hz).2 e)]
    · rw [if_neg e, if_neg (fun h => e ((bigE_set hz).1 h))])
  have H2 := Lib.hid hb2
  clear hho hown hb hpb hpl hsh htl hK hce hset hfz hz hi hp hby2 hb2 ht4
  go_wp2_with fail
  refine HU.out.mono ?_
  rintro e w3 ⟨x, E, A3, c3, hp, rfl, hby, hb⟩
  have H3 := Lib.hid (H2.out.trans (hb.mono H2.out.size))
  rw [HP.out] at hp
  clear hby hb HU
  by_cases hzy : z = y
  · rw [if_pos hzy] at hp
    injection hp with hp1 hp2
    subst hp1 hp2
    have e1 : ((z : Int) == (y : Int)) = true := by simp [hzy]
    clear hzy
    go_wp2_with fail
    refine (awake08 _).mono ?_
    rintro e w4 ⟨rfl, hb⟩
    have H4 := Lib.hid (H3.out.trans (hb.mono H3.out.size))
    clear hb
    go_wp2_with fail
    go_ret
    exact ⟨rfl, H4.out⟩
  · rw [if_neg hzy] at hp
    injection hp with hp1 hp2
    subst hp1 hp2
    have e1 : ((z : Int) == (y : Int)) = false := by simp; omega
    clear hzy
    go_wp2_with fail
    refine (awake08 _).mono ?_
    rintro e w4 ⟨rfl, hb⟩
    have H4 := Lib.hid (H3.out.trans (hb.mono H3.out.size))
    clear hb
    go_wp2_with fail
    go_ret
    exact ⟨rfl, H4.out⟩
end Go.Proofs.YtnjdnldoopgcpaaDoor
