/- lex: text. Written by gen_lexj.py. -/
import Derived.Test.YtdiaijdobglaaaaGreatDoorLexI
namespace Go.Proofs.YtdiaijdobglaaaaGreatDoor
open Go.RowKit

theorem strL_at {l acc : List Nat} {d k x : Nat} (h : l[k]? = some x) : strL d acc (l.drop k) =
    if x = 40 then strL (d + 1) (acc ++ [40]) (l.drop (k + 1))
    else if x = 41 then (if d = 1 then some (acc, l.drop (k + 1)) else strL (d - 1) (acc ++ [41]) (l.drop (k + 1)))
    else if x = 13 then strL d (acc ++ [10]) (skN (l.drop (k + 1)))
    else if x = 92 then strL d (acc ++ (escL (l.drop (k + 1))).1) (escL (l.drop (k + 1))).2
    else strL d (acc ++ [x]) (l.drop (k + 1)) := by
  rw [strL_eq, drop_at h, if_neg (by simp)]
  rfl
theorem strL_nil {l acc : List Nat} {d k : Nat} (h : l.length ≤ k) : strL d acc (l.drop k) = none := by
  rw [strL_eq, if_pos (by rw [List.length_drop]; omega)]
theorem skN_at {l : List Nat} {k : Nat} : (l[k]? = some 10 → skN (l.drop k) = l.drop (k + 1)) ∧ (l[k]? ≠ some 10 → skN (l.drop k) = l.drop k) := by
  constructor
  · intro h
    unfold skN
    rw [hd_at h, if_pos rfl, List.drop_drop]
  · intro h
    unfold skN
    rw [if_neg (fun e => h ?_)]
    cases hy : l[k]? with
    | none => rw [hd_none (by simpa using hy)] at e; cases e
    | some y => rw [hd_at hy] at e; rw [e]
/-- What text and hexText answer: a token and the place behind, or an error. -/
def TxtSaid (x : NX) (R : Nat) (A : Option Addr) (n c : Nat) (bs : List Nat) (k : Nat) (w : World) (e : Ending) (w' : World) : Prop :=
  ∃ k' : Nat, Moved R A n c bs k' (.tuple #[tokV x.2.1, .int .i64 x.1]) w e w' ∧ (x.1 = 0 → x.2.2 = bs.drop k' ∧ k ≤ k')
/-- A row of one's own and a result's cells behind what was there, and a reader of what was there. -/
structure StS (w wr : World) (R : Nat) (A : Option Addr) (n c : Nat) (bs : List Nat) (k : Nat) (v : Value) (acc : List Nat) : Prop where
  own : wr.ownsRow (w.heap.size + 1) 5 1 v acc.length (bvs acc)
  rdr : Rdr wr R A n c bs k
  res : Whole wr w.heap.size 27 #[.int .i64 0, .int .i64 0, .int .i64 0, .string ⟨#[]⟩]
  fr : FrR R w wr
  byte : ∀ b ∈ acc, b < 256
  low : R < w.heap.size
  away : 0 < n → ∀ B o, A = some ⟨B, o, none⟩ → B < w.heap.size
section
variable {w wr w1 : World} {R : Nat} {A : Option Addr} {n c k : Nat} {v : Value} {acc bs : List Nat}
theorem StS.first (h : Rdr w R A n c bs k) : StS w (w.alloc (.cells #[.int .i64 0, .int .i64 0, .int .i64 0, .string ⟨#[]⟩] 27)) R A n c bs k (.slice none 0 0) [] :=
  ⟨World.ownsRow_nil _ _ _ _, h.here ((Below.refl _ _).alloc (Nat.le_refl _) _), Whole.made _ _ _, (Fr.refl _ _).alloc _, fun b hb => by simp at hb, h.box.lt, fun hn B o e => by
    obtain ⟨B', o', e', hB, _⟩ := h.bytes.at_ hn
    rw [e] at e'
    injection e' with e'
    injection e' with e1 _
    omega⟩
theorem StS.moved {k' : Nat} (h : StS w wr R A n c bs k v acc) (hr : Rdr w1 R A n c bs k') (f : FrR R wr w1) : StS w w1 R A n c bs k' v acc :=
  ⟨own_frame h.own f (fun g e => by have := (own_lt h.own e).1; have := h.low; show ¬ g = R; omega), hr, h.res.frame f (by have := h.low; show ¬ w.heap.size = R; omega), FrR.trans h.fr f, h.byte, h.low, h.away⟩
theorem StS.draw (h : StS w wr R A n c bs k v acc) (j : Nat) : StS w (wr.drewN j) R A n c bs k v acc := h.moved (h.rdr.drewN j) ((Fr.refl _ _).drewN j)
theorem StS.push {v' : Value} {x : Nat} {o : Obj} (h : StS w wr R A n c bs k v acc) (hx : x < 256) (hown : w1.ownsRow (w.heap.size + 1) 5 1 v' (acc.length + 1) (bvs acc ++ [.int .u8 (x : Int)])) (hg : (wr.alloc o).grownBy w1 v.ownBlock) : StS w w1 R A n c bs k v' (acc ++ [x]) := by
  have hs := h.res.lt
  have hlow := h.low
  have hno : ∀ g, v.ownBlock = some g → w.heap.size + 1 ≤ g := fun g e => (own_lt h.own e).1
  refine ⟨by rw [List.length_append, bvs_append]; exact hown, ⟨(h.rdr.box.old o).kept hg (fun e => by have := hno R e.symm; omega), h.rdr.bytes.moved (Nat.le_trans (by simp) hg.size) (fun hn B o' e => ?_), h.rdr.away, h.rdr.le, h.rdr.small⟩,
    (h.res.old o).kept hg (fun e => by have := hno _ e.symm; omega), (h.fr.alloc o).grown hg (fun j e hj => by have := hno j e; omega), fun b hb => ?_, h.low, h.away⟩
  · have hB := h.away hn B o' e
    rw [hg.block B (by simp; omega) (fun e => by have := hno B e.symm; omega)]
    exact Below.heap_alloc wr o B (by omega)
  · rcases List.mem_append.1 hb with hb | hb
    · exact h.byte b hb
    · rw [List.mem_singleton.1 hb]; exact hx
theorem StS.cells (h : StS w wr R A n c bs k v acc) : w.heap.size < wr.heap.size ∧ R < wr.heap.size := ⟨h.res.lt, h.rdr.box.lt⟩
end
theorem tok_rdr {w wr : World} {R : Nat} {A : Option Addr} {n c k : Nat} {v p q r s : Value} {acc bs : List Nat} (h : StS w wr R A n c bs k v acc) :
    Rdr ((((wr.setCell ⟨w.heap.size, 0, none⟩ p).setCell ⟨w.heap.size, 1, none⟩ q).setCell ⟨w.heap.size, 2, none⟩ r).setCell ⟨w.heap.size, 3, none⟩ s) R A n c bs k := by
  have hR : R ≠ w.heap.size := by have := h.low; omega
  refine ⟨(((h.rdr.box.away (p := ⟨w.heap.size, 0, none⟩) hR p).away (p := ⟨w.heap.size, 1, none⟩) hR q).away (p := ⟨w.heap.size, 2, none⟩) hR r).away (p := ⟨w.heap.size, 3, none⟩) hR s, h.rdr.bytes.moved (by simp) (fun hn B o e => ?_), h.rdr.away, h.rdr.le, h.rdr.small⟩
  have hB : B ≠ w.heap.size := by have := h.away hn B o e; omega
  rw [Below.heap_setCell _ ⟨w.heap.size, 3, none⟩ s B hB, Below.heap_setCell _ ⟨w.heap.size, 2, none⟩ r B hB, Below.heap_setCell _ ⟨w.heap.size, 1, none⟩ q B hB, Below.heap_setCell _ ⟨w.heap.size, 0, none⟩ p B hB]
theorem tok_fr {w wr : World} {R : Nat} {A : Option Addr} {n c k : Nat} {v p q r s : Value} {acc bs : List Nat} (h : StS w wr R A n c bs k v acc) :
    FrR R w ((((wr.setCell ⟨w.heap.size, 0, none⟩ p).setCell ⟨w.heap.size, 1, none⟩ q).setCell ⟨w.heap.size, 2, none⟩ r).setCell ⟨w.heap.size, 3, none⟩ s) :=
  (((h.fr.set (p := ⟨w.heap.size, 0, none⟩) (fun h => absurd h (Nat.lt_irrefl _)) p).set (p := ⟨w.heap.size, 1, none⟩) (fun h => absurd h (Nat.lt_irrefl _)) q).set (p := ⟨w.heap.size, 2, none⟩) (fun h => absurd h (Nat.lt_irrefl _)) r).set (p := ⟨w.heap.size, 3, none⟩) (fun h => absurd h (Nat.lt_irrefl _)) s
theorem txt_end {o : Option (List Nat × List Nat)} {w wr : World} {R : Nat} {A : Option Addr} {n c k0 k : Nat} {v p q r s : Value} {acc bs : List Nat} {z1 : Int} {t : TokV} (he : o = some (acc, bs.drop k)) (hz : limT 3 (some acc) = (z1, t)) (h : StS w wr R A n c bs k v acc) (hk : k0 ≤ k) :
    TxtSaid (limL 3 o) R A n c bs k0 w (.returned (.tuple #[tokV t, .int .i64 z1])) ((((wr.setCell ⟨w.heap.size, 0, none⟩ p).setCell ⟨w.heap.size, 1, none⟩ q).setCell ⟨w.heap.size, 2, none⟩ r).setCell ⟨w.heap.size, 3, none⟩ s) := by
  subst he
  obtain ⟨e1, e2⟩ := limL_T 3 (some (acc, bs.drop k))
  rw [show (some (acc, bs.drop k)).map (·.1) = some acc from rfl, hz] at e1 e2
  refine ⟨k, ⟨by rw [e1, e2], tok_rdr h, tok_fr h⟩, fun h0 => ⟨?_, hk⟩⟩
  unfold limL at h0 ⊢
  simp only at h0 ⊢
  split
  · rename_i hl
    rw [if_pos hl] at h0
    exact absurd h0 (by decide)
  · rfl
set_option maxRecDepth 100000 in
set_option maxHeartbeats 16000000 in
theorem text_any (R : Nat) (A : Option Addr) (n c : Nat) (bs : List Nat) (k0 : Nat) (w : World) (h : Rdr w R A n c bs k0) :
    Calls Tryz.prog 35 #[.pointer (some ⟨R, 0, none⟩)] w (TxtSaid (limL 3 (strL 1 [] (bs.drop k0))) R A n c bs k0 w) := by
  obtain ⟨i0, hi, hz0, hz1, hz2⟩ := info_parts info8
  have hle0 := h.le
  have hsm := h.small
  have HN := Lib.hid h.len
  have H0 := Lib.hid (StS.first h)
  have HB := Lib.hid h.bytes.byte
  clear h
  go_enter Tryz.func35, Tryz.ntmps35
  go_wp2
  go_step3
  go_wp2
  go_step3
  go_wp2
  go_loopg [4, 5] (n - k0) (fun g v dv wr => ∃ (k d : Nat) (acc : List Nat), g + k = n ∧ k0 ≤ k ∧ dv = .int .i64 (d : Int) ∧ 1 ≤ d ∧ d ≤ k + 1 ∧ acc.length ≤ k ∧ Hid (StS w wr R A n c bs k v acc) ∧ Hid (strL 1 [] (bs.drop k0) = strL d acc (bs.drop k)))
  case atStart => exact ⟨k0, 1, [], by omega, Nat.le_refl _, rfl, Nat.le_refl _, by omega, by simp, H0, Lib.hid rfl⟩
  case round =>
    obtain ⟨k, d, acc, hg, hkk, rfl, hd1, hd2, hal, HS, HA⟩ := hrel
    obtain ⟨a0, cc, rfl⟩ := own_slice HS.out.own
    obtain ⟨l0, l1⟩ := HS.out.cells
    by_cases hk : k < n
    · obtain ⟨x, hx⟩ : ∃ x, bs[k]? = some x := ⟨_, List.getElem?_eq_getElem (by rw [HN.out]; exact hk)⟩
      have hx2 := HB.out x (List.mem_of_getElem? hx)
      have HX := Lib.hid hx
      have HK := Lib.hid hk
      have HT := Lib.hid (strL_at (d := d) (acc := acc) hx)
      clear hx
      by_cases e40 : x = 40
      · have t40 : ((x : Int) == 40) = true := by simp; omega
        have HE := Lib.hid (show strL 1 [] (bs.drop k0) = strL (d + 1) (acc ++ [x]) (bs.drop (k + 1)) by rw [HA.out, HT.out, if_pos e40, e40])
        clear e40
        go_wp2_with fail
        refine (more_t HS.out.rdr HK.out).mono ?_
        rintro e w1 ⟨rfl, j, rfl⟩
        go_wp2_with fail
        refine (take_any R A n c bs k x _ (HS.out.rdr.drewN j) HX.out).mono ?_
        rintro e w1 ⟨rfl, hr, hf⟩
        have HS1 := Lib.hid ((HS.out.draw j).moved hr hf)
        clear hr hf HS l0 l1
        obtain ⟨l0, l1⟩ := HS1.out.cells
        go_wp2_with (at_builtin; refine wpList_append_own _ rfl _ _ 22 rfl (w.heap.size + 1) 5 i0 (.int .u8 0) 1 1 Tryz.underlying22 hi hz0 hz1 hz2 rfl (by decide) _ _ _ rfl (HS1.out.own.alloc _) ⟨w1.heap.size, 0, none⟩ 1 1 [.int .u8 (x : Int)] rfl rfl ?a1 ?b1 ?c1 ?d1 ?e1 ?_)
        case a1 => exact cell_one_new _ _ _
        case b1 => simp [Value.oneCell']
        case c1 => unfold maxLen; omega
        case d1 => omega
        case e1 => first | omega | (simp; omega)
        intro v' w9 hown' hgrow _
        obtain ⟨a1, c1, rfl⟩ := own_slice hown'
        have HS9 := Lib.hid (HS1.out.push (x := x) hx2 hown' hgrow)
        clear hown' hgrow
        go_wp2_with fail
        go_roundg (n - (k + 1))
        case measure => omega
        case rel => exact ⟨(k + 1), d + 1, acc ++ [x], by omega, by omega, by go_num, by omega, by omega, by rw [List.length_append]; simp; omega, HS9, HE⟩
      have t40 : ((x : Int) == 40) = false := by simp; omega
      by_cases e41 : x = 41
      · have t41 : ((x : Int) == 41) = true := by simp; omega
        by_cases hdd : d = 1
        · have HE := Lib.hid (show strL 1 [] (bs.drop k0) = some (acc, bs.drop (k + 1)) by rw [HA.out, HT.out, if_neg e40, if_pos e41, if_pos hdd])
          have z1 : ((d : Int) - 1 == 0) = true := by simp; omega
          clear e41
          obtain rfl : d = 1 := hdd
          go_wp2_with fail
          refine (more_t HS.out.rdr HK.out).mono ?_
          rintro e w1 ⟨rfl, j, rfl⟩
          go_wp2_with fail
          refine (take_any R A n c bs k x _ (HS.out.rdr.drewN j) HX.out).mono ?_
          rintro e w1 ⟨rfl, hr, hf⟩
          have HS1 := Lib.hid ((HS.out.draw j).moved hr hf)
          clear hr hf HS l0 l1
          obtain ⟨l0, l1⟩ := HS1.out.cells
          go_wp2_with fail
          have hob := own_bytes HS1.out.own HS1.out.byte
          refine (limited_any 3 a0 acc.length cc acc _ hob).mono ?_
          rintro e w2 ⟨rfl, hb⟩
          have HS2 := Lib.hid (show StS w w2 R A n c bs (k + 1) (.slice a0 acc.length cc) acc from HS1.out.moved (HS1.out.rdr.here hb) ((Fr.of_below hb).more (fun j hj hj2 => absurd hj (by omega))))
          have rd := HS2.out.res.reads
          have ft := HS2.out.res.thawed
          have lS := HS2.out.res.lt
          obtain ⟨⟨z1, ⟨kd, zm, zs, zt⟩⟩, hz⟩ : ∃ z, limT 3 (some acc) = z := ⟨_, rfl⟩
          rw [hz]
          have HZ := Lib.hid hz
          clear hz hb hob
          simp only [tokV]
          go_wp2_with fail
          refine ret_tok (t := ⟨kd, zm, zs, zt⟩) (x := .int .i64 z1) (g := w.heap.size) (tok_set HS2.out.res) (fun V hV => by have rv := hV.reads; simp [results, Tryz.results35, go_sem, rv, tokV]) rfl ?_
          exact txt_end HE.out HZ.out HS2.out (by omega)
        · have HE := Lib.hid (show strL 1 [] (bs.drop k0) = strL (d - 1) (acc ++ [x]) (bs.drop (k + 1)) by rw [HA.out, HT.out, if_neg e40, if_pos e41, if_neg hdd, e41])
          have z1 : ((d : Int) - 1 == 0) = false := by simp; omega
          clear e41
          go_wp2_with fail
          refine (more_t HS.out.rdr HK.out).mono ?_
          rintro e w1 ⟨rfl, j, rfl⟩
          go_wp2_with fail
          refine (take_any R A n c bs k x _ (HS.out.rdr.drewN j) HX.out).mono ?_
          rintro e w1 ⟨rfl, hr, hf⟩
          have HS1 := Lib.hid ((HS.out.draw j).moved hr hf)
          clear hr hf HS l0 l1
          obtain ⟨l0, l1⟩ := HS1.out.cells
          go_wp2_with (at_builtin; refine wpList_append_own _ rfl _ _ 22 rfl (w.heap.size + 1) 5 i0 (.int .u8 0) 1 1 Tryz.underlying22 hi hz0 hz1 hz2 rfl (by decide) _ _ _ rfl (HS1.out.own.alloc _) ⟨w1.heap.size, 0, none⟩ 1 1 [.int .u8 (x : Int)] rfl rfl ?a2 ?b2 ?c2 ?d2 ?e2 ?_)
          case a2 => exact cell_one_new _ _ _
          case b2 => simp [Value.oneCell']
          case c2 => unfold maxLen; omega
          case d2 => omega
          case e2 => first | omega | (simp; omega)
          intro v' w9 hown' hgrow _
          obtain ⟨a1, c1, rfl⟩ := own_slice hown'
          have HS9 := Lib.hid (HS1.out.push (x := x) hx2 hown' hgrow)
          clear hown' hgrow
          go_wp2_with fail
          go_roundg (n - (k + 1))
          case measure => omega
          case rel => exact ⟨(k + 1), (d - 1), acc ++ [x], by omega, by omega, by go_num, by omega, by omega, by rw [List.length_append]; simp; omega, HS9, HE⟩
      have t41 : ((x : Int) == 41) = false := by simp; omega
      by_cases e13 : x = 13
      · have t13 : ((x : Int) == 13) = true := by simp; omega
        by_cases h10 : bs[k + 1]? = some 10
        · have HE := Lib.hid (show strL 1 [] (bs.drop k0) = strL d (acc ++ [10]) (bs.drop (k + 1 + 1)) by rw [HA.out, HT.out, if_neg e40, if_neg e41, if_pos e13, skN_at.1 h10])
          have H10 := Lib.hid h10
          clear h10 e13
          go_wp2_with fail
          refine (more_t HS.out.rdr HK.out).mono ?_
          rintro e w1 ⟨rfl, j, rfl⟩
          go_wp2_with fail
          refine (take_any R A n c bs k x _ (HS.out.rdr.drewN j) HX.out).mono ?_
          rintro e w1 ⟨rfl, hr, hf⟩
          have HS1 := Lib.hid ((HS.out.draw j).moved hr hf)
          clear hr hf HS l0 l1
          obtain ⟨l0, l1⟩ := HS1.out.cells
          go_wp2_with fail
          refine (skip_yes R A n c bs (k + 1) 10 _ HS1.out.rdr H10.out).mono ?_
          rintro e w2 ⟨rfl, hr, hf⟩
          have HS2 := Lib.hid (HS1.out.moved hr hf)
          have hle2 := hr.le
          clear hr hf l0 l1
          obtain ⟨l0, l1⟩ := HS2.out.cells
          go_wp2_with (at_builtin; refine wpList_append_own _ rfl _ _ 22 rfl (w.heap.size + 1) 5 i0 (.int .u8 0) 1 1 Tryz.underlying22 hi hz0 hz1 hz2 rfl (by decide) _ _ _ rfl (HS2.out.own.alloc _) ⟨w2.heap.size, 0, none⟩ 1 1 [.int .u8 10] rfl rfl ?a3 ?b3 ?c3 ?d3 ?e3 ?_)
          case a3 => exact cell_one_new _ _ _
          case b3 => simp [Value.oneCell']
          case c3 => unfold maxLen; omega
          case d3 => omega
          case e3 => first | omega | (simp; omega)
          intro v' w9 hown' hgrow _
          obtain ⟨a1, c1, rfl⟩ := own_slice hown'
          have HS9 := Lib.hid (HS2.out.push (x := 10) (by decide) hown' hgrow)
          clear hown' hgrow
          go_wp2_with fail
          go_roundg (n - (k + 1 + 1))
          case measure => omega
          case rel => exact ⟨(k + 1 + 1), d, acc ++ [10], by omega, by omega, rfl, by omega, by omega, by rw [List.length_append]; simp; omega, HS9, HE⟩
        · have HE := Lib.hid (show strL 1 [] (bs.drop k0) = strL d (acc ++ [10]) (bs.drop (k + 1)) by rw [HA.out, HT.out, if_neg e40, if_neg e41, if_pos e13, skN_at.2 h10])
          have H10 := Lib.hid h10
          clear h10 e13
          go_wp2_with fail
          refine (more_t HS.out.rdr HK.out).mono ?_
          rintro e w1 ⟨rfl, j, rfl⟩
          go_wp2_with fail
          refine (take_any R A n c bs k x _ (HS.out.rdr.drewN j) HX.out).mono ?_
          rintro e w1 ⟨rfl, hr, hf⟩
          have HS1 := Lib.hid ((HS.out.draw j).moved hr hf)
          clear hr hf HS l0 l1
          obtain ⟨l0, l1⟩ := HS1.out.cells
          go_wp2_with fail
          refine (skip_no R A n c bs (k + 1) 10 _ HS1.out.rdr H10.out).mono ?_
          rintro e w2 ⟨rfl, hr, hf⟩
          have HS2 := Lib.hid (HS1.out.moved hr hf)
          clear hr hf l0 l1
          obtain ⟨l0, l1⟩ := HS2.out.cells
          go_wp2_with (at_builtin; refine wpList_append_own _ rfl _ _ 22 rfl (w.heap.size + 1) 5 i0 (.int .u8 0) 1 1 Tryz.underlying22 hi hz0 hz1 hz2 rfl (by decide) _ _ _ rfl (HS2.out.own.alloc _) ⟨w2.heap.size, 0, none⟩ 1 1 [.int .u8 10] rfl rfl ?a4 ?b4 ?c4 ?d4 ?e4 ?_)
          case a4 => exact cell_one_new _ _ _
          case b4 => simp [Value.oneCell']
          case c4 => unfold maxLen; omega
          case d4 => omega
          case e4 => first | omega | (simp; omega)
          intro v' w9 hown' hgrow _
          obtain ⟨a1, c1, rfl⟩ := own_slice hown'
          have HS9 := Lib.hid (HS2.out.push (x := 10) (by decide) hown' hgrow)
          clear hown' hgrow
          go_wp2_with fail
          go_roundg (n - (k + 1))
          case measure => omega
          case rel => exact ⟨(k + 1), d, acc ++ [10], by omega, by omega, rfl, by omega, by omega, by rw [List.length_append]; simp; omega, HS9, HE⟩
      have t13 : ((x : Int) == 13) = false := by simp; omega
      by_cases e92 : x = 92
      · have t92 : ((x : Int) == 92) = true := by simp; omega
        have HT2 := Lib.hid (show strL 1 [] (bs.drop k0) = strL d (acc ++ (escL (bs.drop (k + 1))).1) (escL (bs.drop (k + 1))).2 by rw [HA.out, HT.out, if_neg e40, if_neg e41, if_neg e13, if_pos e92])
        clear e92
        go_wp2_with fail
        refine (more_t HS.out.rdr HK.out).mono ?_
        rintro e w1 ⟨rfl, j, rfl⟩
        go_wp2_with fail
        refine (take_any R A n c bs k x _ (HS.out.rdr.drewN j) HX.out).mono ?_
        rintro e w1 ⟨rfl, hr, hf⟩
        have HS1 := Lib.hid ((HS.out.draw j).moved hr hf)
        clear hr hf HS l0 l1
        obtain ⟨l0, l1⟩ := HS1.out.cells
        go_wp2_with fail
        refine (escape_any R A n c bs (k + 1) _ HS1.out.rdr).mono ?_
        rintro e w2 ⟨v, k2, ok, ⟨rfl, hr, hf⟩, hv, he, hk2⟩
        have HS2 := Lib.hid (HS1.out.moved hr hf)
        have hle2 := hr.le
        have HEE := Lib.hid he
        clear hr hf he l0 l1
        obtain ⟨l0, l1⟩ := HS2.out.cells
        cases ok with
        | false =>
          have HE := Lib.hid (show strL 1 [] (bs.drop k0) = strL d acc (bs.drop k2) by rw [HT2.out, HEE.out]; simp)
          go_wp2_with fail
          go_roundg (n - k2)
          case measure => omega
          case rel => exact ⟨k2, d, acc, by omega, by omega, rfl, by omega, by omega, by omega, HS2, HE⟩
        | true =>
          have HE := Lib.hid (show strL 1 [] (bs.drop k0) = strL d (acc ++ [v]) (bs.drop k2) by rw [HT2.out, HEE.out]; simp)
          go_wp2_with (at_builtin; refine wpList_append_own _ rfl _ _ 22 rfl (w.heap.size + 1) 5 i0 (.int .u8 0) 1 1 Tryz.underlying22 hi hz0 hz1 hz2 rfl (by decide) _ _ _ rfl (HS2.out.own.alloc _) ⟨w2.heap.size, 0, none⟩ 1 1 [.int .u8 (v : Int)] rfl rfl ?a5 ?b5 ?c5 ?d5 ?e5 ?_)
          case a5 => exact cell_one_new _ _ _
          case b5 => simp [Value.oneCell']
          case c5 => unfold maxLen; omega
          case d5 => omega
          case e5 => first | omega | (simp; omega)
          intro v' w9 hown' hgrow _
          obtain ⟨a1, c1, rfl⟩ := own_slice hown'
          have HS9 := Lib.hid (HS2.out.push (x := v) hv hown' hgrow)
          clear hown' hgrow
          go_wp2_with fail
          go_roundg (n - k2)
          case measure => omega
          case rel => exact ⟨k2, d, acc ++ [v], by omega, by omega, rfl, by omega, by omega, by rw [List.length_append]; simp; omega, HS9, HE⟩
      have t92 : ((x : Int) == 92) = false := by simp; omega
      have HE := Lib.hid (show strL 1 [] (bs.drop k0) = strL d (acc ++ [x]) (bs.drop (k + 1)) by rw [HA.out, HT.out, if_neg e40, if_neg e41, if_neg e13, if_neg e92])
      go_wp2_with fail
      refine (more_t HS.out.rdr HK.out).mono ?_
      rintro e w1 ⟨rfl, j, rfl⟩
      go_wp2_with fail
      refine (take_any R A n c bs k x _ (HS.out.rdr.drewN j) HX.out).mono ?_
      rintro e w1 ⟨rfl, hr, hf⟩
      have HS1 := Lib.hid ((HS.out.draw j).moved hr hf)
      clear hr hf HS l0 l1
      obtain ⟨l0, l1⟩ := HS1.out.cells
      go_wp2_with (at_builtin; refine wpList_append_own _ rfl _ _ 22 rfl (w.heap.size + 1) 5 i0 (.int .u8 0) 1 1 Tryz.underlying22 hi hz0 hz1 hz2 rfl (by decide) _ _ _ rfl (HS1.out.own.alloc _) ⟨w1.heap.size, 0, none⟩ 1 1 [.int .u8 (x : Int)] rfl rfl ?a6 ?b6 ?c6 ?d6 ?e6 ?_)
      case a6 => exact cell_one_new _ _ _
      case b6 => simp [Value.oneCell']
      case c6 => unfold maxLen; omega
      case d6 => omega
      case e6 => first | omega | (simp; omega)
      intro v' w9 hown' hgrow _
      obtain ⟨a1, c1, rfl⟩ := own_slice hown'
      have HS9 := Lib.hid (HS1.out.push (x := x) hx2 hown' hgrow)
      clear hown' hgrow
      go_wp2_with fail
      go_roundg (n - (k + 1))
      case measure => omega
      case rel => exact ⟨(k + 1), d, acc ++ [x], by omega, by omega, rfl, by omega, by omega, by rw [List.length_append]; simp; omega, HS9, HE⟩
    · have HE := Lib.hid (show strL 1 [] (bs.drop k0) = none by rw [HA.out, strL_nil (by rw [HN.out]; omega)])
      have HK := Lib.hid hk
      clear hk
      have z1 : decide ((d : Int) > 0) = true := decide_eq_true (by omega)
      have z2 : decide ((0 : Int) < (d : Int)) = true := decide_eq_true (by omega)
      go_wp2_with fail
      refine (more_f HS.out.rdr HK.out).mono ?_
      rintro e w1 ⟨rfl, j, rfl⟩
      have HS1 := Lib.hid (HS.out.draw j)
      have rd := HS1.out.res.reads
      have ft := HS1.out.res.thawed
      have lS := HS1.out.res.lt
      go_wp2_with fail
      refine ret_tok (t := noTok) (x := .int .i64 4) (g := w.heap.size) (tok_set HS1.out.res) (fun V hV => by have rv := hV.reads; simp [results, Tryz.results35, go_sem, rv, tokV, noTok, strB]) rfl ?_
      rw [HE.out]
      exact ⟨k, ⟨rfl, tok_rdr HS1.out, tok_fr HS1.out⟩, fun h => absurd h (by decide)⟩
end Go.Proofs.YtdiaijdobglaaaaGreatDoor
