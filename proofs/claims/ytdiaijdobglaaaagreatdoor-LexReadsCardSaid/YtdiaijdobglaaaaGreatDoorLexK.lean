/- lex: hexText. -/
import Derived.Test.YtdiaijdobglaaaaGreatDoorLexJ
import Derived.Test.YtdiaijdobglaaaaGreatDoorShelf
import Derived.Lib.Bytealg
import Derived.Lib.Bytes
namespace Go.Proofs.YtdiaijdobglaaaaGreatDoor
open Go.RowKit

/-- Where the mark stands that ends a text in sixteens; -1 where there is none. -/
def gtI (z : List Nat) : Int := match cutGt z with
  | none => -1
  | some x => x.1.length
theorem gtI_cons (c : Nat) (z : List Nat) : gtI (c :: z) = if c = 62 then 0 else if gtI z = -1 then -1 else gtI z + 1 := by
  unfold gtI
  rw [cutGt]
  by_cases h : c = 62
  · rw [if_pos h, if_pos h]; rfl
  · rw [if_neg h, if_neg h]
    cases cutGt z with
    | none => rfl
    | some x =>
      show ((c :: x.1).length : Int) = if (x.1.length : Int) = -1 then -1 else (x.1.length : Int) + 1
      rw [if_neg (by omega)]
      simp
theorem gt_idx : ∀ (z : List Nat), (∀ x ∈ z, x < 256) → Lib.indexByte (Lib.bytesOf (z.map fun x : Nat => (x : Int))) 62 = gtI z
  | [], _ => rfl
  | c :: z, h => by
    have hc := h c (List.mem_cons_self ..)
    have ih := gt_idx z (fun y hy => h y (List.mem_cons_of_mem _ hy))
    have e : Lib.bytesOf ((c :: z).map fun x : Nat => (x : Int)) = UInt8.ofNat c :: Lib.bytesOf (z.map fun x : Nat => (x : Int)) := rfl
    rw [e, Lib.indexByte, ih, gtI_cons]
    have hb : (UInt8.ofNat c == 62) = decide (c = 62) := by
      rw [Bool.eq_iff_iff, beq_iff_eq, decide_eq_true_iff]
      constructor
      · intro e
        have := congrArg UInt8.toNat e
        rw [UInt8.toNat_ofNat', Nat.mod_eq_of_lt (by omega)] at this
        exact this
      · rintro rfl; rfl
    rw [hb]
    by_cases h : c = 62
    · simp [h]
    · rw [decide_eq_false h]
      by_cases h1 : gtI z = -1 <;> simp [h, h1]
theorem idx_any (B o m cc : Nat) (z : List Nat) (w : World) (hz : z.length = m) (hb : ∀ x ∈ z, x < 256) (hc : ∀ (i x : Nat), z[i]? = some x → w.cell? ⟨B, o + i, none⟩ = some (.int .u8 (x : Int))) :
    Calls Tryz.prog 60 #[.slice (some ⟨B, o, none⟩) m cc, .int .u8 62] w fun e w' => e = .returned (.int .i64 (gtI z)) ∧ w' = w := by
  have := Tryz.bytes_IndexByte B o m cc (z.map fun x : Nat => (x : Int)) 62 w (by rw [List.length_map, hz]) (fun i hi => by
    have hx : z[i]? = some z[i] := List.getElem?_eq_getElem (by omega)
    rw [hc i _ hx]
    simp [List.getD_eq_getElem?_getD, hx])
  rw [show ((62 : Int).toNat.toUInt8) = (62 : UInt8) from rfl, gt_idx z hb] at this
  exact this
theorem own_set {W : World} {base g n cap : Nat} {q : List Nat} (h : W.ownsRow base 5 1 (.slice (some ⟨g, 0, none⟩) n cap) n (bvs q)) (k x : Nat) :
    (W.setCell ⟨g, k, none⟩ (.int .u8 (x : Int))).ownsRow base 5 1 (.slice (some ⟨g, 0, none⟩) n cap) n (bvs (q.set k x)) := by
  have hbs : bvs (q.set k x) = (bvs q).set k (.int .u8 (x : Int)) := by simp [bvs, List.map_set]
  obtain ⟨hl, h⟩ := h
  refine ⟨by rw [hbs, List.length_set]; exact hl, ?_⟩
  rcases h with ⟨h0, _⟩ | ⟨g', cap', cur, hv, hb, hw, hn, hc, hs, ht⟩
  · cases h0
  · cases hv
    refine .inr ⟨g, cap, cur.setIfInBounds k (.int .u8 (x : Int)), rfl, hb, Whole.set (T := 5) hw k _, hn, hc, by simpa using hs, ?_⟩
    rw [hbs, ← ht, Array.toList_setIfInBounds, List.take_set]
section
variable {w wr : World} {R : Nat} {A : Option Addr} {n c k : Nat} {v : Value} {acc bs : List Nat}
/-- A byte of the row is turned. -/
theorem StS.turn {g cap : Nat} (h : StS w wr R A n c bs k (.slice (some ⟨g, 0, none⟩) acc.length cap) acc) (i x : Nat) (hx : x < 256) : StS w (wr.setCell ⟨g, i, none⟩ (.int .u8 (x : Int))) R A n c bs k (.slice (some ⟨g, 0, none⟩) acc.length cap) (acc.set i x) := by
  have hg := (own_lt (g := g) h.own rfl).1
  have hlow := h.low
  have hs := h.res.lt
  refine ⟨by rw [List.length_set]; exact own_set h.own i x, ⟨h.rdr.box.away (p := ⟨g, i, none⟩) (by show R ≠ g; omega) _, h.rdr.bytes.moved (by simp) (fun hn B o' e => ?_), h.rdr.away, h.rdr.le, h.rdr.small⟩,
    h.res.away (p := ⟨g, i, none⟩) (by show w.heap.size ≠ g; omega) _, h.fr.set (p := ⟨g, i, none⟩) (fun h1 => by have h2 : g < w.heap.size := h1; omega) _, fun b hb => ?_, h.low, h.away⟩
  · have hB := h.away hn B o' e
    exact Below.heap_setCell wr ⟨g, i, none⟩ _ B (by show B ≠ g; omega)
  · rcases List.mem_or_eq_of_mem_set hb with hb | rfl
    · exact h.byte b hb
    · exact hx
/-- The row's own block. -/
theorem StS.row (h : StS w wr R A n c bs k v acc) (h0 : 0 < acc.length) : ∃ g cap, v = .slice (some ⟨g, 0, none⟩) acc.length cap ∧ g < wr.heap.size ∧ (∀ (i x : Nat), acc[i]? = some x → wr.cell? ⟨g, i, none⟩ = some (.int .u8 (x : Int))) ∧ (∀ i, wr.frozen? ⟨g, i, none⟩ = false) ∧ acc.length ≤ cap ∧ cap ≤ 9223372036854775807 := by
  obtain ⟨A', c', R', e, -, -, hr⟩ := Row8.of_own h.own h.byte
  obtain ⟨hl, ho⟩ := h.own
  rcases ho with ⟨_, h1⟩ | ⟨g, cap, cur, hv, hb, hw, hn, hc, hs, ht⟩
  · exact absurd h1 (by omega)
  · refine ⟨g, cap, hv, Whole.lt (T := 5) hw, fun i x hi => ?_, Whole.thawed (T := 5) hw, hn, by unfold maxLen at hc; omega⟩
    rw [Whole.reads (T := 5) hw]
    have hi2 : i < acc.length := (List.getElem?_eq_some_iff.1 hi).1
    have hv : (List.take (acc.length * 1) cur.toList)[i]? = some (.int .u8 (x : Int)) := by rw [ht]; simp [bvs, hi]
    rw [List.getElem?_take, if_pos (by omega)] at hv
    rw [← Array.getElem?_toList]
    exact hv
end
theorem pr_even {ds : List Nat} (v : Nat) (h : ds.length % 2 = 0) : prL (ds ++ [v]) = prL ds ++ [16 * v] := prL_even (ds.length / 2) ds v (by omega)
theorem pr_odd {ds : List Nat} (v : Nat) (h : ds.length % 2 = 1) : ∃ a, a ∈ ds ∧ (prL ds)[(prL ds).length - 1]? = some (16 * a) ∧ 0 < (prL ds).length ∧ prL (ds ++ [v]) = (prL ds).set ((prL ds).length - 1) (16 * a + v) := by
  have hne : ds ≠ [] := by intro e; rw [e] at h; cases h
  have e := List.dropLast_concat_getLast hne
  obtain ⟨a, ha⟩ : ∃ a, ds.getLast hne = a := ⟨_, rfl⟩
  rw [ha] at e
  have hl : ds.dropLast.length = 2 * (ds.length / 2) := by rw [List.length_dropLast]; omega
  have e1 : prL ds = prL ds.dropLast ++ [16 * a] := by
    conv => lhs; rw [← e]
    exact prL_even _ _ _ hl
  have e2 : prL (ds ++ [v]) = prL ds.dropLast ++ [16 * a + v] := by
    conv => lhs; rw [← e, List.append_assoc]
    exact prL_odd _ _ _ _ hl
  refine ⟨a, by rw [← ha]; exact List.getLast_mem hne, ?_, by rw [e1]; simp, ?_⟩
  · rw [e1]; simp
  · rw [e2, e1]; simp
end Go.Proofs.YtdiaijdobglaaaaGreatDoor
