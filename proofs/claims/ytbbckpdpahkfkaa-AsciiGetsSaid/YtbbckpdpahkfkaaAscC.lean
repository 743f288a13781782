/- hexValues: walked; a range over a text. -/
import Derived.Test.YtbbckpdpahkfkaaAscB
namespace Go.Proofs.Ytbbckpdpahkfkaa
open Go.RowKit

/-- A text's iterator in block B stands at byte p. -/
def IT (B : Nat) (t : List Nat) (p : Nat) (W : World) : Prop := W.heap[B]? = some (.stringIter (strB t) p)
theorem run_next_at {W : World} {B : Nat} {s : ByteArray} {pos : Nat} (ty : TypeId) (hB : W.heap[B]? = some (.stringIter s pos)) (h : pos < s.size) :
    (Instr.next (.pointer (some ⟨B, 0, none⟩)) true ty).run Try.prog W = .ok (.tuple #[.bool true, .int .i64 pos, .int .i32 (Utf8.decode s pos).1]) (W.putObj B (.stringIter s (pos + (Utf8.decode s pos).2))) := by
  have hB' : W.heap[B]? = some (.stringIter s pos) := hB
  simp only [Instr.next, getObj, setObj, Sem.run_bind, Sem.run, hB', Result.andThen, h, if_true, World.putObj]
  simp [goInt]
theorem run_next_stop {W : World} {B : Nat} {s : ByteArray} {pos : Nat} (ty : TypeId) (hB : W.heap[B]? = some (.stringIter s pos)) (h : ¬ pos < s.size) :
    (Instr.next (.pointer (some ⟨B, 0, none⟩)) true ty).run Try.prog W = .ok (.tuple #[.bool false]) W := by
  simp [Instr.next, getObj, Sem.run, hB, h]
theorem strB_at {t : List Nat} {p : Nat} (hp : p < (strB t).size) (hb : ∀ x ∈ t, x < 256) : ((strB t)[p]'hp).toNat = t.getD p 0 := by
  have hl : p < t.length := by rwa [strB_size] at hp
  have e : (strB t)[p]'hp = UInt8.ofNat (t[p]'hl) := by
    have h1 : ((t.map UInt8.ofNat).toArray)[p]? = some (UInt8.ofNat (t[p]'hl)) := by simp [hl]
    exact Array.getElem_eq_iff.2 h1
  rw [e, List.getD_eq_getElem?_getD, List.getElem?_eq_getElem hl]
  simp only [Option.getD_some, UInt8.toNat_ofNat']
  exact Nat.mod_eq_of_lt (hb _ (List.getElem_mem hl))
theorem it_low {t : List Nat} {p : Nat} (hp : p < t.length) (hb : ∀ x ∈ t, x < 256) (h : t.getD p 0 < 128) : Utf8.decode (strB t) p = (t.getD p 0, 1) := by
  have hp' : p < (strB t).size := by rw [strB_size]; exact hp
  rw [decode_ascii (strB t) p hp' (by rw [strB_at hp' hb]; exact h), strB_at hp' hb]
theorem it_high {t : List Nat} {p : Nat} (hp : p < t.length) (hb : ∀ x ∈ t, x < 256) (h : 128 ≤ t.getD p 0) : 128 ≤ (Utf8.decode (strB t) p).1 ∧ (Utf8.decode (strB t) p).1 ≤ 2147483647 := by
  have hp' : p < (strB t).size := by rw [strB_size]; exact hp
  exact ⟨(decode_high (strB t) p hp' (by rw [strB_at hp' hb]; exact h)).1, decode_le _ _⟩
theorem drop_cons {t : List Nat} {p : Nat} (hp : p < t.length) : t.drop p = t.getD p 0 :: t.drop (p + 1) := by
  rw [List.drop_eq_getElem_cons hp, List.getD_eq_getElem?_getD, List.getElem?_eq_getElem hp]; rfl
theorem below_putObj {w W : World} {B N : Nat} {o : Obj} (h : Below N w W) (hB : N ≤ B) : Below N w (W.putObj B o) :=
  ⟨h.os, h.tape, h.output, by simpa using h.size, fun i hi => (World.putObj_heap_other (by omega)).trans (h.block i hi)⟩
theorem own_putObj {W : World} {base size n B : Nat} {e : TypeId} {v : Value} {xs : List Value} {o : Obj} (h : W.ownsRow base e size v n xs) (hB : B < base) : (W.putObj B o).ownsRow base e size v n xs := by
  refine own_frame (S := fun k => k = B) h ⟨rfl, rfl, rfl, by simp, fun k _ hk => World.putObj_heap_other (fun e => hk e)⟩ (fun g hg e => ?_)
  have := (own_lt h hg).1
  omega
theorem it_grown {W w' : World} {B : Nat} {t : List Nat} {p : Nat} {row : Option Nat} (h : IT B t p W) (hg : W.grownBy w' row) (hr : row ≠ some B) : IT B t p w' :=
  (hg.block B (Array.getElem?_eq_some_iff.1 h).1 (fun e => hr e.symm)).trans h
theorem it_alloc {W : World} {B : Nat} {t : List Nat} {p : Nat} (h : IT B t p W) (o : Obj) : IT B t p (W.alloc o) :=
  (Below.heap_alloc _ _ _ (Array.getElem?_eq_some_iff.1 h).1).trans h
theorem it_next {W : World} {B : Nat} {t : List Nat} {p q : Nat} (h : IT B t p W) : IT B t q (W.putObj B (.stringIter (strB t) q)) :=
  World.putObj_heap_same (Array.getElem?_eq_some_iff.1 h).1
theorem one_byte (w : World) (x : Nat) (hx : x < 256) : Bytes (w.alloc (.cells #[.int .u8 (x : Int)] 5)) (some ⟨w.heap.size, 0, none⟩) 1 1 [x] :=
  bytes_lit w [x] (by simpa using hx) (by simp)
/-- What hexValues answers. -/
def HexIs (r : Option (List Nat)) (w : World) (e : Ending) (w' : World) : Prop :=
  Below w.heap.size w w' ∧ match r with
    | none => e = .returned (.tuple #[.slice none 0 0, .int .i64 4])
    | some l => ∃ v, e = .returned (.tuple #[v, .int .i64 0]) ∧ w'.ownsRow (w.heap.size + 1) 5 1 v l.length (bvs l)
theorem hexV_bad {t acc : List Nat} {p : Nat} (h : hexV t = (hexV (t.drop p)).map (acc ++ ·)) (hp : p < t.length) (h1 : isW (t.getD p 0) = false) (h2 : digM (t.getD p 0) = none) : hexV t = none := by
  rw [h, drop_cons hp, hexV, if_neg (by rw [h1]; simp), h2]; rfl
theorem hexV_skip {t acc : List Nat} {p : Nat} (h : hexV t = (hexV (t.drop p)).map (acc ++ ·)) (hp : p < t.length) (h1 : isW (t.getD p 0) = true) : hexV t = (hexV (t.drop (p + 1))).map (acc ++ ·) := by
  rw [h, drop_cons hp, hexV, if_pos h1]
theorem hexV_take {t acc : List Nat} {p d : Nat} (h : hexV t = (hexV (t.drop p)).map (acc ++ ·)) (hp : p < t.length) (h1 : isW (t.getD p 0) = false) (h2 : digM (t.getD p 0) = some d) : hexV t = (hexV (t.drop (p + 1))).map ((acc ++ [d]) ++ ·) := by
  rw [h, drop_cons hp, hexV, if_neg (by rw [h1]; simp), h2]
  cases hexV (t.drop (p + 1)) with
  | none => rfl
  | some l => simp
set_option maxRecDepth 100000 in
set_option maxHeartbeats 4000000 in
theorem values_any (t : List Nat) (w : World) (hb : ∀ x ∈ t, x < 256) (hl : t.length ≤ 100000) :
    Calls Try.prog 24 #[.string (strB t)] w (HexIs (hexV t) w) := by
  obtain ⟨R, hR⟩ : ∃ R, hexV t = R := ⟨_, rfl⟩
  rw [hR]
  have HR := Lib.hid hR
  have HB := Lib.hid hb
  clear hR hb
  obtain ⟨N, hN⟩ : ∃ N, w.heap.size + 1 = N := ⟨_, rfl⟩
  go_enter Try.func24, Try.ntmps24
  go_wp2
  go_loopg [4] t.length (fun g v wr => ∃ (p : Nat) (acc : List Nat), g + p = t.length ∧ IT w.heap.size t p wr ∧ wr.ownsRow N 5 1 v acc.length (bvs acc) ∧ Below w.heap.size w wr ∧ N ≤ wr.heap.size ∧ acc.length ≤ p ∧ hexV t = (hexV (t.drop p)).map (acc ++ ·))
  case atStart =>
    refine ⟨0, [], by omega, World.iter_heap w (strB t) 0, ⟨rfl, .inl ⟨rfl, rfl⟩⟩, (Below.refl _ _).alloc (Nat.le_refl _) _, by rw [← hN]; simp [World.iter], Nat.le_refl _, ?_⟩
    rw [List.drop_zero]
    cases hexV t <;> rfl
  case round =>
    obtain ⟨p, acc, hgp, hit, hown, hbel, hsz, hap, hrec⟩ := hrel
    obtain ⟨a0, ca, rfl⟩ := own_slice hown
    have HX := Lib.hid (And.intro hit (And.intro hown (And.intro hbel hrec)))
    by_cases hp : p < t.length
    · obtain ⟨c, hc⟩ : ∃ c, t.getD p 0 = c := ⟨_, rfl⟩
      have hpz : p < (strB t).size := by rw [strB_size]; exact hp
      have hIW := Lib.hid (it_next (q := p + 1) hit)
      by_cases hc8 : c < 128
      · have hnx : ∀ ty, (Instr.next (.pointer (some ⟨w.heap.size, 0, none⟩)) true ty).run Try.prog wr = .ok (.tuple #[.bool true, .int .i64 (p : Int), .int .i32 (c : Int)]) (wr.putObj w.heap.size (.stringIter (strB t) (p + 1))) := fun ty => by
          have := run_next_at ty hit hpz
          rw [it_low hp HB.out (by omega), hc] at this
          exact this
        have hown1 := own_putObj (o := .stringIter (strB t) (p + 1)) hown (show w.heap.size < N by omega)
        have hbel1 := below_putObj (o := .stringIter (strB t) (p + 1)) hbel (Nat.le_refl _)
        have hsz1 : N ≤ (wr.putObj w.heap.size (.stringIter (strB t) (p + 1))).heap.size := by simpa using hsz
        have H1 := Lib.hid (And.intro hown1 hbel1)
        have HC := Lib.hid hc
        generalize wr.putObj w.heap.size (.stringIter (strB t) (p + 1)) = W1 at *
        clear hit hown hbel hrec hown1 hbel1 hc
        obtain ⟨bw, hbw⟩ : ∃ b, isW c = b := ⟨_, rfl⟩
        cases bw
        · -- no white
          rcases (by omega : (48 ≤ c ∧ c ≤ 57) ∨ (65 ≤ c ∧ c ≤ 70) ∨ (97 ≤ c ∧ c ≤ 102) ∨ ¬ (48 ≤ c ∧ c ≤ 57) ∧ ¬ (65 ≤ c ∧ c ≤ 70) ∧ ¬ (97 ≤ c ∧ c ≤ 102)) with hr | hr | hr | hr
          · have HBW := Lib.hid hbw
            have HD := Lib.hid (show digM c = some (c - 48) by unfold digM; rw [if_pos (by omega)])
            have HV := Lib.hid (hexV_take HX.out.2.2.2 hp (by rw [HC.out]; exact hbw) (by rw [HC.out]; exact HD.out))
            obtain ⟨d, hd⟩ : ∃ d, c - 48 = d := ⟨_, rfl⟩
            rw [hd] at HV
            have hd16 : d < 16 := by omega
            have q1 : IntKind.i32.wrap ((c : Int) - 48) = (d : Int) := by rw [show (c : Int) - 48 = (d : Int) by omega]; exact IntWalk.i32_in _ (by omega)
            have q2 : IntKind.u8.wrap (d : Int) = (d : Int) := by show _ % 256 = _; omega
            have d0a : decide ((48 : Int) ≤ (c : Int)) = true := by simp; omega
            have d0b : decide ((c : Int) ≤ 57) = true := by simp; omega
            clear hbw hd hr hc8 HD
            go_wp2_with fail
            refine (space_any c _).mono ?_
            rintro e w' ⟨rfl, rfl⟩
            rw [HBW.out]
            go_wp2_with (refine wpList_app (o := ⟨some 26, _, _, _, _, _⟩) rfl (.tmp 21) (.tmp 25) rfl N acc.length 1 1 (.slice a0 acc.length ca) acc [d] (some ⟨W1.heap.size, 0, none⟩) ?p10 ?p20 ?p30 ?p40 ?p50 ?p60 ?p70)
            case p10 => rfl
            case p20 => rfl
            case p30 => exact H1.out.1.alloc _
            case p40 => exact one_byte W1 d (by omega)
            case p50 => omega
            case p60 => simp; omega
            intro v4 w4 hown4 hgrow4
            have hb4 : Below w.heap.size w w4 := (H1.out.2.alloc H1.out.2.size _).grown hgrow4 (by simp; omega) (fun j e => by have := (own_lt H1.out.1 e).1; omega)
            have hi4 : IT w.heap.size t (p + 1) w4 := it_grown (it_alloc hIW.out _) hgrow4 (fun e => by have := (own_lt H1.out.1 e).1; omega)
            have H4 := Lib.hid (And.intro hi4 (And.intro hown4 hb4))
            have hs4 := hgrow4.size
            clear hown4 hgrow4 hb4 hi4
            go_wp2_with fail
            go_roundg (t.length - (p + 1))
            case measure => omega
            case rel => exact ⟨p + 1, acc ++ [d], by omega, H4.out.1, by simpa [bvs_append] using H4.out.2.1, H4.out.2.2, by simp at hs4; omega, by simp; omega, HV.out⟩
          · have HBW := Lib.hid hbw
            have HD := Lib.hid (show digM c = some (c - 65 + 10) by unfold digM; rw [if_neg (by omega)]; rw [if_pos (by omega)])
            have HV := Lib.hid (hexV_take HX.out.2.2.2 hp (by rw [HC.out]; exact hbw) (by rw [HC.out]; exact HD.out))
            obtain ⟨d, hd⟩ : ∃ d, c - 65 + 10 = d := ⟨_, rfl⟩
            rw [hd] at HV
            have hd16 : d < 16 := by omega
            have q0 : IntKind.i32.wrap ((c : Int) - 65) = (c : Int) - 65 := IntWalk.i32_in _ (by omega)
            have q1 : IntKind.i32.wrap ((c : Int) - 65 + 10) = (d : Int) := by rw [show (c : Int) - 65 + 10 = (d : Int) by omega]; exact IntWalk.i32_in _ (by omega)
            have q2 : IntKind.u8.wrap (d : Int) = (d : Int) := by show _ % 256 = _; omega
            have d0a : decide ((48 : Int) ≤ (c : Int)) = true := by simp; omega
            have d0b : decide ((c : Int) ≤ 57) = false := by simp; omega
            have d1a : decide ((65 : Int) ≤ (c : Int)) = true := by simp; omega
            have d1b : decide ((c : Int) ≤ 70) = true := by simp; omega
            clear hbw hd hr hc8 HD
            go_wp2_with fail
            refine (space_any c _).mono ?_
            rintro e w' ⟨rfl, rfl⟩
            rw [HBW.out]
            go_wp2_with (refine wpList_app (o := ⟨some 40, _, _, _, _, _⟩) rfl (.tmp 34) (.tmp 39) rfl N acc.length 1 1 (.slice a0 acc.length ca) acc [d] (some ⟨W1.heap.size, 0, none⟩) ?p11 ?p21 ?p31 ?p41 ?p51 ?p61 ?p71)
            case p11 => rfl
            case p21 => rfl
            case p31 => exact H1.out.1.alloc _
            case p41 => exact one_byte W1 d (by omega)
            case p51 => omega
            case p61 => simp; omega
            intro v4 w4 hown4 hgrow4
            have hb4 : Below w.heap.size w w4 := (H1.out.2.alloc H1.out.2.size _).grown hgrow4 (by simp; omega) (fun j e => by have := (own_lt H1.out.1 e).1; omega)
            have hi4 : IT w.heap.size t (p + 1) w4 := it_grown (it_alloc hIW.out _) hgrow4 (fun e => by have := (own_lt H1.out.1 e).1; omega)
            have H4 := Lib.hid (And.intro hi4 (And.intro hown4 hb4))
            have hs4 := hgrow4.size
            clear hown4 hgrow4 hb4 hi4
            go_wp2_with fail
            go_roundg (t.length - (p + 1))
            case measure => omega
            case rel => exact ⟨p + 1, acc ++ [d], by omega, H4.out.1, by simpa [bvs_append] using H4.out.2.1, H4.out.2.2, by simp at hs4; omega, by simp; omega, HV.out⟩
          · have HBW := Lib.hid hbw
            have HD := Lib.hid (show digM c = some (c - 97 + 10) by unfold digM; rw [if_neg (by omega)]; rw [if_neg (by omega)]; rw [if_pos (by omega)])
            have HV := Lib.hid (hexV_take HX.out.2.2.2 hp (by rw [HC.out]; exact hbw) (by rw [HC.out]; exact HD.out))
            obtain ⟨d, hd⟩ : ∃ d, c - 97 + 10 = d := ⟨_, rfl⟩
            rw [hd] at HV
            have hd16 : d < 16 := by omega
            have q0 : IntKind.i32.wrap ((c : Int) - 97) = (c : Int) - 97 := IntWalk.i32_in _ (by omega)
            have q1 : IntKind.i32.wrap ((c : Int) - 97 + 10) = (d : Int) := by rw [show (c : Int) - 97 + 10 = (d : Int) by omega]; exact IntWalk.i32_in _ (by omega)
            have q2 : IntKind.u8.wrap (d : Int) = (d : Int) := by show _ % 256 = _; omega
            have d0a : decide ((48 : Int) ≤ (c : Int)) = true := by simp; omega
            have d0b : decide ((c : Int) ≤ 57) = false := by simp; omega
            have d1a : decide ((65 : Int) ≤ (c : Int)) = true := by simp; omega
            have d1b : decide ((c : Int) ≤ 70) = false := by simp; omega
            have d2a : decide ((97 : Int) ≤ (c : Int)) = true := by simp; omega
            have d2b : decide ((c : Int) ≤ 102) = true := by simp; omega
            clear hbw hd hr hc8 HD
            go_wp2_with fail
            refine (space_any c _).mono ?_
            rintro e w' ⟨rfl, rfl⟩
            rw [HBW.out]
            go_wp2_with (refine wpList_app (o := ⟨some 54, _, _, _, _, _⟩) rfl (.tmp 48) (.tmp 53) rfl N acc.length 1 1 (.slice a0 acc.length ca) acc [d] (some ⟨W1.heap.size, 0, none⟩) ?p12 ?p22 ?p32 ?p42 ?p52 ?p62 ?p72)
            case p12 => rfl
            case p22 => rfl
            case p32 => exact H1.out.1.alloc _
            case p42 => exact one_byte W1 d (by omega)
            case p52 => omega
            case p62 => simp; omega
            intro v4 w4 hown4 hgrow4
            have hb4 : Below w.heap.size w w4 := (H1.out.2.alloc H1.out.2.size _).grown hgrow4 (by simp; omega) (fun j e => by have := (own_lt H1.out.1 e).1; omega)
            have hi4 : IT w.heap.size t (p + 1) w4 := it_grown (it_alloc hIW.out _) hgrow4 (fun e => by have := (own_lt H1.out.1 e).1; omega)
            have H4 := Lib.hid (And.intro hi4 (And.intro hown4 hb4))
            have hs4 := hgrow4.size
            clear hown4 hgrow4 hb4 hi4
            go_wp2_with fail
            go_roundg (t.length - (p + 1))
            case measure => omega
            case rel => exact ⟨p + 1, acc ++ [d], by omega, H4.out.1, by simpa [bvs_append] using H4.out.2.1, H4.out.2.2, by simp at hs4; omega, by simp; omega, HV.out⟩
          · have HBW := Lib.hid hbw
            have HN := Lib.hid (show hexV t = none from hexV_bad HX.out.2.2.2 hp (by rw [HC.out]; exact hbw) (by rw [HC.out]; unfold digM; rw [if_neg hr.1, if_neg hr.2.1, if_neg hr.2.2]))
            have hRn : R = none := by rw [← HR.out, HN.out]
            subst hRn
            clear hbw HR HN
            rcases (by omega : c < 48 ∨ (57 < c ∧ c < 65) ∨ (70 < c ∧ c < 97) ∨ 102 < c) with h | h | h | h
            · have d0a : decide ((48 : Int) ≤ (c : Int)) = false := by simp; omega
              have d1a : decide ((65 : Int) ≤ (c : Int)) = false := by simp; omega
              have d2a : decide ((97 : Int) ≤ (c : Int)) = false := by simp; omega
              clear hr h hc8
              go_wp2_with fail
              refine (space_any c _).mono ?_
              rintro e w' ⟨rfl, rfl⟩
              rw [HBW.out]
              go_wp2_with fail
              go_ret2
              exact ⟨H1.out.2, rfl⟩
            · have d0a : decide ((48 : Int) ≤ (c : Int)) = true := by simp; omega
              have d0b : decide ((c : Int) ≤ 57) = false := by simp; omega
              have d1a : decide ((65 : Int) ≤ (c : Int)) = false := by simp; omega
              have d2a : decide ((97 : Int) ≤ (c : Int)) = false := by simp; omega
              clear hr h hc8
              go_wp2_with fail
              refine (space_any c _).mono ?_
              rintro e w' ⟨rfl, rfl⟩
              rw [HBW.out]
              go_wp2_with fail
              go_ret2
              exact ⟨H1.out.2, rfl⟩
            · have d0a : decide ((48 : Int) ≤ (c : Int)) = true := by simp; omega
              have d0b : decide ((c : Int) ≤ 57) = false := by simp; omega
              have d1a : decide ((65 : Int) ≤ (c : Int)) = true := by simp; omega
              have d1b : decide ((c : Int) ≤ 70) = false := by simp; omega
              have d2a : decide ((97 : Int) ≤ (c : Int)) = false := by simp; omega
              clear hr h hc8
              go_wp2_with fail
              refine (space_any c _).mono ?_
              rintro e w' ⟨rfl, rfl⟩
              rw [HBW.out]
              go_wp2_with fail
              go_ret2
              exact ⟨H1.out.2, rfl⟩
            · have d0a : decide ((48 : Int) ≤ (c : Int)) = true := by simp; omega
              have d0b : decide ((c : Int) ≤ 57) = false := by simp; omega
              have d1a : decide ((65 : Int) ≤ (c : Int)) = true := by simp; omega
              have d1b : decide ((c : Int) ≤ 70) = false := by simp; omega
              have d2a : decide ((97 : Int) ≤ (c : Int)) = true := by simp; omega
              have d2b : decide ((c : Int) ≤ 102) = false := by simp; omega
              clear hr h hc8
              go_wp2_with fail
              refine (space_any c _).mono ?_
              rintro e w' ⟨rfl, rfl⟩
              rw [HBW.out]
              go_wp2_with fail
              go_ret2
              exact ⟨H1.out.2, rfl⟩
        · have HBW := Lib.hid hbw
          have HV := Lib.hid (hexV_skip HX.out.2.2.2 hp (by rw [HC.out]; exact hbw))
          clear hbw
          go_wp2_with fail
          refine (space_any c _).mono ?_
          rintro e w' ⟨rfl, rfl⟩
          rw [HBW.out]
          go_wp2_with fail
          go_roundg (t.length - (p + 1))
          case measure => omega
          case rel => exact ⟨p + 1, acc, by omega, hIW.out, H1.out.1, H1.out.2, hsz1, by omega, HV.out⟩
      · -- a rune of several bytes
        obtain ⟨r, hr⟩ : ∃ r, (Utf8.decode (strB t) p).1 = r := ⟨_, rfl⟩
        obtain ⟨q, hq⟩ : ∃ q, p + (Utf8.decode (strB t) p).2 = q := ⟨_, rfl⟩
        have hhi := it_high hp HB.out (by omega)
        rw [hr] at hhi
        have hnx : ∀ ty, (Instr.next (.pointer (some ⟨w.heap.size, 0, none⟩)) true ty).run Try.prog wr = .ok (.tuple #[.bool true, .int .i64 (p : Int), .int .i32 (r : Int)]) (wr.putObj w.heap.size (.stringIter (strB t) q)) := fun ty => by
          have := run_next_at ty hit hpz
          rw [hr, hq] at this
          exact this
        have hbel1 := below_putObj (o := .stringIter (strB t) q) hbel (Nat.le_refl _)
        have HN := Lib.hid (show hexV t = none from hexV_bad HX.out.2.2.2 hp (by rw [hc]; unfold isW; simp; omega) (by rw [hc]; unfold digM; rw [if_neg (by omega), if_neg (by omega), if_neg (by omega)]))
        have hRn : R = none := by rw [← HR.out, HN.out]
        subst hRn
        have HBW := Lib.hid (show isW r = false by unfold isW; simp; omega)
        have d0a : decide ((48 : Int) ≤ (r : Int)) = true := by simp; omega
        have d0b : decide ((r : Int) ≤ 57) = false := by simp; omega
        have d1a : decide ((65 : Int) ≤ (r : Int)) = true := by simp; omega
        have d1b : decide ((r : Int) ≤ 70) = false := by simp; omega
        have d2a : decide ((97 : Int) ≤ (r : Int)) = true := by simp; omega
        have d2b : decide ((r : Int) ≤ 102) = false := by simp; omega
        have H1 := Lib.hid hbel1
        generalize wr.putObj w.heap.size (.stringIter (strB t) q) = W1 at *
        clear hit hown hbel hrec hbel1 hc HR HN hr hq
        go_wp2_with fail
        refine (space_any r _).mono ?_
        rintro e w' ⟨rfl, rfl⟩
        rw [HBW.out]
        go_wp2_with fail
        go_ret2
        exact ⟨H1.out, rfl⟩
    · obtain rfl : p = t.length := by omega
      have hnx : ∀ ty, (Instr.next (.pointer (some ⟨w.heap.size, 0, none⟩)) true ty).run Try.prog wr = _ := fun ty => run_next_stop ty hit (by rw [strB_size]; exact hp)
      have HRR := Lib.hid (show R = some acc by rw [← HR.out, HX.out.2.2.2, List.drop_of_length_le (Nat.le_refl _)]; simp [hexV])
      clear hit hown hbel hrec
      go_wp2_with fail
      go_ret2
      rw [HRR.out]
      exact ⟨HX.out.2.2.1, _, rfl, by rw [hN]; exact HX.out.2.1⟩
end Go.Proofs.Ytbbckpdpahkfkaa
