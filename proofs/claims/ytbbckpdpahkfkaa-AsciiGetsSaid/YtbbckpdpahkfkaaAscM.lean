/- Get: walked. -/
import Derived.Test.YtbbckpdpahkfkaaAscL
namespace Go.Proofs.Ytbbckpdpahkfkaa
open Go.RowKit

theorem num5_snoc (l : List Nat) (d : Nat) : num5 (l ++ [d]) 0 = 85 * num5 l 0 + d := by rw [num5_app]; rfl
theorem it_fr {W W' : World} {D B : Nat} {t : List Nat} {p : Nat} (h : IT (D + 1) t p W) (hk : KD D B W W') (hB : D + 2 ≤ B) : IT (D + 1) t p W' :=
  (hk.block (D + 1) (Array.getElem?_eq_some_iff.1 h).1 (fun e => by omega)).trans h
theorem DW.put {D B most N H : Nat} {v : Value} {bs : List Nat} {W : World} {o : Obj} (h : DW D B most v bs N H W) (hB : D + 2 ≤ B) : DW D B most v bs N H (W.putObj (D + 1) o) :=
  ⟨(World.putObj_heap_other (by omega)).trans h.box, own_putObj h.own (by omega), h.byte, h.lt, by simpa using h.size⟩
theorem below_kd {D B : Nat} {w W W' : World} (h : Below D w W) (hk : KD D B W W') (hDB : D < B) (hD : D ≤ W.heap.size) : Below D w W' :=
  h.trans (Fr.below hk hD (fun j hj e => by omega))
theorem getM_skip {body l out : List Nat} {p : Nat} (h : getM body [] [] = getM (body.drop p) l out) (hp : p < body.length) (h1 : isW (body.getD p 0) = true) : getM body [] [] = getM (body.drop (p + 1)) l out := by
  rw [h, drop_cons hp, getM, if_pos h1]
theorem getM_z {body out : List Nat} {p : Nat} (h : getM body [] [] = getM (body.drop p) [] out) (hp : p < body.length) (h1 : body.getD p 0 = 122) : getM body [] [] = getM (body.drop (p + 1)) [] (out ++ [0, 0, 0, 0]) := by
  rw [h, drop_cons hp, getM, h1, if_neg (by decide), if_pos ⟨rfl, rfl⟩]
theorem getM_bad {body l out : List Nat} {p : Nat} (h : getM body [] [] = getM (body.drop p) l out) (hp : p < body.length) (h1 : isW (body.getD p 0) = false) (h2 : ¬ (body.getD p 0 = 122 ∧ l = [])) (h3 : body.getD p 0 < 33 ∨ 117 < body.getD p 0) : getM body [] [] = none := by
  rw [h, drop_cons hp, getM, if_neg (by rw [h1]; simp), if_neg h2, if_pos h3]
theorem getM_hold {body l out : List Nat} {p : Nat} (h : getM body [] [] = getM (body.drop p) l out) (hp : p < body.length) (h3 : 33 ≤ body.getD p 0 ∧ body.getD p 0 ≤ 117) (h4 : l.length < 4) : getM body [] [] = getM (body.drop (p + 1)) (l ++ [body.getD p 0 - 33]) out := by
  rw [h, drop_cons hp, getM, if_neg (by rw [isW_ok h3.1]; simp), if_neg (by omega), if_neg (by omega), if_neg (by omega)]
theorem getM_full {body l out : List Nat} {p : Nat} (h : getM body [] [] = getM (body.drop p) l out) (hp : p < body.length) (h3 : 33 ≤ body.getD p 0 ∧ body.getD p 0 ≤ 117) (h4 : l.length = 4) : getM body [] [] = if 4294967295 < num5 (l ++ [body.getD p 0 - 33]) 0 then none else getM (body.drop (p + 1)) [] (out ++ fourB (num5 (l ++ [body.getD p 0 - 33]) 0)) := by
  rw [h, drop_cons hp, getM, if_neg (by rw [isW_ok h3.1]; simp), if_neg (by omega), if_neg (by omega), if_pos h4]
/-- What Get answers behind the text is cut. -/
def gotR (body : List Nat) (most : Nat) : Int × List Nat :=
  match getM body [] [] with
  | none => (4, [])
  | some (l, out) => match endM l out with
    | none => (4, [])
    | some o => if (most : Int) < (o.length : Int) then (2, []) else (0, o)
theorem gotR_none {body : List Nat} {most : Nat} (h : getM body [] [] = none) : gotR body most = (4, []) := by unfold gotR; rw [h]
theorem get_arg (V : Value) (most : Int) (w : World) (h : most < 0 ∨ 1048576 < most) :
    Calls Try.prog 16 #[V, .int .i64 most] w (AnsIs (1, []) w) := by
  have ha := fun w => allowed_any most false w (decide_eq_false (by omega))
  go_enter Try.func16, Try.ntmps16
  go_wp2_with fail
  refine (ha _).mono ?_
  rintro e w' ⟨rfl, rfl⟩
  go_wp2_with fail
  go_ret2
  exact AnsIs.err (Below.refl _ _)
theorem get_none (t : List Nat) (most : Int) (w : World) (hb : ∀ x ∈ t, x < 256) (hl : t.length ≤ 100000) (hM : MX w) (h0 : 0 ≤ most) (h1 : most ≤ 1048576) (hc : cut2 t = none) :
    Calls Try.prog 16 #[.string (strB t), .int .i64 most] w (AnsIs (4, []) w) := by
  have ha := fun w => allowed_any most true w (decide_eq_true ⟨h0, h1⟩)
  have hcut := cuttwo_any t w hb hl hM
  rw [hc] at hcut
  have HC := Lib.hid hcut
  clear hcut hc
  go_enter Try.func16, Try.ntmps16
  go_wp2_with fail
  refine (ha _).mono ?_
  rintro e w' ⟨rfl, rfl⟩
  go_wp2_with fail
  refine HC.out.mono ?_
  rintro e w1 ⟨hb1, s1, u1, rfl⟩
  have HB1 := Lib.hid hb1
  clear hb1
  go_wp2_with fail
  go_ret2
  exact AnsIs.err HB1.out
set_option maxRecDepth 100000 in
set_option maxHeartbeats 8000000 in
theorem get_body (t body : List Nat) (most : Nat) (w : World) (hb : ∀ x ∈ t, x < 256) (hl : t.length ≤ 100000) (hM : MX w) (hm : most ≤ 1048576) (hc : cut2 t = some body) :
    Calls Try.prog 16 #[.string (strB t), .int .i64 (most : Int)] w (AnsIs (gotR body most) w) := by
  have ha := fun w => allowed_any (most : Int) true w (decide_eq_true ⟨by omega, by omega⟩)
  have hbl : body.length ≤ 100000 := by
    rw [cut2_take t body hc, List.length_take]; omega
  have hbb : ∀ x ∈ body, x < 256 := fun x hx => hb x (by rw [cut2_take t body hc] at hx; exact List.mem_of_mem_take hx)
  have hcut := cuttwo_any t w hb hl hM
  rw [hc] at hcut
  have HC := Lib.hid hcut
  have HB := Lib.hid hbb
  obtain ⟨R, hR⟩ : ∃ R, gotR body most = R := ⟨_, rfl⟩
  rw [hR]
  have HR := Lib.hid hR
  clear hcut hc hbb hb hR
  go_enter Try.func16, Try.ntmps16
  go_wp2_with fail
  refine (ha _).mono ?_
  rintro e w' ⟨rfl, rfl⟩
  go_wp2_with fail
  refine HC.out.mono ?_
  rintro e w1 ⟨hb1, u1, rfl⟩
  have HB1 := Lib.hid hb1
  clear hb1
  go_wp2_with fail
  go_loopg [29] body.length (fun g _ wr => ∃ (p : Nat) (l out bs : List Nat) (v : Value), g + p = body.length ∧ IT (w1.heap.size + 1) body p wr ∧ DW w1.heap.size (w1.heap.size + 2) most v bs (num5 l 0) l.length wr ∧ Below w1.heap.size w1 wr ∧ l.length ≤ 4 ∧ (∀ d ∈ l, d < 85) ∧ BR most bs out ∧ bs.length ≤ 4 * p ∧ getM body [] [] = getM (body.drop p) l out)
  case atStart =>
    have hd : Whole (w1.alloc (.cells #[.int .i64 (most : Int), .slice none 0 0, .int .i64 0, .int .i64 0] 48)) w1.heap.size 48 #[.int .i64 (most : Int), .slice none 0 0, .int .i64 0, .int .i64 0] := Whole.made _ _ _
    refine ⟨0, [], [], [], .slice none 0 0, by omega, ?_, ⟨hd.old _, World.ownsRow_nil _ _ _ _, by simp, by omega, by simp [World.iter]⟩, (((Below.refl _ _).alloc (Nat.le_refl _) _).alloc (by simp) _), by simp, by simp, .inl rfl, by simp, rfl⟩
    have := World.iter_heap (w1.alloc (.cells #[.int .i64 (most : Int), .slice none 0 0, .int .i64 0, .int .i64 0] 48)) (strB body) 0
    rwa [World.size_alloc] at this
  case round =>
    obtain ⟨p, l, out, bs, v, hgp, hit, hd, hbel, hl4, hdig, hbr, hbsl, hrec⟩ := hrel
    have HX := Lib.hid (And.intro hit (And.intro hd (And.intro hbel (And.intro hdig (And.intro hbr hrec)))))
    have hsz := hd.size
    by_cases hp : p < body.length
    · obtain ⟨c, hc⟩ : ∃ c, body.getD p 0 = c := ⟨_, rfl⟩
      have hpz : p < (strB body).size := by rw [strB_size]; exact hp
      have hN85 : num5 l 0 < 85 ^ l.length := by have := num5_lt l hdig 0; simpa using this
      by_cases hc8 : c < 128
      · have hnx : ∀ ty, (Instr.next (.pointer (some ⟨w1.heap.size + 1, 0, none⟩)) true ty).run Try.prog wr = .ok (.tuple #[.bool true, .int .i64 (p : Int), .int .i32 (c : Int)]) (wr.putObj (w1.heap.size + 1) (.stringIter (strB body) (p + 1))) := fun ty => by
          have := run_next_at ty hit hpz
          rw [it_low hp HB.out (by omega), hc] at this
          exact this
        have hit1 := it_next (q := p + 1) hit
        have hd1 := hd.put (o := .stringIter (strB body) (p + 1)) (Nat.le_refl _)
        have hbel1 := below_putObj (o := .stringIter (strB body) (p + 1)) hbel (show w1.heap.size ≤ w1.heap.size + 1 by omega)
        have H1 := Lib.hid (And.intro hit1 (And.intro hd1 hbel1))
        have HC2 := Lib.hid hc
        generalize wr.putObj (w1.heap.size + 1) (.stringIter (strB body) (p + 1)) = W1 at *
        have lD := hd1.box.lt
        clear hit hd hbel hdig hbr hrec hit1 hd1 hbel1 hc
        obtain ⟨bw, hbw⟩ : ∃ b, isW c = b := ⟨_, rfl⟩
        have HBW := Lib.hid hbw
        clear hbw
        cases bw
        · rcases (by omega : (c = 122 ∧ l.length = 0) ∨ ((c < 33 ∨ 117 < c) ∧ ¬ (c = 122 ∧ l.length = 0)) ∨ ((33 ≤ c ∧ c ≤ 117) ∧ l.length < 4) ∨ ((33 ≤ c ∧ c ≤ 117) ∧ l.length = 4)) with ⟨hz, hl0⟩ | ⟨hbad, hnz⟩ | ⟨hok, hlt4⟩ | ⟨hok, hl4'⟩
          · obtain rfl : l = [] := List.eq_nil_of_length_eq_zero hl0
            subst hz
            have HV := Lib.hid (getM_z HX.out.2.2.2.2.2 hp HC2.out)
            have htk := take_z _ _ most v bs W1 H1.out.2.1 (by omega)
            have HT := Lib.hid htk
            clear htk hN85
            go_wp2_with fail
            refine (space_any 122 _).mono ?_
            rintro e w' ⟨rfl, rfl⟩
            rw [HBW.out]
            go_wp2_with fail
            refine HT.out.mono ?_
            rintro e w2 ⟨hk2, rfl, v2, hd2⟩
            have H2 := Lib.hid (And.intro hd2 (And.intro (below_kd H1.out.2.2 hk2 (by omega) (by omega)) (it_fr H1.out.1 hk2 (Nat.le_refl _))))
            clear hk2 hd2
            go_wp2_with fail
            go_roundg (body.length - (p + 1))
            case measure => omega
            case rel => exact ⟨p + 1, [], _, _, v2, by omega, H2.out.2.2, H2.out.1, H2.out.2.1, by simp, by simp, HX.out.2.2.2.2.1.add (r := [0, 0, 0, 0]) (by simp), by have := addB_len most bs [0, 0, 0, 0]; simp at this; omega, HV.out⟩
          · have HN := Lib.hid (gotR_none (most := most) (getM_bad HX.out.2.2.2.2.2 hp (by rw [HC2.out]; exact HBW.out) (by rw [HC2.out]; intro h; exact hnz ⟨h.1, by rw [h.2]; rfl⟩) (by rw [HC2.out]; exact hbad)))
            have hRn : R = (4, []) := by rw [← HR.out, HN.out]
            subst hRn
            have htk := take_bad _ _ most v bs (num5 l 0) l.length c W1 H1.out.2.1 hbad hnz
            have HT := Lib.hid htk
            clear htk hN85 hbad hnz HN HR
            go_wp2_with fail
            refine (space_any c _).mono ?_
            rintro e w' ⟨rfl, rfl⟩
            rw [HBW.out]
            go_wp2_with fail
            refine HT.out.mono ?_
            rintro e w2 ⟨hk2, rfl⟩
            have H2 := Lib.hid (below_kd H1.out.2.2 hk2 (by omega) (by omega))
            clear hk2
            go_wp2_with fail
            go_ret2
            exact AnsIs.err (HB1.out.trans (H2.out.mono HB1.out.size))
          · have HV := Lib.hid (getM_hold HX.out.2.2.2.2.2 hp (by rw [HC2.out]; exact hok) hlt4)
            rw [HC2.out] at HV
            have hn6 : num5 l 0 < 60000000 := Nat.lt_of_lt_of_le hN85 (Nat.le_trans (Nat.pow_le_pow_right (by omega) hl4) (by decide))
            have htk := take_hold _ _ most v bs (num5 l 0) l.length c (num5 (l ++ [c - 33]) 0) W1 H1.out.2.1 hn6 hlt4 hok (num5_snoc l (c - 33)).symm
            rw [show l.length + 1 = (l ++ [c - 33]).length by simp] at htk
            have HT := Lib.hid htk
            have HDG := Lib.hid (show ∀ d ∈ l ++ [c - 33], d < 85 from fun d hd => by
              rcases List.mem_append.1 hd with h | h
              · exact HX.out.2.2.2.1 d h
              · simp at h; omega)
            clear htk hN85 hn6
            go_wp2_with fail
            refine (space_any c _).mono ?_
            rintro e w' ⟨rfl, rfl⟩
            rw [HBW.out]
            go_wp2_with fail
            refine HT.out.mono ?_
            rintro e w2 ⟨hk2, rfl, v2, hd2⟩
            have H2 := Lib.hid (And.intro hd2 (And.intro (below_kd H1.out.2.2 hk2 (by omega) (by omega)) (it_fr H1.out.1 hk2 (Nat.le_refl _))))
            clear hk2 hd2
            go_wp2_with fail
            go_roundg (body.length - (p + 1))
            case measure => omega
            case rel => exact ⟨p + 1, l ++ [c - 33], out, bs, v2, by omega, H2.out.2.2, H2.out.1, H2.out.2.1, by simp; omega, HDG.out, HX.out.2.2.2.2.1, by omega, HV.out⟩
          · have HV := Lib.hid (getM_full HX.out.2.2.2.2.2 hp (by rw [HC2.out]; exact hok) hl4')
            rw [HC2.out] at HV
            have hn6 : num5 l 0 < 52200625 := by rw [hl4'] at hN85; exact hN85
            have hd4 := H1.out.2.1
            rw [hl4'] at hd4
            have htk := take_full _ _ most v bs (num5 l 0) c (num5 (l ++ [c - 33]) 0) W1 hd4 hn6 hok (num5_snoc l (c - 33)).symm (by omega)
            obtain ⟨M, hM⟩ : ∃ M, num5 (l ++ [c - 33]) 0 = M := ⟨_, rfl⟩
            rw [hM] at htk HV
            have HT := Lib.hid htk
            clear htk hN85 hn6 hM hd4
            by_cases hbig : 4294967295 < M
            · have HN := Lib.hid (gotR_none (most := most) (HV.out.trans (if_pos hbig)))
              have hRn : R = (4, []) := by rw [← HR.out, HN.out]
              subst hRn
              rw [if_pos hbig] at HT
              clear HN HR HV
              go_wp2_with fail
              refine (space_any c _).mono ?_
              rintro e w' ⟨rfl, rfl⟩
              rw [HBW.out]
              go_wp2_with fail
              refine HT.out.mono ?_
              rintro e w2 ⟨hk2, rfl⟩
              have H2 := Lib.hid (below_kd H1.out.2.2 hk2 (by omega) (by omega))
              clear hk2
              go_wp2_with fail
              go_ret2
              exact AnsIs.err (HB1.out.trans (H2.out.mono HB1.out.size))
            · rw [if_neg hbig] at HT HV
              go_wp2_with fail
              refine (space_any c _).mono ?_
              rintro e w' ⟨rfl, rfl⟩
              rw [HBW.out]
              go_wp2_with fail
              refine HT.out.mono ?_
              rintro e w2 ⟨hk2, rfl, v2, hd2⟩
              have H2 := Lib.hid (And.intro hd2 (And.intro (below_kd H1.out.2.2 hk2 (by omega) (by omega)) (it_fr H1.out.1 hk2 (Nat.le_refl _))))
              clear hk2 hd2
              go_wp2_with fail
              go_roundg (body.length - (p + 1))
              case measure => omega
              case rel => exact ⟨p + 1, [], _, _, v2, by omega, H2.out.2.2, H2.out.1, H2.out.2.1, by simp, by simp, HX.out.2.2.2.2.1.add (r := fourB M) (by simp [fourB]), by have h5 := addB_len most bs (fourB M); have h6 : (fourB M).length = 4 := rfl; omega, HV.out⟩
        · have HV := Lib.hid (getM_skip HX.out.2.2.2.2.2 hp (by rw [HC2.out]; exact HBW.out))
          clear hN85
          go_wp2_with fail
          refine (space_any c _).mono ?_
          rintro e w' ⟨rfl, rfl⟩
          rw [HBW.out]
          go_wp2_with fail
          go_roundg (body.length - (p + 1))
          case measure => omega
          case rel => exact ⟨p + 1, l, out, bs, v, by omega, H1.out.1, H1.out.2.1, H1.out.2.2, hl4, HX.out.2.2.2.1, HX.out.2.2.2.2.1, by omega, HV.out⟩
      · obtain ⟨r, hr⟩ : ∃ r, (Utf8.decode (strB body) p).1 = r := ⟨_, rfl⟩
        obtain ⟨q, hq⟩ : ∃ q, p + (Utf8.decode (strB body) p).2 = q := ⟨_, rfl⟩
        have hhi := it_high hp HB.out (by omega)
        rw [hr] at hhi
        have hnx : ∀ ty, (Instr.next (.pointer (some ⟨w1.heap.size + 1, 0, none⟩)) true ty).run Try.prog wr = .ok (.tuple #[.bool true, .int .i64 (p : Int), .int .i32 (r : Int)]) (wr.putObj (w1.heap.size + 1) (.stringIter (strB body) q)) := fun ty => by
          have := run_next_at ty hit hpz
          rw [hr, hq] at this
          exact this
        have hd1 := hd.put (o := .stringIter (strB body) q) (Nat.le_refl _)
        have hbel1 := below_putObj (o := .stringIter (strB body) q) hbel (show w1.heap.size ≤ w1.heap.size + 1 by omega)
        have HN := Lib.hid (gotR_none (most := most) (getM_bad hrec hp (by rw [hc]; unfold isW; simp; omega) (by rw [hc]; omega) (by rw [hc]; omega)))
        have hRn : R = (4, []) := by rw [← HR.out, HN.out]
        subst hRn
        have HBW := Lib.hid (show isW r = false by unfold isW; simp; omega)
        have htk := take_bad _ _ most v bs (num5 l 0) l.length r _ hd1 (.inr (by omega)) (by omega)
        have HT := Lib.hid htk
        have H1 := Lib.hid hbel1
        have lD := hd1.box.lt
        generalize wr.putObj (w1.heap.size + 1) (.stringIter (strB body) q) = W1 at *
        clear hit hd hbel hdig hbr hrec hd1 hbel1 hc HR HN hr hq htk hN85
        go_wp2_with fail
        refine (space_any r _).mono ?_
        rintro e w' ⟨rfl, rfl⟩
        rw [HBW.out]
        go_wp2_with fail
        refine HT.out.mono ?_
        rintro e w2 ⟨hk2, rfl⟩
        have H2 := Lib.hid (below_kd H1.out hk2 (by omega) (by omega))
        clear hk2
        go_wp2_with fail
        go_ret2
        exact AnsIs.err (HB1.out.trans (H2.out.mono HB1.out.size))
    · obtain rfl : p = body.length := by omega
      have hnx : ∀ ty, (Instr.next (.pointer (some ⟨w1.heap.size + 1, 0, none⟩)) true ty).run Try.prog wr = _ := fun ty => run_next_stop ty hit (by rw [strB_size]; exact hp)
      have hN85 : num5 l 0 < 85 ^ l.length := by have := num5_lt l hdig 0; simpa using this
      have hend : gotR body most = match endM l out with
          | none => (4, [])
          | some o => if (most : Int) < (o.length : Int) then (2, []) else (0, o) := by
        unfold gotR
        rw [hrec, List.drop_of_length_le (Nat.le_refl _)]
        rfl
      have hrs := rest_any _ _ most v bs (num5 l 0) l.length wr hd hl4 hN85 (by omega)
      have hrr : (restR most bs (num5 l 0) l.length = none ∧ endM l out = none) ∨ ∃ bs' N' H' o', restR most bs (num5 l 0) l.length = some (bs', N', H') ∧ endM l out = some o' ∧ BR most bs' o' ∧ bs'.length ≤ 2000000 := by
        unfold restR endM
        by_cases h0 : l = []
        · subst h0
          exact .inr ⟨bs, _, _, out, if_pos rfl, if_pos rfl, hbr, by omega⟩
        · have h0' : ¬ l.length = 0 := fun e => h0 (List.eq_nil_of_length_eq_zero e)
          rw [if_neg h0', if_neg h0]
          by_cases h1 : l.length = 1
          · exact .inl ⟨if_pos h1, if_pos h1⟩
          · rw [if_neg h1, if_neg h1, num5_app, num5_pad]
            by_cases hbig : 4294967295 < padN (5 - l.length) (num5 l 0)
            · exact .inl ⟨if_pos hbig, if_pos hbig⟩
            · rw [if_neg hbig, if_neg hbig]
              refine .inr ⟨_, _, _, _, rfl, rfl, hbr.add ?_, ?_⟩
              · rw [List.length_take]; simp [fourB]; omega
              · refine Nat.le_trans (addB_len _ _ _) ?_
                rw [List.length_take]; simp [fourB]; omega
      have HT := Lib.hid hrs
      have HRR := Lib.hid hrr
      have HE := Lib.hid hend
      have lD := hd.box.lt
      clear hit hd hbel hdig hbr hrec hrs hrr hend hN85
      rcases HRR.out with ⟨e1, e2⟩ | ⟨bs', N', H', o', e1, e2, hbr2, hbl2⟩
      · have hRn : R = (4, []) := by rw [← HR.out, HE.out, e2]
        subst hRn
        rw [e1] at HT
        clear HRR HE HR e1 e2
        go_wp2_with fail
        refine HT.out.mono ?_
        rintro e w2 ⟨hk2, rfl⟩
        have H2 := Lib.hid (below_kd HX.out.2.2.1 hk2 (by omega) (by omega))
        clear hk2
        go_wp2_with fail
        go_ret2
        exact AnsIs.err (HB1.out.trans (H2.out.mono HB1.out.size))
      · rw [e2] at HE
        rw [e1] at HT
        have HBR := Lib.hid hbr2
        clear HRR e1 e2 hbr2
        go_wp2_with fail
        refine HT.out.mono ?_
        rintro e w2 ⟨hk2, rfl, v2, hd2⟩
        obtain ⟨a2, c2, rfl⟩ := own_slice hd2.own
        have H2 := Lib.hid (And.intro hd2 (HB1.out.trans ((below_kd HX.out.2.2.1 hk2 (by omega) (by omega)).mono HB1.out.size)))
        have c1 : w2.cell? ⟨w1.heap.size, 1, none⟩ = some (.slice a2 bs'.length c2) := hd2.box.reads 1
        have l2 := hd2.box.lt
        clear hk2 hd2
        by_cases hg : most < bs'.length
        · have hgd : decide ((most : Int) < (bs'.length : Int)) = true := by simp; omega
          have hol : most < o'.length := by
            rcases HBR.out with rfl | ⟨_, h⟩
            · exact hg
            · exact h
          have hRn : R = (2, []) := by rw [← HR.out, HE.out]; exact if_pos (by omega)
          subst hRn
          clear HR HE
          go_wp2_with fail
          go_ret2
          exact AnsIs.err H2.out.2
        · have hgd : decide ((most : Int) < (bs'.length : Int)) = false := by simp; omega
          have hoe : bs' = o' := by
            rcases HBR.out with rfl | ⟨h, _⟩
            · rfl
            · exact absurd h hg
          subst hoe
          have hRn : R = (0, bs') := by rw [← HR.out, HE.out]; exact if_neg (by omega)
          subst hRn
          clear HR HE HBR
          go_wp2_with fail
          go_ret2
          exact ⟨a2, c2, rfl, own_read H2.out.1.own H2.out.1.byte, H2.out.2⟩
theorem get_any (t : List Nat) (most : Int) (w : World) (hb : ∀ x ∈ t, x < 256) (hl : t.length ≤ 100000) (hM : MX w) :
    Calls Try.prog 16 #[.string (strB t), .int .i64 most] w (AnsIs (getR t most) w) := by
  by_cases hm : most < 0 ∨ 1048576 < most
  · unfold getR; rw [if_pos hm]; exact get_arg _ most w hm
  unfold getR; rw [if_neg hm]
  cases hc : cut2 t with
  | none => exact get_none t most w hb hl hM (by omega) (by omega) hc
  | some body =>
    obtain ⟨M, rfl⟩ : ∃ M : Nat, most = M := ⟨most.toNat, by omega⟩
    exact get_body t body M w hb hl hM (by omega) hc
end Go.Proofs.Ytbbckpdpahkfkaa
