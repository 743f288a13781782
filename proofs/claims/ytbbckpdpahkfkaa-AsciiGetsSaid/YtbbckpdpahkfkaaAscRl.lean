/- ascii's reference: Get, walked. -/
import Derived.Test.YtbbckpdpahkfkaaAscRk
namespace Go.Proofs.Ytbbckpdpahkfkaa
open Go.RowKit


theorem GS.z' {w wr w' : World} {m p : Nat} {R : Int × List Nat} {body l out : List Nat} {v1 v2 v' : Value} {o : Obj} (h : GS w m R body p l out v1 v2 wr) (hl : l = []) (hc : body.drop p = 122 :: body.drop (p + 1))
    (hown : w'.ownsRow w.heap.size 5 1 v' (out.length + 4) (bvs (out ++ [0, 0, 0, 0]))) (hg : (wr.alloc o).grownBy w' v2.ownBlock) : GS w m R body (p + 1) l (out ++ [0, 0, 0, 0]) v1 v' w' := by
  subst hl
  exact h.z hc hown hg
def sliceLen : Value → Nat
  | .slice _ n _ => n
  | _ => 0
/-- The state of the loop that pads. -/
structure PS (w : World) (l out : List Nat) (v2 : Value) (J : Nat) (s8 : Value) (wx : World) : Prop where
  low : l.length ≤ J
  top : J ≤ 5
  row : wx.ownsRow w.heap.size 3 1 s8 J (iiv (natI (l ++ List.replicate (J - l.length) 84)))
  told : wx.ownsRow w.heap.size 5 1 v2 out.length (bvs out)
  below : Below w.heap.size w wx
theorem PS.start {w wr : World} {m p : Nat} {R : Int × List Nat} {body l out : List Nat} {v1 v2 : Value} (h : GS w m R body p l out v1 v2 wr) : PS w l out v2 l.length v1 wr :=
  ⟨by omega, by have := h.four; omega, by simpa using h.row, h.told, h.below⟩
theorem PS.more {w wx w' : World} {l out : List Nat} {v2 s8 v' : Value} {J : Nat} {o : Obj} (h : PS w l out v2 J s8 wx) (hJ : J < 5)
    (hown : w'.ownsRow w.heap.size 3 1 v' (J + 1) (iiv (natI (l ++ List.replicate (J - l.length) 84)) ++ [.int .i64 84])) (hg : (wx.alloc o).grownBy w' s8.ownBlock) : PS w l out v2 (J + 1) v' w' :=
  ⟨by have := h.low; omega, by omega, by
    have e : J + 1 - l.length = (J - l.length) + 1 := by have := h.low; omega
    rw [e, List.replicate_succ', ← List.append_assoc, natI_snoc, iiv_append]
    exact hown, own_other (h.row.alloc o) (h.told.alloc o) (by decide) hg,
    (h.below.alloc h.below.size o).grown hg (by have := h.below.size; simp; omega) (fun j e => (own_lt h.row e).1)⟩
theorem PS.ints {w wx : World} {l out : List Nat} {v2 : Value} {a : Option Addr} {c J : Nat} (h : PS w l out v2 J (.slice a J c) wx) (hJ : J = 5) : IntsAt wx a 5 c (natI (l ++ List.replicate (5 - l.length) 84)) := by
  subst hJ
  obtain ⟨A, C, e, hi⟩ := IntsAt.of_own h.row
  injection e with e1 e2 e3
  subst e1 e3
  exact hi
/-- The answer at the end of the text, by what is left. -/
theorem restG_nil {l out : List Nat} {most : Int} : restG [] l out most = match endM l out with | none => (4, []) | some o => if most < (o.length : Int) then (2, []) else (0, o) := rfl
theorem restG_none {out : List Nat} {most : Int} : restG [] [] out most = if most < (out.length : Int) then (2, []) else (0, out) := rfl
theorem restG_one {l out : List Nat} {most : Int} (h : l.length = 1) : restG [] l out most = (4, []) := by
  rw [restG_nil]
  unfold endM
  rw [if_neg (by intro e; subst e; cases h), if_pos h]
theorem restG_bigend {l out : List Nat} {most : Int} {N : Nat} (h : 1 < l.length) (hN : num5 (l ++ List.replicate (5 - l.length) 84) 0 = N) (hb : 4294967295 < N) : restG [] l out most = (4, []) := by
  subst hN
  rw [restG_nil]
  unfold endM
  rw [if_neg (by intro e; subst e; cases h), if_neg (by omega), if_pos hb]
theorem restG_end {l out : List Nat} {most : Int} {N k : Nat} (h : 1 < l.length) (hk : l.length = k + 1) (hN : num5 (l ++ List.replicate (5 - l.length) 84) 0 = N) (hb : ¬ 4294967295 < N) :
    restG [] l out most = if most < ((out ++ (fourB N).take k).length : Int) then (2, []) else (0, out ++ (fourB N).take k) := by
  subst hN
  rw [restG_nil]
  unfold endM
  rw [if_neg (by intro e; subst e; cases h), if_neg (by omega), if_neg hb, hk]
  rfl
theorem num5_five {l : List Nat} (hl : l.length = 5) (hd : ∀ d ∈ l, d < 85) : num5 l 0 < 4437053125 := by
  have h1 := num5_lt l hd 0
  rw [hl] at h1
  have h2 : (85 : Nat) ^ 5 = 4437053125 := by decide
  omega
theorem AnsIs.done {w w' : World} {R : Int × List Nat} {a : Option Addr} {n c : Nat} {o : List Nat} (hR : R = (0, o)) (hn : o.length = n) (hb : Bytes w' a n c o) (hw : Below w.heap.size w w') : AnsIs R w (.returned (.tuple #[.slice a n c, .int .i64 0])) w' := by
  subst hR hn
  exact ⟨a, c, rfl, hb, hw⟩
theorem own_bytes2 {w : World} {B : Nat} {a : Option Addr} {n c : Nat} {l : List Nat} (h : w.ownsRow B 5 1 (.slice a n c) n (bvs l)) (hb : ∀ b ∈ l, b < 256) : Bytes w a n c l := own_read h hb
theorem fourB_lt (N : Nat) : ∀ x ∈ fourB N, x < 256 := fun x hx => by
  simp only [fourB, List.mem_cons, List.not_mem_nil, or_false] at hx
  omega
set_option maxRecDepth 100000 in
set_option maxHeartbeats 8000000 in
theorem get_ref_some (t b : List Nat) (most : Int) (w : World) (hb : ∀ x ∈ t, x < 256) (hl : t.length ≤ 100000) (hm : ¬ (most < 0 ∨ 1048576 < most)) (hc : cut2 t = some b) :
    Calls Try.prog 17 #[.string (strB t), .int .i64 most] w (AnsIs (restG b [] [] most) w) := by
  have d1 : decide (most < 0) = false := by simp; omega
  have d2 : decide (1048576 < most) = false := by simp; omega
  obtain ⟨m, rfl⟩ : ∃ m : Nat, most = m := ⟨most.toNat, by omega⟩
  have hsz : (strB t).size = t.length := strB_size t
  have hix := fun i x (h : t[i]? = some x) w => strB_index t i x h (hb x (List.mem_of_getElem? h)) w
  obtain ⟨i0, hi, hz0, hz1, hz2⟩ := info_parts infoInt
  obtain ⟨R, hR⟩ : ∃ R, restG b [] [] (m : Int) = R := ⟨_, rfl⟩
  rw [hR]
  generalize strB t = S at *
  have HIX := Lib.hid hix
  have HC := Lib.hid (And.intro hc hR)
  clear hix hc hm hR
  go_enter Try.func17, Try.ntmps17
  go_wp2
  go_loopw [6] (fun s6 wr => ∃ e : Nat, e ≤ t.length ∧ s6 = .int .i64 e ∧ CutTo t e ∧ wr = w) (fun s6 _ => t.length - (intOf s6).toNat)
  case atStart => exact ⟨0, by omega, rfl, CutTo.start t, rfl⟩
  case round =>
    obtain ⟨e, he, rfl, hct, hww⟩ := hrel
    obtain rfl : w = wr := hww.symm
    obtain ⟨f, hf⟩ : ∃ f, e + 1 = f := ⟨_, rfl⟩
    have hwf : IntKind.i64.wrap ((e : Int) + 1) = (f : Int) := by rw [show (e : Int) + 1 = (f : Int) by omega, IntKind.wrap_i64]; omega
    have hfe : (e : Int) + 1 = (f : Int) := by omega
    by_cases hlt : f < t.length
    · obtain ⟨c, hcc⟩ : ∃ x, t[e]? = some x := ⟨_, List.getElem?_eq_getElem (by omega)⟩
      obtain ⟨d, hdd⟩ : ∃ x, t[f]? = some x := ⟨_, List.getElem?_eq_getElem hlt⟩
      have hci := HIX.out e c hcc
      have hdi := HIX.out f d hdd
      have e1 : decide ((f : Int) < (t.length : Int)) = true := by simp; omega
      by_cases hn : c = 126 ∧ d = 62
      · obtain ⟨h1, h2⟩ := hn
        subst h1 h2
        have hbody : b = t.take e := by
          have := hct.some hcc (by rw [hf]; exact hdd)
          rw [HC.out.1] at this
          injection this
        have e2 : ((126 : Int) != 126) = false := by simp
        have e3 : ((62 : Int) != 62) = false := by simp
        have e4 : decide ((t.length : Int) ≤ (f : Int)) = false := by simp; omega
        have e5 : decide (t.length ≤ f) = false := by simp; omega
        have hbl : b.length = e := by rw [hbody, List.length_take]; omega
        have hbi : ∀ p, p < e → ∃ x, t[p]? = some x ∧ b.drop p = x :: b.drop (p + 1) ∧ x < 256 := fun p hp => by
          obtain ⟨x, hx⟩ : ∃ x, t[p]? = some x := ⟨_, List.getElem?_eq_getElem (by omega)⟩
          have hx2 : b[p]? = some x := by rw [hbody, List.getElem?_take, if_pos hp]; exact hx
          obtain ⟨h1, h2⟩ := List.getElem?_eq_some_iff.1 hx2
          exact ⟨x, hx, by rw [List.drop_eq_getElem_cons h1, h2], hb x (List.mem_of_getElem? hx)⟩
        have HB := Lib.hid (And.intro hbl hbi)
        clear hbl hbi hbody hcc hdd hct hf
        go_wp2_with fail
        clear hci hdi e1 e2 e3 e4 e5
        go_loopw [7, 8, 9] (fun v2 v1 s9 wx => ∃ (p : Nat) (l out : List Nat), p ≤ e ∧ s9 = .int .i64 p ∧ GS w m R b p l out v1 v2 wx) (fun _ _ s9 _ => e - (intOf s9).toNat)
        case atStart => exact ⟨0, [], [], by omega, rfl, by rw [← HC.out.2]; exact GS.start w m b⟩
        case round =>
          obtain ⟨p, l, out, hp, rfl, hgs⟩ := hrel
          obtain ⟨a1, c1, rfl⟩ := own_slice hgs.row
          obtain ⟨a2, c2, rfl⟩ := own_slice hgs.told
          have hlen := hgs.len
          have hfour := hgs.four
          have HG := Lib.hid hgs
          clear hgs
          by_cases hpe : p < e
          · obtain ⟨x, hx, hdr, hx9⟩ := HB.out.2 p hpe
            have hxi := HIX.out p x hx
            have e1 : decide ((p : Int) < (e : Int)) = true := by simp; omega
            have hwh := fun w => white_ref x w
            have HX := Lib.hid hdr
            clear hx hdr
            cases hw : isW x with
            | true =>
              simp only [hw] at hwh
              have HW := Lib.hid hwh
              have HGW := Lib.hid (HG.out.white HX.out hw)
              clear hwh hw
              go_wp2_with fail
              refine (HW.out _).mono ?_
              rintro e' w3 ⟨rfl, rfl⟩
              go_wp2_with fail
              go_roundw
              case rel => exact ⟨p + 1, l, out, by omega, by go_num, HGW.out⟩
              case measure => simp [intOf]; omega
            | false =>
              simp only [hw] at hwh
              have HW := Lib.hid (And.intro hwh hw)
              clear hwh hw
              by_cases hz : x = 122 ∧ l = []
              · have e6 : ((x : Int) == 122) = true := by simp [hz.1]
                have e7 : ((l.length : Int) == 0) = true := by simp [hz.2]
                have hx122 : b.drop p = 122 :: b.drop (p + 1) := by rw [HX.out, hz.1]
                have HZ := Lib.hid (And.intro hz hx122)
                clear hz hx122
                go_wp2_with fail
                refine (HW.out.1 _).mono ?_
                rintro e' w3 ⟨rfl, rfl⟩
                go_wp2_with (refine wpList_app (o := ⟨some 64, _, _, _, _, _⟩) rfl (.tmp 62) (.tmp 63) rfl w.heap.size out.length 4 4 (.slice a2 out.length c2) out [0, 0, 0, 0] (some ⟨wr.heap.size, 0, none⟩) ?h1 ?h2 ?h3 ?h4 ?h5 ?h6 ?h7)
                case h1 => rfl
                case h2 => rfl
                case h3 => exact HG.out.told.alloc _
                case h4 => exact four_zero _
                case h5 => omega
                case h6 => have := HG.out.below.size; simp; omega
                intro v4 w4 hown4 hgrow4
                have HGZ := Lib.hid (HG.out.z' HZ.out.1.2 HZ.out.2 hown4 hgrow4)
                obtain ⟨a4, c4, rfl⟩ := own_slice hown4
                clear hown4 hgrow4
                go_wp2_with fail
                go_roundw
                case rel => exact ⟨p + 1, l, out ++ [0, 0, 0, 0], by omega, by go_num, HGZ.out⟩
                case measure => simp [intOf]; omega
              · by_cases hbad : x < 33 ∨ 117 < x
                · have HR := Lib.hid (show R = (4, []) by rw [← HG.out.rest, HX.out, restG_bad HW.out.2 hz hbad])
                  by_cases h122 : x = 122
                  · have hlne : l ≠ [] := fun h => hz ⟨h122, h⟩
                    have e6 : ((x : Int) == 122) = true := by simp [h122]
                    have e7 : ((l.length : Int) == 0) = false := by simp [hlne]
                    have d3 : decide ((x : Int) < 33) = false := by simp; omega
                    have d4 : decide (117 < (x : Int)) = true := by simp; omega
                    clear hz hbad h122 hlne
                    go_wp2_with fail
                    refine (HW.out.1 _).mono ?_
                    rintro e' w3 ⟨rfl, rfl⟩
                    go_wp2_with fail
                    go_ret2
                    rw [HR.out]
                    exact AnsIs.err HG.out.below
                  · have e6 : ((x : Int) == 122) = false := by simp; omega
                    rcases hbad with hbad | hbad
                    · have d3 : decide ((x : Int) < 33) = true := by simp; omega
                      clear hz h122
                      go_wp2_with fail
                      refine (HW.out.1 _).mono ?_
                      rintro e' w3 ⟨rfl, rfl⟩
                      go_wp2_with fail
                      go_ret2
                      rw [HR.out]
                      exact AnsIs.err HG.out.below
                    · have d3 : decide ((x : Int) < 33) = false := by simp; omega
                      have d4 : decide (117 < (x : Int)) = true := by simp; omega
                      clear hz h122
                      go_wp2_with fail
                      refine (HW.out.1 _).mono ?_
                      rintro e' w3 ⟨rfl, rfl⟩
                      go_wp2_with fail
                      go_ret2
                      rw [HR.out]
                      exact AnsIs.err HG.out.below
                · have e6 : ((x : Int) == 122) = false := by simp; omega
                  have d3 : decide ((x : Int) < 33) = false := by simp; omega
                  have d4 : decide (117 < (x : Int)) = false := by simp; omega
                  obtain ⟨d, hd⟩ : ∃ d, x - 33 = d := ⟨_, rfl⟩
                  have hxd : (x : Int) - 33 = (d : Int) := by omega
                  have hd9 : d < 85 := by omega
                  have HD := Lib.hid (And.intro hd hbad)
                  by_cases hl4 : l.length = 4
                  · have e8 : (((l.length + 1 : Nat) : Int) == 5) = true := by simp; omega
                    have e9 : (((l.length : Nat) : Int) + 1 == 5) = true := by simp; omega
                    have h5d : (l ++ [d]).length = 5 := by simp; omega
                    have h5l : ∀ y ∈ l ++ [d], y < 85 := fun y hy => by
                      rcases List.mem_append.1 hy with hy | hy
                      · exact HG.out.dig y hy
                      · simp at hy; omega
                    obtain ⟨N, hN⟩ : ∃ N, num5 (l ++ [d]) 0 = N := ⟨_, rfl⟩
                    have hN9 : N < 4437053125 := by rw [← hN]; exact num5_five h5d h5l
                    have HL := Lib.hid (And.intro hl4 (And.intro h5d (And.intro h5l hN)))
                    clear hz hbad hl4 h5d h5l hN hd
                    go_wp2_with fail
                    refine (HW.out.1 _).mono ?_
                    rintro e' w3 ⟨rfl, rfl⟩
                    go_wp2_with (at_builtin; refine wpList_append_own _ rfl _ _ 44 rfl w.heap.size 3 i0 (.int .i64 0) 1 8 Try.underlying44 hi hz0 hz1 hz2 rfl (by decide) _ _ _ rfl (HG.out.row.alloc _) ⟨_, 0, none⟩ 1 1 [.int .i64 _] rfl rfl (World.news_of_block (t := 3) (fr := (0, 0)) (heap_alloc_new _ _)) ?p2 ?p3 ?p4 ?p5 ?_)
                    case p2 => simp [Value.oneCell']
                    case p3 => unfold maxLen; omega
                    case p4 => omega
                    case p5 => have := HG.out.below.size; first | omega | (simp; omega)
                    intro v' w5 hown' hgrow _
                    have hf := HG.out.fifth (c := x) (by rw [HD.out.1]; exact hown') hgrow
                    rw [HD.out.1] at hf
                    obtain ⟨a5, c5, rfl⟩ := own_slice hown'
                    have hI : IntsAt w5 a5 5 c5 (natI (l ++ [d])) := by
                      obtain ⟨A, C, e, hi⟩ := IntsAt.of_own hf.1
                      injection e with e1 e2 e3
                      subst e1 e3
                      rw [HL.out.1] at hi
                      exact hi
                    have HF := Lib.hid (And.intro hI hf)
                    clear hI hf hown' hgrow
                    rw [show l.length + 1 = 5 by rw [HL.out.1]]
                    clear e8 e9
                    go_wp2_with fail
                    refine (number_ref _ _ (l ++ [d]) _ HF.out.1 HL.out.2.2.1).mono ?_
                    rintro e' w6 ⟨rfl, rfl⟩
                    rw [HL.out.2.2.2]
                    by_cases hbig : 4294967295 < N
                    · have HR := Lib.hid (show R = (4, []) by rw [← HG.out.rest, HX.out, restG_big HW.out.2 HD.out.2 HL.out.1 (by rw [HD.out.1, HL.out.2.2.2]; exact hbig)])
                      have g1 : decide (4294967295 < (N : Int)) = true := by simp; omega
                      clear hbig
                      go_wp2_with fail
                      go_ret2
                      rw [HR.out]
                      exact AnsIs.err HF.out.2.2.2
                    · have g1 : decide (4294967295 < (N : Int)) = false := by simp; omega
                      have hN32 : N < 4294967296 := by omega
                      have HB2 := Lib.hid hbig
                      clear hbig
                      go_wp2_with fail
                      refine (four_ref N 4 _ hN32 (by omega)).mono ?_
                      rintro e' w6 ⟨A6, c6, rfl, hby6, hb6⟩
                      have HQ := Lib.hid (And.intro hby6 hb6)
                      have hs6 := hb6.size
                      clear hby6 hb6
                      go_wp2_with (refine wpList_app (o := ⟨some 87, _, _, _, _, _⟩) rfl (.tmp 84) (.tmp 86) rfl w.heap.size out.length 4 c6 (.slice a2 out.length c2) out (fourB N) A6 ?q1 ?q2 ?q3 ?q4 ?q5 ?q6 ?q7)
                      case q1 => rfl
                      case q2 => rfl
                      case q3 => exact own_below HF.out.2.2.1 HQ.out.2
                      case q4 => exact HQ.out.1
                      case q5 => omega
                      case q6 => have := HF.out.2.2.2.size; omega
                      intro v7 w7 hown7 hgrow7
                      have hnum : num5 (l ++ [x - 33]) 0 = N := by rw [HD.out.1]; exact HL.out.2.2.2
                      have hgs := HG.out.five HX.out HW.out.2 HD.out.2 HL.out.1 (by rw [hnum]; exact HB2.out) HF.out.2.2.1 HF.out.2.2.2 HQ.out.2 (by rw [hnum]; exact hown7) hgrow7
                      rw [hnum] at hgs
                      have HG7 := Lib.hid hgs
                      obtain ⟨a7, c7, rfl⟩ := own_slice hown7
                      clear hown7 hgrow7 hgs hnum
                      go_wp2_with fail
                      go_roundw
                      case rel => exact ⟨p + 1, [], out ++ fourB N, by omega, by go_num, HG7.out⟩
                      case measure => simp [intOf]; omega
                  · have e8 : (((l.length + 1 : Nat) : Int) == 5) = false := by simp; omega
                    have e9 : (((l.length : Nat) : Int) + 1 == 5) = false := by simp; omega
                    have HL := Lib.hid hl4
                    clear hz hbad hl4 hd
                    go_wp2_with fail
                    refine (HW.out.1 _).mono ?_
                    rintro e' w3 ⟨rfl, rfl⟩
                    go_wp2_with (at_builtin; refine wpList_append_own _ rfl _ _ 44 rfl w.heap.size 3 i0 (.int .i64 0) 1 8 Try.underlying44 hi hz0 hz1 hz2 rfl (by decide) _ _ _ rfl (HG.out.row.alloc _) ⟨_, 0, none⟩ 1 1 [.int .i64 _] rfl rfl (World.news_of_block (t := 3) (fr := (0, 0)) (heap_alloc_new _ _)) ?n2 ?n3 ?n4 ?n5 ?_)
                    case n2 => simp [Value.oneCell']
                    case n3 => unfold maxLen; omega
                    case n4 => omega
                    case n5 => have := HG.out.below.size; first | omega | (simp; omega)
                    intro v' w5 hown' hgrow _
                    have hgm := HG.out.more HX.out HW.out.2 HD.out.2 HL.out (by rw [HD.out.1]; exact hown') hgrow
                    rw [HD.out.1] at hgm
                    have HGM := Lib.hid hgm
                    obtain ⟨a5, c5, rfl⟩ := own_slice hown'
                    clear hown' hgrow hgm
                    go_wp2_with fail
                    go_roundw
                    case rel => exact ⟨p + 1, l ++ [d], out, by omega, by go_num, HGM.out⟩
                    case measure => simp [intOf]; omega
          · have e1 : decide ((p : Int) < (e : Int)) = false := by simp; omega
            have e15 : decide (p < e) = false := by simp; omega
            have hpe' : p = e := by omega
            have hrn : restG [] l out (m : Int) = R := by
              rw [← HG.out.rest, hpe', List.drop_of_length_le (by rw [HB.out.1]; exact Nat.le_refl _)]
            have HN := Lib.hid hrn
            clear hrn hpe hpe'
            by_cases hl0 : l = []
            · have e10 : ((l.length : Int) == 1) = false := by simp [hl0]
              have e11 : decide (0 < (l.length : Int)) = false := by simp [hl0]
              have e12 : decide (0 < l.length) = false := by simp [hl0]
              have hR0 : (if (m : Int) < (out.length : Int) then ((2, []) : Int × List Nat) else (0, out)) = R := by rw [← HN.out, hl0]; rfl
              by_cases hlong : m < out.length
              · have e13 : decide ((m : Int) < (out.length : Int)) = true := by simp; omega
                have e14 : decide (m < out.length) = true := by simp; omega
                have HR := Lib.hid (show R = (2, []) by rw [← hR0, if_pos (by omega)])
                clear hR0 hl0 hlong
                go_wp2_with fail
                go_ret2
                rw [HR.out]
                exact AnsIs.err HG.out.below
              · have e13 : decide ((m : Int) < (out.length : Int)) = false := by simp; omega
                have e14 : decide (m < out.length) = false := by simp; omega
                have HR := Lib.hid (show R = (0, out) by rw [← hR0, if_neg (by omega)])
                clear hR0 hl0 hlong
                go_wp2_with fail
                go_ret2
                exact AnsIs.done HR.out rfl (own_bytes2 HG.out.told HG.out.byte) HG.out.below
            · have hlp : 0 < l.length := List.length_pos_iff.2 hl0
              by_cases hl1 : l.length = 1
              · have e10 : ((l.length : Int) == 1) = true := by simp [hl1]
                have HR := Lib.hid (show R = (4, []) by rw [← HN.out, restG_one hl1])
                clear hl0 hlp hl1
                go_wp2_with fail
                go_ret2
                rw [HR.out]
                exact AnsIs.err HG.out.below
              · obtain ⟨k, hk⟩ : ∃ k, l.length = k + 1 := ⟨l.length - 1, by omega⟩
                have e10 : ((l.length : Int) == 1) = false := by simp; omega
                have e11 : decide (0 < (l.length : Int)) = true := by simp; omega
                have e12 : decide (0 < l.length) = true := by simp; omega
                have hk1 : (l.length : Int) - 1 = (k : Int) := by omega
                have hk4 : k ≤ 4 := by omega
                obtain ⟨N, hN⟩ : ∃ N, num5 (l ++ List.replicate (5 - l.length) 84) 0 = N := ⟨_, rfl⟩
                have h5d : (l ++ List.replicate (5 - l.length) 84).length = 5 := by simp; omega
                have h5l : ∀ y ∈ l ++ List.replicate (5 - l.length) 84, y < 85 := fun y hy => by
                  rcases List.mem_append.1 hy with hy | hy
                  · exact HG.out.dig y hy
                  · have := (List.mem_replicate.1 hy).2; omega
                have hN9 : N < 4437053125 := by rw [← hN]; exact num5_five h5d h5l
                have HL := Lib.hid (And.intro (show 1 < l.length by omega) (And.intro hk (And.intro h5l hN)))
                have HP0 := Lib.hid (PS.start HG.out)
                clear hl0 hlp hl1 hk h5d h5l hN
                go_wp2_with fail
                go_loopw [8] (fun s8 wy => ∃ J : Nat, PS w l out (.slice a2 out.length c2) J s8 wy) (fun s8 _ => 5 - sliceLen s8)
                case atStart => exact ⟨_, HP0.out⟩
                case round =>
                  obtain ⟨J, hps⟩ := hrel
                  obtain ⟨a8, c8, rfl⟩ := own_slice hps.row
                  have hJ5 := hps.top
                  have HS := Lib.hid hps
                  clear hps
                  by_cases hJ : J < 5
                  · have f1 : decide ((J : Int) < 5) = true := by simp; omega
                    go_wp2_with (at_builtin; refine wpList_append_own _ rfl _ _ 44 rfl w.heap.size 3 i0 (.int .i64 0) 1 8 Try.underlying44 hi hz0 hz1 hz2 rfl (by decide) _ _ _ rfl (HS.out.row.alloc _) ⟨_, 0, none⟩ 1 1 [.int .i64 _] rfl rfl (World.news_of_block (t := 3) (fr := (0, 0)) (heap_alloc_new _ _)) ?r2 ?r3 ?r4 ?r5 ?_)
                    case r2 => simp [Value.oneCell']
                    case r3 => unfold maxLen; omega
                    case r4 => omega
                    case r5 => have := HS.out.below.size; first | omega | (simp; omega)
                    intro v' w5 hown' hgrow _
                    have hpm := HS.out.more hJ hown' hgrow
                    have HPM := Lib.hid hpm
                    obtain ⟨a5, c5, rfl⟩ := own_slice hown'
                    clear hown' hgrow hpm
                    go_wp2_with fail
                    go_roundw
                    case rel => exact ⟨J + 1, HPM.out⟩
                    case measure => simp [sliceLen]; omega
                  · obtain rfl : J = 5 := by omega
                    have hI := HS.out.ints rfl
                    have HI := Lib.hid hI
                    clear hI hJ
                    go_wp2_with fail
                    refine (number_ref _ _ _ _ HI.out HL.out.2.2.1).mono ?_
                    rintro e' w6 ⟨rfl, rfl⟩
                    rw [HL.out.2.2.2]
                    by_cases hbig : 4294967295 < N
                    · have HR := Lib.hid (show R = (4, []) by rw [← HN.out, restG_bigend HL.out.1 HL.out.2.2.2 hbig])
                      have g1 : decide (4294967295 < (N : Int)) = true := by simp; omega
                      clear hbig
                      go_wp2_with fail
                      go_ret2
                      rw [HR.out]
                      exact AnsIs.err HS.out.below
                    · have g1 : decide (4294967295 < (N : Int)) = false := by simp; omega
                      have hN32 : N < 4294967296 := by omega
                      have hRe := restG_end (out := out) (most := (m : Int)) HL.out.1 HL.out.2.1 HL.out.2.2.2 hbig
                      rw [HN.out] at hRe
                      have hol : (out ++ (fourB N).take k).length = out.length + k := by simp [fourB]; omega
                      rw [hol] at hRe
                      have HB2 := Lib.hid (And.intro hRe hol)
                      clear hbig hRe hol
                      go_wp2_with fail
                      refine (four_ref N k _ hN32 hk4).mono ?_
                      rintro e' w6 ⟨A6, c6, rfl, hby6, hb6⟩
                      have HQ := Lib.hid (And.intro hby6 hb6)
                      have hs6 := hb6.size
                      clear hby6 hb6
                      go_wp2_with (refine wpList_app (o := ⟨some 109, _, _, _, _, _⟩) rfl (.tmp 104) (.tmp 108) rfl w.heap.size out.length k c6 (.slice a2 out.length c2) out ((fourB N).take k) A6 ?t1 ?t2 ?t3 ?t4 ?t5 ?t6 ?t7)
                      case t1 => rfl
                      case t2 => rfl
                      case t3 => exact own_below HS.out.told HQ.out.2
                      case t4 => exact HQ.out.1
                      case t5 => omega
                      case t6 => have := HS.out.below.size; omega
                      intro v7 w7 hown7 hgrow7
                      have hb7 : Below w.heap.size w w7 := (HS.out.below.trans (HQ.out.2.mono HS.out.below.size)).grown hgrow7 (HS.out.below.trans (HQ.out.2.mono HS.out.below.size)).size (fun j e => (own_lt (own_below HS.out.told HQ.out.2) e).1)
                      obtain ⟨a7, c7, rfl⟩ := own_slice hown7
                      have hby7 := own_bytes2 hown7 (fun b hbb => by
                        rcases List.mem_append.1 hbb with hbb | hbb
                        · exact HG.out.byte b hbb
                        · exact fourB_lt N b (List.mem_of_mem_take hbb))
                      have H7 := Lib.hid (And.intro hby7 hb7)
                      clear hown7 hgrow7 hby7 hb7
                      obtain ⟨n7, hn7⟩ : ∃ n7, out.length + k = n7 := ⟨_, rfl⟩
                      rw [hn7] at H7 HB2 ⊢
                      have HN7 := Lib.hid hn7
                      clear hn7
                      by_cases hlong : m < n7
                      · have e13 : decide ((m : Int) < (n7 : Int)) = true := by simp; omega
                        have e14 : decide (m < n7) = true := by simp; omega
                        have HR := Lib.hid (show R = (2, []) by rw [HB2.out.1, if_pos (by omega)])
                        clear hlong
                        go_wp2_with fail
                        go_ret2
                        rw [HR.out]
                        exact AnsIs.err H7.out.2
                      · have e13 : decide ((m : Int) < (n7 : Int)) = false := by simp; omega
                        have e14 : decide (m < n7) = false := by simp; omega
                        have HR := Lib.hid (show R = (0, out ++ (fourB N).take k) by rw [HB2.out.1, if_neg (by omega)])
                        clear hlong
                        go_wp2_with fail
                        go_ret2
                        exact AnsIs.done HR.out HB2.out.2 H7.out.1 H7.out.2
      · have hst := hct.step hcc (by rw [hf]; exact hdd) hn
        have HS := Lib.hid (And.intro hst hf)
        by_cases h1 : c = 126
        · have h2 : d ≠ 62 := fun h => hn ⟨h1, h⟩
          have e2 : ((c : Int) != 126) = false := by simp; omega
          have e3 : ((d : Int) != 62) = true := by simp; omega
          clear hn hst hcc hdd h1 h2 hct hf
          go_wp2
          go_roundw
          case rel => exact ⟨e + 1, by have := HS.out.2; omega, by have := HS.out.2; first | go_num | (congr 1; omega), HS.out.1, by trivial⟩
          case measure => have := HS.out.2; simp [intOf]; omega
        · have e2 : ((c : Int) != 126) = true := by simp; omega
          clear hn hst hcc hdd h1 hct hf
          go_wp2
          go_roundw
          case rel => exact ⟨e + 1, by have := HS.out.2; omega, by have := HS.out.2; first | go_num | (congr 1; omega), HS.out.1, by trivial⟩
          case measure => have := HS.out.2; simp [intOf]; omega
    · exfalso
      have := hct.none (by omega)
      rw [HC.out.1] at this
      cases this
end Go.Proofs.Ytbbckpdpahkfkaa
