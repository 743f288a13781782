/- The walk of RunParts. -/
import Derived.Test.YtbghmbcipekboaaRunPartsL
namespace Go.Proofs.Ytbghmbcipekboaa
open Go.RowKit

/-- The rows, one behind the other. -/
def flatL (L : List (List Nat)) : List Nat := L.flatten
theorem plainRows_byte : ∀ L : List (List Nat), (∀ r ∈ L, 1 ≤ r.length ∧ r.length ≤ 128 ∧ ∀ y ∈ r, y < 256) → ∀ x ∈ plainRows L, x < 256
  | [], _, x, hx => by simp [plainRows] at hx
  | r :: L, h, x, hx => by
    have h0 := h r (List.mem_cons_self ..)
    simp only [plainRows, List.cons_append, List.mem_cons, List.mem_append] at hx
    rcases hx with hx | hx | hx
    · omega
    · exact h0.2.2 x hx
    · exact plainRows_byte L (fun q hq => h q (List.mem_cons_of_mem _ hq)) x hx
set_option maxRecDepth 100000 in
set_option maxHeartbeats 4000000 in
theorem parts_law (A A2 : Option Addr) (n n2 c c2 : Nat) (L : List (List Nat)) (rs : List Nat) (w : World) (h : RowsB w A n c L) (h2 : Bytes w A2 n2 c2 rs) :
    Calls Try.prog 6 #[.slice A n c, .slice A2 n2 c2] w (True_ w) := by
  by_cases g1 : 20 < n
  · go_enter Try.func6, Try.ntmps6
    go_wp2
    go_ret
    exact ⟨rfl, Below.refl _ _⟩
  by_cases g2 : 100 < n2
  · go_enter Try.func6, Try.ntmps6
    go_wp2
    go_ret
    exact ⟨rfl, Below.refl _ _⟩
  have hl := h.len
  have hcap := h.cap
  have H := Lib.hid h
  have H2 := Lib.hid h2
  have hl2 := h2.len
  clear h h2
  go_enter Try.func6, Try.ntmps6
  go_wp2
  go_loopg [5, 6, 7] n (fun g v u z wr => ∃ i, g + i = n ∧ z = .int .i64 i ∧ wr.ownsRow w.heap.size 5 1 v (plainRows (L.take i)).length (bvs (plainRows (L.take i))) ∧ wr.ownsRow w.heap.size 5 1 u (flatL (L.take i)).length (bvs (flatL (L.take i))) ∧ Apart v u ∧ Below w.heap.size w wr ∧
    (∀ r ∈ L.take i, 1 ≤ r.length ∧ r.length ≤ 128 ∧ ∀ y ∈ r, y < 256) ∧ (plainRows (L.take i)).length ≤ 129 * i ∧ (flatL (L.take i)).length ≤ 128 * i)
  case atStart => exact ⟨0, by omega, rfl, ⟨rfl, .inl ⟨rfl, rfl⟩⟩, ⟨rfl, .inl ⟨rfl, rfl⟩⟩, (fun g h => by cases h), Below.refl _ _, by simp, by simp [plainRows], by simp [flatL]⟩
  case round =>
    obtain ⟨i, hgi, rfl, ho1, ho2, hap, hbel, hrow, hb1, hb2⟩ := hrel
    obtain ⟨a0, ca, rfl⟩ := own_slice ho1
    obtain ⟨a1, cb, rfl⟩ := own_slice ho2
    have HX := Lib.hid (And.intro ho1 (And.intro ho2 (And.intro hap hbel)))
    have HR := Lib.hid hrow
    have hsz := hbel.size
    clear ho1 ho2 hap hbel hrow
    by_cases hlt : i < n
    · obtain ⟨R, o, hA, hRn, hat⟩ := H.out.at_ (by omega)
      obtain rfl := hA
      obtain ⟨r, hr⟩ : ∃ r, L[i]? = some r := ⟨L[i], List.getElem?_eq_getElem (by omega)⟩
      obtain ⟨A', m, c', hcell, hby⟩ := hat i r hr
      have hm := hby.len
      obtain rfl := hm
      have hcr : wr.cell? ⟨R, o + i, none⟩ = some (.slice A' r.length c') := (HX.out.2.2.2.cell (p := ⟨R, o + i, none⟩) hRn).trans hcell
      have hin : (i : Int) < (n : Int) := by omega
      have HBY := Lib.hid hby
      have HCW := Lib.hid hcell
      have HTK := Lib.hid (show L.take (i + 1) = L.take i ++ [r] by rw [List.take_add_one, hr]; rfl)
      clear hat hr hcell hby
      by_cases m1 : r.length < 1
      · have d1 : decide ((r.length : Int) < 1) = true := by simp; omega
        go_wp2
        go_ret
        exact ⟨rfl, HX.out.2.2.2⟩
      · have d1 : decide ((r.length : Int) < 1) = false := by simp; omega
        by_cases m2 : 128 < r.length
        · have d2 : decide ((128 : Int) < (r.length : Int)) = true := by simp; omega
          go_wp2
          go_ret
          exact ⟨rfl, HX.out.2.2.2⟩
        · have d2 : decide ((128 : Int) < (r.length : Int)) = false := by simp; omega
          have wr2 : IntKind.i64.wrap ((r.length : Int) - 1) = (r.length : Int) - 1 := IntWalk.i64_in _ (by omega)
          have wr3 : IntKind.u8.wrap ((r.length : Int) - 1) = (r.length : Int) - 1 := by show _ % 256 = _; omega
          go_wp2_with (refine wpList_app2 (o := ⟨some 49, _, _, _, _, _⟩) rfl (.tmp 40) (.tmp 48) rfl w.heap.size (plainRows (L.take i)).length 1 1 (.slice a0 (plainRows (L.take i)).length ca) (plainRows (L.take i)) [r.length - 1] (some ⟨wr.heap.size, 0, none⟩) ?h1 ?h2 ?h3 ?h4 ?h5 ?h6 ?h7)
          case h1 => rfl
          case h2 => rfl
          case h3 => exact HX.out.1.alloc _
          case h4 => exact bytes_one _ _ (r.length - 1) (by omega) (by omega)
          case h5 => omega
          case h6 => simp; omega
          intro v4 w4 hown4 hgrow4 hl4
          have H4 := Lib.hid (And.intro hown4 (pair_app (HX.out.1.alloc _) (HX.out.2.1.alloc _) HX.out.2.2.1 hgrow4 (by simpa using hl4) (HX.out.2.2.2.alloc hsz _) (by simp; omega)))
          obtain ⟨a4, c4, rfl⟩ := own_slice hown4
          have hcr4 : w4.cell? ⟨R, o + i, none⟩ = some (.slice A' r.length c') := (H4.out.2.2.2.cell (p := ⟨R, o + i, none⟩) hRn).trans HCW.out
          have hsz4 := H4.out.2.2.2.size
          clear hown4 hgrow4 hl4
          go_wp2_with (refine wpList_app2 (o := ⟨some 55, _, _, _, _, _⟩) rfl (.tmp 50) (.tmp 54) rfl w.heap.size ((plainRows (L.take i)).length + 1) r.length c' (.slice a4 ((plainRows (L.take i)).length + 1) c4) (plainRows (L.take i) ++ [r.length - 1]) r A' ?k1 ?k2 ?k3 ?k4 ?k5 ?k6 ?k7)
          case k1 => rfl
          case k2 => rfl
          case k3 => exact H4.out.1
          case k4 => exact HBY.out.below H4.out.2.2.2
          case k5 => omega
          case k6 => exact hsz4
          intro v5 w5 hown5 hgrow5 hl5
          have H5 := Lib.hid (And.intro hown5 (pair_app H4.out.1 H4.out.2.1 H4.out.2.2.1 hgrow5 hl5 H4.out.2.2.2 hsz4))
          obtain ⟨a5, c5, rfl⟩ := own_slice hown5
          have hcr5 : w5.cell? ⟨R, o + i, none⟩ = some (.slice A' r.length c') := (H5.out.2.2.2.cell (p := ⟨R, o + i, none⟩) hRn).trans HCW.out
          have hsz5 := H5.out.2.2.2.size
          clear hown5 hgrow5 hl5
          go_wp2_with (refine wpList_app2 (o := ⟨some 61, _, _, _, _, _⟩) rfl (.tmp 56) (.tmp 60) rfl w.heap.size (flatL (L.take i)).length r.length c' (.slice a1 (flatL (L.take i)).length cb) (flatL (L.take i)) r A' ?j1 ?j2 ?j3 ?j4 ?j5 ?j6 ?j7)
          case j1 => rfl
          case j2 => rfl
          case j3 => exact H5.out.2.1
          case j4 => exact HBY.out.below H5.out.2.2.2
          case j5 => omega
          case j6 => exact hsz5
          intro v6 w6 hown6 hgrow6 hl6
          have H6 := Lib.hid (And.intro hown6 (pair_app H5.out.2.1 H5.out.1 H5.out.2.2.1.symm hgrow6 hl6 H5.out.2.2.2 hsz5))
          clear hown6 hgrow6 hl6
          go_wp2
          go_roundg (gk - 1)
          case measure => omega
          case rel =>
            have e1 : plainRows (L.take (i + 1)) = plainRows (L.take i) ++ (r.length - 1) :: r := by rw [HTK.out, plainRows_append]; simp [plainRows]
            have e2 : flatL (L.take (i + 1)) = (flatL (L.take i)) ++ r := by rw [HTK.out]; simp [flatL]
            have l1 : (plainRows (L.take i) ++ (r.length - 1) :: r).length = (plainRows (L.take i)).length + 1 + r.length := by simp; omega
            have l2 : ((flatL (L.take i)) ++ r).length = (flatL (L.take i)).length + r.length := by rw [List.length_append]
            refine ⟨i + 1, by omega, by go_num, ?_, ?_, H6.out.2.2.1.symm, H6.out.2.2.2, ?_, ?_, ?_⟩
            · rw [e1, l1]; exact H6.out.2.1
            · rw [e2, l2]; exact H6.out.1
            · intro q hq
              rw [HTK.out] at hq
              rcases List.mem_append.1 hq with hq | hq
              · exact HR.out q hq
              · simp at hq; subst hq; exact ⟨by omega, by omega, HBY.out.byte⟩
            · rw [e1, l1]; omega
            · rw [e2, l2]; omega
    · obtain rfl : i = n := by omega
      have hL : L.take i = L := List.take_of_length_le (by omega)
      have hRows := HR.out
      rw [hL] at hb1 hb2 hRows ⊢
      have HX' := HX.out
      rw [hL] at HX'
      clear HX
      have HX := Lib.hid HX'
      clear HX' HR
      have HR := Lib.hid hRows
      clear hRows hL
      have hpb : ∀ x ∈ plainRows L, x < 256 := plainRows_byte L HR.out
      obtain ⟨P, hP⟩ : ∃ P, P = (plainRows L).length := ⟨_, rfl⟩
      obtain ⟨Fl, hF⟩ : ∃ Fl, Fl = (flatL L).length := ⟨_, rfl⟩
      have hgm1 : getM 5000 (plainRows L) [] = .more := by
        have := getM_rows 5000 L [] [] (fun q hq => ⟨(HR.out q hq).1, (HR.out q hq).2.1⟩) (by simp only [List.length_nil]; show 0 + (flatL L).length ≤ 5000; omega)
        rw [List.append_nil, getM_nil] at this
        exact this
      have hgm2 : getM 5000 (plainRows L ++ 128 :: rs) [] = .ok (flatL L) := by
        have := getM_rows 5000 L (128 :: rs) [] (fun q hq => ⟨(HR.out q hq).1, (HR.out q hq).2.1⟩) (by simp only [List.length_nil]; show 0 + (flatL L).length ≤ 5000; omega)
        rw [getM_end, List.nil_append] at this
        exact this
      have G1 := Lib.hid hgm1
      have G2 := Lib.hid hgm2
      clear hgm1 hgm2
      obtain ⟨A3, c3, e3, hy3⟩ := own_bytes HX.out.1 hpb
      injection e3 with e31 e32 e33
      subst e31 e33
      obtain ⟨A4, c4, e4, hy4⟩ := own_bytes HX.out.2.1 (fun x hx => by
        obtain ⟨q, hq, hx⟩ := List.mem_flatten.1 hx
        exact (HR.out q hq).2.2 x hx)
      injection e4 with e41 e42 e43
      subst e41 e43
      have Y := Lib.hid (And.intro hy3 (And.intro hy4 HX.out.2.2.2))
      have HPB := Lib.hid hpb
      clear hy3 hy4 hpb HX
      rw [← hP] at hb1 Y ⊢
      rw [← hF] at hb2 Y ⊢
      have HP := Lib.hid hP
      have HFl := Lib.hid hF
      clear hP hF
      go_wp2_with fail
      refine (get_is_more Y.out.1 (by omega) G1.out).mono ?_
      rintro e w1 ⟨rfl, hq1⟩
      have H1 := Lib.hid hq1
      clear hq1
      go_wp2_with (refine wpList_app (o := ⟨some 70, _, _, _, _, _⟩) rfl (.tmp 68) (.tmp 69) rfl w1.heap.size 0 P ca (.slice (some ⟨w1.heap.size, 0, none⟩) 0 0) [] (plainRows L) a0 ?p1 ?p2 ?p3 ?p4 ?p5 ?p6 ?p7)
      case p1 => rfl
      case p2 => rfl
      case p3 => exact own_lit w1 [] (by decide)
      case p4 => exact (Y.out.1.below H1.out).below ((Below.refl _ _).alloc (Nat.le_refl _) _)
      case p5 => omega
      case p6 => simp
      intro v4 w4 hown4 hgrow4
      obtain ⟨a4, c4, rfl⟩ := own_slice hown4
      have hb4 : Below w1.heap.size w1 w4 := ((Below.refl _ _).alloc (Nat.le_refl _) _).grown hgrow4 (by simp) (fun j e => by have e : some w1.heap.size = some j := e; injection e; omega)
      have H4 := Lib.hid (And.intro hown4 hb4)
      have hsz4 := hb4.size
      clear hown4 hgrow4 hb4
      go_wp2_with (refine wpList_app (o := ⟨some 72, _, _, _, _, _⟩) rfl (.tmp 70) (.tmp 71) rfl w1.heap.size P 1 1 (.slice a4 P c4) (plainRows L) [128] (some ⟨w4.heap.size, 0, none⟩) ?q1 ?q2 ?q3 ?q4 ?q5 ?q6 ?q7)
      case q1 => rfl
      case q2 => rfl
      case q3 => exact H4.out.1.alloc _
      case q4 => exact bytes_one _ _ 128 (by omega) (by omega)
      case q5 => omega
      case q6 => simp; omega
      intro v5 w5 hown5 hgrow5
      obtain ⟨a5, c5, rfl⟩ := own_slice hown5
      have hb5 : Below w1.heap.size w1 w5 := (H4.out.2.alloc hsz4 _).grown hgrow5 (by simp; omega) (fun j e => (own_lt H4.out.1 e).1)
      have H5 := Lib.hid (And.intro hown5 hb5)
      have hsz5 := hb5.size
      clear hown5 hgrow5 hb5
      go_wp2_with (refine wpList_app (o := ⟨some 74, _, _, _, _, _⟩) rfl (.tmp 72) (.tmp 73) rfl w1.heap.size (P + 1) n2 c2 (.slice a5 (P + 1) c5) (plainRows L ++ [128]) rs A2 ?r1 ?r2 ?r3 ?r4 ?r5 ?r6 ?r7)
      case r1 => rfl
      case r2 => rfl
      case r3 => exact H5.out.1
      case r4 => exact ((H2.out.below Y.out.2.2).below H1.out).below H5.out.2
      case r5 => omega
      case r6 => exact hsz5
      intro v6 w6 hown6 hgrow6
      obtain ⟨A6, c6, rfl, hy6⟩ := own_bytes hown6 (fun x hx => by
        rcases List.mem_append.1 hx with hx | hx
        · exact HPB.out x hx
        · rcases List.mem_cons.1 hx with rfl | hx
          · omega
          · exact H2.out.byte x hx)
      have hb6 : Below w1.heap.size w1 w6 := H5.out.2.grown hgrow6 hsz5 (fun j e => (own_lt H5.out.1 e).1)
      have H6 := Lib.hid (And.intro hy6 hb6)
      clear hown6 hgrow6 hy6 hb6
      go_wp2_with fail
      refine (get_is_ok H6.out.1 (by omega) G2.out).mono ?_
      rintro e w7 ⟨A7, c7, rfl, hy7, hb7⟩
      have b1 := Y.out.2.2.trans (H1.out.mono Y.out.2.2.size)
      have hq6 := H6.out.2
      have b6 := b1.trans (hq6.mono b1.size)
      have b7 := b6.trans (hb7.mono b6.size)
      have H7 := Lib.hid (And.intro hy7 (And.intro (((Y.out.2.1.below H1.out).below hq6).below hb7) b7))
      clear hy7 hb7 b1 hq6 b6 b7
      go_wp2_with fail
      refine (awake_any _).mono ?_
      rintro e w8 ⟨rfl, hb8⟩
      have hs1 := (H7.out.1.below hb8).str
      have hs2 := (H7.out.2.1.below hb8).str
      have H8 := Lib.hid (H7.out.2.2.trans (hb8.mono H7.out.2.2.size))
      clear hb8
      go_wp2
      go_ret
      exact ⟨rfl, H8.out⟩
end Go.Proofs.Ytbghmbcipekboaa
