/- deflate: newWriter, begin, end. -/
import Derived.Test.YtnjdnldoopgcpaaDefG
import Derived.Test.YtnjdnldoopgcpaaInfL
import Derived.Test.YtnjdnldoopgcpaaInfT
import Derived.Test.YtnjdnldoopgcpaaInfV
namespace Go.Proofs.Ytnjdnldoopgcpaa
open Go.RowKit

/-- A table in memory behind what turned other blocks. -/
theorem TabAt.off {w w' : World} {P : Nat} {l : List Int} (h : TabAt w P l) (hb : Below w.heap.size w w') : TabAt w' P l :=
  h.fr (Fr.of_below hb) (fun k T cs hk _ _ e => by have := hk.lt; omega)
theorem TabAt.cell {w : World} {P : Nat} {l : List Int} (h : TabAt w P l) {g : Nat} {cs : Array Value} (hg : Whole w g 73 cs) (i : Nat) (u : Value) : TabAt (w.setCell ⟨g, i, none⟩ u) P l := by
  obtain ⟨hl, base, G, v, ht⟩ := h
  have hf : Fr (fun k => k = g) w (w.setCell ⟨g, i, none⟩ u) := (Fr.refl _ _).setB _ _
  refine ⟨hl, base, G, v, ht.sz, ht.whole.frame hf (ht.whole.apart hg (by decide)), own_frame ht.own hf (fun k hk e => ?_), ht.words.frame hf (ht.words.apart hg (by decide))⟩
  obtain ⟨-, -, cs', hc⟩ := own_lt ht.own hk
  exact hc.apart hg (by decide) e
theorem WD.cell {w : World} {B base M T : Nat} {v : Value} (h : WD w B base v M T) {g : Nat} {cs : Array Value} (hg : Whole w g 73 cs) (i : Nat) (u : Value) : WD (w.setCell ⟨g, i, none⟩ u) B base v M T := by
  have hf : Fr (fun k => k = g) w (w.setCell ⟨g, i, none⟩ u) := (Fr.refl _ _).setB _ _
  refine h.frame hf (fun e => ?_) (fun k hk e => ?_)
  · obtain ⟨cs', hw⟩ := h.whole
    exact hw.apart hg (by decide) e
  · obtain ⟨-, -, cs', hw⟩ := h.row hk
    exact hw.apart hg (by decide) e
theorem SpansAt.cell {w : World} {A : Option Addr} {n c : Nat} {l : List (Nat × Nat)} (h : SpansAt w A n c l) {g : Nat} {cs : Array Value} (hg : Whole w g 73 cs) (i : Nat) (u : Value) : SpansAt (w.setCell ⟨g, i, none⟩ u) A n c l :=
  h.fr (S := fun k => k = g) ((Fr.refl _ _).setB _ _) (fun k cs' hk e => hk.apart hg (by decide) e)
theorem WD.later {w w' : World} {B base M T : Nat} {v : Value} (h : WD w B base v M T) (hb : Below w.heap.size w w') : WD w' B base v M T :=
  h.frame (Fr.of_below hb) (fun e => by obtain ⟨cs, hw⟩ := h.whole; have := hw.lt; omega) (fun g hg e => by have := (h.row hg).2.1; omega)
/-- A writer that is being made. -/
structure WrM (x : Wx) (w0 w : World) (q1 q2 : Value) : Prop where
  whole : Whole w x.W 73 #[.pointer (some ⟨x.B, 0, none⟩), q1, q2, .func (.func 56) #[] #[.pointer (some ⟨x.V1, 0, none⟩)], .func (.func 56) #[] #[.pointer (some ⟨x.V2, 0, none⟩)]]
  wd : WD w x.B x.base (.slice none 0 0) 0 0
  b1 : Whole w x.V1 69 #[.slice x.A1 29 x.c1]
  b2 : Whole w x.V2 69 #[.slice x.A2 30 x.c2]
  s1 : SpansAt w x.A1 29 x.c1 lensT
  s2 : SpansAt w x.A2 30 x.c2 distT
  low : x.base = w0.heap.size ∧ x.base ≤ x.B ∧ x.base ≤ x.W
  below : Below w0.heap.size w0 w
theorem WrM.later {x : Wx} {w0 w w' : World} {q1 q2 : Value} (h : WrM x w0 w q1 q2) (hb : Below w.heap.size w w') : WrM x w0 w' q1 q2 :=
  ⟨h.whole.here hb, h.wd.later hb, h.b1.here hb, h.b2.here hb, h.s1.later hb, h.s2.later hb, h.low, h.below.trans (hb.mono h.below.size)⟩
theorem WrM.set1 {x : Wx} {w0 w : World} {q1 q2 : Value} (h : WrM x w0 w q1 q2) (u : Value) : WrM x w0 (w.setCell ⟨x.W, 1, none⟩ u) u q2 :=
  ⟨by have := h.whole.set 1 u; simpa using this, h.wd.cell h.whole 1 u, h.b1.away (p := ⟨x.W, 1, none⟩) (h.b1.apart h.whole (by decide)) u, h.b2.away (p := ⟨x.W, 1, none⟩) (h.b2.apart h.whole (by decide)) u, h.s1.cell h.whole 1 u, h.s2.cell h.whole 1 u, h.low, h.below.setCell (p := ⟨x.W, 1, none⟩) (by show w0.heap.size ≤ x.W; rw [← h.low.1]; exact h.low.2.2) u⟩
theorem WrM.set2 {x : Wx} {w0 w : World} {q1 q2 : Value} (h : WrM x w0 w q1 q2) (u : Value) : WrM x w0 (w.setCell ⟨x.W, 2, none⟩ u) q1 u :=
  ⟨by have := h.whole.set 2 u; simpa using this, h.wd.cell h.whole 2 u, h.b1.away (p := ⟨x.W, 2, none⟩) (h.b1.apart h.whole (by decide)) u, h.b2.away (p := ⟨x.W, 2, none⟩) (h.b2.apart h.whole (by decide)) u, h.s1.cell h.whole 2 u, h.s2.cell h.whole 2 u, h.low, h.below.setCell (p := ⟨x.W, 2, none⟩) (by show w0.heap.size ≤ x.W; rw [← h.low.1]; exact h.low.2.2) u⟩
theorem WrM.done {x : Wx} {w0 w : World} {P1 P2 : Nat} (h : WrM x w0 w (.pointer (some ⟨P1, 0, none⟩)) (.pointer (some ⟨P2, 0, none⟩))) (h1 : TabAt w P1 fixedL) (h2 : TabAt w P2 d5) : StW { x with P1 := P1, P2 := P2 } 0 0 w0 w :=
  ⟨⟨_, h.whole, h.wd, h1, h2, h.b1, h.b2, h.s1, h.s2, ⟨h.low.2.1, by show x.base ≤ _; rw [h.low.1]; exact h.below.size⟩⟩, by show Below x.base w0 w; rw [h.low.1]; exact h.below, OffW.of_below h.below⟩
/-- What newWriter answers. -/
def NwIs (w : World) (e : Ending) (w' : World) : Prop := ∃ x : Wx, e = .returned (.pointer (some ⟨x.W, 0, none⟩)) ∧ x.base = w.heap.size ∧ StW x 0 0 w w'
set_option maxRecDepth 100000 in
set_option maxHeartbeats 4000000 in
theorem newW_any (w : World) : Calls Try.prog 22 #[] w (NwIs w) := by
  go_enter Try.func22, Try.ntmps22
  go_wp2_with fail
  refine (newWriter_any w).mono ?_
  rintro e w1 ⟨rfl, hs, hb⟩
  have H1 := Lib.hid (And.intro (show WD w1 w.heap.size w.heap.size (.slice none 0 0) 0 0 from ⟨0, 0, [], hs, by decide, by simp [num], rfl, hb.size⟩) hb)
  clear hs hb
  go_wp2_with fail
  refine (lens_any _).mono ?_
  rintro e w2 ⟨A1, c1, rfl, hs, hb⟩
  have H2 := Lib.hid (And.intro hs (And.intro (H1.out.1.later hb) (H1.out.2.trans (hb.mono H1.out.2.size))))
  clear hs hb H1
  go_wp2_with fail
  refine (finder_any A1 29 c1 _).mono ?_
  rintro e w3 ⟨V1, rfl, hV, hw, hb⟩
  have H3 := Lib.hid (And.intro hw (And.intro (H2.out.1.later hb) (And.intro (H2.out.2.1.later hb) (H2.out.2.2.trans (hb.mono H2.out.2.2.size)))))
  clear hV hw hb H2
  go_wp2_with fail
  refine (dist_any _).mono ?_
  rintro e w4 ⟨A2, c2, rfl, hs, hb⟩
  have H4 := Lib.hid (And.intro hs (And.intro (H3.out.1.here hb) (And.intro (H3.out.2.1.later hb) (And.intro (H3.out.2.2.1.later hb) (H3.out.2.2.2.trans (hb.mono H3.out.2.2.2.size))))))
  clear hs hb H3
  go_wp2_with fail
  refine (finder_any A2 30 c2 _).mono ?_
  rintro e w5 ⟨V2, rfl, hV, hw, hb⟩
  have H5 := Lib.hid (And.intro hw (And.intro (H4.out.1.later hb) (And.intro (H4.out.2.1.here hb) (And.intro (H4.out.2.2.1.later hb) (And.intro (H4.out.2.2.2.1.later hb) (H4.out.2.2.2.2.trans (hb.mono H4.out.2.2.2.2.size)))))))
  clear hV hw hb H4
  obtain ⟨w6, hw6⟩ : ∃ w6, w5.alloc (.cells #[.pointer (some ⟨w.heap.size, 0, none⟩), .pointer none, .pointer none, .func (.func 56) #[] #[.pointer (some ⟨V1, 0, none⟩)], .func (.func 56) #[] #[.pointer (some ⟨V2, 0, none⟩)]] 73) = w6 := ⟨_, rfl⟩
  have hb6 : Below w5.heap.size w5 w6 := by rw [← hw6]; exact (Below.refl _ _).alloc (Nat.le_refl _) _
  have hk6 : Whole w6 w5.heap.size 73 #[.pointer (some ⟨w.heap.size, 0, none⟩), .pointer none, .pointer none, .func (.func 56) #[] #[.pointer (some ⟨V1, 0, none⟩)], .func (.func 56) #[] #[.pointer (some ⟨V2, 0, none⟩)]] := by rw [← hw6]; exact Whole.made _ _ _
  have HM := Lib.hid (show WrM ⟨w5.heap.size, w.heap.size, w.heap.size, 0, 0, V1, V2, A1, c1, A2, c2⟩ w w6 (.pointer none) (.pointer none) from
    ⟨hk6, H5.out.2.2.2.2.1.later hb6, H5.out.2.2.1.here hb6, H5.out.1.here hb6, H5.out.2.2.2.1.later hb6, H5.out.2.1.later hb6, ⟨rfl, Nat.le_refl _, H5.out.2.2.2.2.2.size⟩, H5.out.2.2.2.2.2.trans (hb6.mono H5.out.2.2.2.2.2.size)⟩)
  have HFX := Lib.hid (fixed_any w6)
  clear hb6 hk6 H5
  go_wp2_with fail
  refine HFX.out.mono ?_
  rintro e w7 ⟨v, rfl, hown, hb⟩
  obtain ⟨A3, c3, rfl, hi⟩ := IntsAt.of_own hown
  have H7 := Lib.hid (And.intro (HM.out.later hb) hi)
  clear hown hb hi HFX HM
  go_wp2_with fail
  refine (make_is _ _ _ fixedL _ H7.out.2).mono ?_
  rintro e w8 ⟨p, E, rfl, hb, hv⟩
  obtain ⟨rfl, -, P1, rfl, ht⟩ : E = 0 ∧ makeP fixedL = rtn () ∧ ∃ P, p = some P ∧ TabAt w8 P fixedL := by
    rcases hv with hv | ⟨-, -, hv⟩
    · exact hv
    · rw [makeP_fixed] at hv; exact (rtn_ne_bad hv).elim
  have h8 := H7.out.1.later hb
  have tW := h8.whole.thawed 1
  have y1 : w8.cell? ⟨w5.heap.size, 1, none⟩ = some (.pointer none) := h8.whole.reads 1
  have lW := h8.whole.lt
  obtain ⟨w9, hw9⟩ : ∃ w9, w8.setCell ⟨w5.heap.size, 1, none⟩ (.pointer (some ⟨P1, 0, none⟩)) = w9 := ⟨_, rfl⟩
  have H9 := Lib.hid (show WrM ⟨w5.heap.size, w.heap.size, w.heap.size, 0, 0, V1, V2, A1, c1, A2, c2⟩ w w9 (.pointer (some ⟨P1, 0, none⟩)) (.pointer none) ∧ TabAt w9 P1 fixedL by
    rw [← hw9]
    exact ⟨h8.set1 _, ht.cell h8.whole 1 _⟩)
  obtain ⟨wA, hwA⟩ : ∃ wA, w9.alloc (.cells #[.int .i64 5] 3) = wA := ⟨_, rfl⟩
  have hbA : Below w9.heap.size w9 wA := by rw [← hwA]; exact (Below.refl _ _).alloc (Nat.le_refl _) _
  have hwf : Whole wA w9.heap.size 3 (iiv [5]).toArray := by rw [← hwA]; exact Whole.made _ _ _
  have HA := Lib.hid (And.intro (H9.out.1.later hbA) (H9.out.2.off hbA))
  have HRP := Lib.hid (repeat_any (some ⟨w9.heap.size, 0, none⟩) 1 5 32 wA (IntsAt.of_whole hwf (by decide)) (by decide) (by decide))
  clear h8 hb ht hv hbA hwf H9
  go_wp2_with fail
  refine HRP.out.mono ?_
  rintro e wB ⟨G5, rfl, -, hw5, hb⟩
  have HB := Lib.hid (And.intro (HA.out.1.later hb) (HA.out.2.off hb))
  have HI5 := Lib.hid (IntsAt.of_whole hw5 (by decide))
  rw [List.length_replicate] at HI5
  clear hb hw5 HRP HA tW y1 lW
  go_wp2_with fail
  refine (make_is _ _ _ (List.replicate 32 5) _ HI5.out).mono ?_
  rintro e wC ⟨p, E, rfl, hb, hv⟩
  obtain ⟨rfl, -, P2, rfl, ht⟩ : E = 0 ∧ makeP (List.replicate 32 5) = rtn () ∧ ∃ P, p = some P ∧ TabAt wC P (List.replicate 32 5) := by
    rcases hv with hv | ⟨-, -, hv⟩
    · exact hv
    · rw [makeP_five] at hv; exact (rtn_ne_bad hv).elim
  have hC := HB.out.1.later hb
  have hT1 := HB.out.2.off hb
  have tW := hC.whole.thawed 2
  have y1 : wC.cell? ⟨w5.heap.size, 2, none⟩ = some (.pointer none) := hC.whole.reads 2
  have lW := hC.whole.lt
  have HD := Lib.hid (WrM.done (hC.set2 (.pointer (some ⟨P2, 0, none⟩))) (hT1.cell hC.whole 2 _) (ht.cell hC.whole 2 _))
  clear hC hb ht hv hT1 HB HI5
  go_wp2_with fail
  go_ret
  exact ⟨_, rfl, rfl, HD.out⟩
set_option maxRecDepth 100000 in
set_option maxHeartbeats 4000000 in
theorem begin_any (x : Wx) (v : Value) (w : World) (h : WrS x w v 0 0) : Calls Try.prog 23 #[.pointer (some ⟨x.W, 0, none⟩)] w fun e w' => e = .returned (.tuple #[]) ∧ StW x (catN [(1, 1), (1, 2)]) (catT [(1, 1), (1, 2)]) w w' := by
  obtain ⟨lW, c0, -, -, -, -⟩ := h.cells
  have H1 := Lib.hid (h.put (V := 1) (k := 1) (by decide) (by decide) (by decide))
  have HL := Lib.hid h.low.2
  clear h
  go_enter Try.func23, Try.ntmps23
  go_wp2_with fail
  refine H1.out.mono ?_
  rintro e w1 ⟨rfl, hs⟩
  have HS := Lib.hid hs
  obtain ⟨u, hu⟩ := hs.1
  obtain ⟨lW1, c01, -, -, -, -⟩ := hu.cells
  have H2 := Lib.hid (hu.put (V := 1) (k := 2) (by decide) (by decide) (by decide))
  clear hs hu lW c0
  go_wp2_with fail
  refine H2.out.mono ?_
  rintro e w2 ⟨rfl, hs⟩
  have HS2 := Lib.hid (HS.out.trans hs)
  clear hs
  go_wp2_with fail
  go_end0
  exact ⟨rfl, HS2.out⟩
/-- What end answers: bytes that hold the number. -/
def EndW (M T : Nat) (base : Nat) (w : World) (e : Ending) (w' : World) : Prop :=
  ∃ A c bs, e = .returned (.slice A bs.length c) ∧ Bytes w' A bs.length c bs ∧ num bs = M ∧ bs.length = (T + 7) / 8 ∧ Below base w w'
set_option maxRecDepth 100000 in
set_option maxHeartbeats 4000000 in
theorem end_any (x : Wx) (v : Value) (M T : Nat) (w : World) (h : WrS x w v M T) (hT : T ≤ 900000000) :
    Calls Try.prog 25 #[.pointer (some ⟨x.W, 0, none⟩)] w (EndW (M + 2 ^ T * wordOf fixedL 256) (T + lenOf fixedL 256) x.base w) := by
  obtain ⟨lW, c0, c1, -, -, -⟩ := h.cells
  have H1 := Lib.hid (h.drew.sym (s := 256) (by decide) (by omega))
  have hln := (fixed_len 256 (by decide)).2.2
  have HL := Lib.hid h.low.2
  clear h
  go_enter Try.func25, Try.ntmps25
  go_wp2_with fail
  go_still_tail 8, (by kernel_rfl)
  change wpList _ _ _ _ _ w.drew
  generalize hwq : w.drew = wq at H1 ⊢
  clear lW c0 c1
  go_wp2_with fail
  refine H1.out.mono ?_
  rintro e w1 ⟨rfl, hs⟩
  have HS := Lib.hid (StW.first (w := w) ((Below.refl _ _).drew) HL.out (hwq ▸ hs))
  obtain ⟨u, hu⟩ := hs.1
  obtain ⟨lW1, c01, -, -, -, -⟩ := hu.cells
  have H2 := Lib.hid (wbytes_any x.B x.base _ _ _ w1 hu.wd (by omega))
  have HW := Lib.hid hu
  clear hs hwq
  go_wp2_with fail
  refine H2.out.mono ?_
  rintro e w2 ⟨A, c, R, bs, rfl, hR, hR2, hrow, hn, hlen, hf⟩
  have HZ := Lib.hid (show Bytes w2 A bs.length c bs ∧ num bs = M + 2 ^ T * wordOf fixedL 256 ∧ bs.length = (T + lenOf fixedL 256 + 7) / 8 ∧ Below x.base w w2 from ⟨hrow.bytes, hn, hlen, HS.out.2.1.trans (Fr.below hf hu.low.2 (fun j hj hs => by
    have := (hu.wd.row hs.symm).1
    omega))⟩)
  clear hR hR2 hrow hn hlen hf hu
  go_wp2_with fail
  go_ret
  exact ⟨A, c, bs, rfl, HZ.out.1, HZ.out.2.1, HZ.out.2.2.1, HZ.out.2.2.2⟩
end Go.Proofs.Ytnjdnldoopgcpaa
/- deflate: put of any token; Put. -/
namespace Go.Proofs.Ytnjdnldoopgcpaa
open Go.RowKit

theorem wput_any (x : Wx) (t : Tk) (v : Value) (M T : Nat) (w : World) (h : WrS x w v M T) (hok : okTk t = true) (hT : T ≤ 900000000) :
    Calls Try.prog 24 #[.pointer (some ⟨x.W, 0, none⟩), .agg #[.int .i64 t.byte, .int .i64 t.len, .int .i64 t.back]] w (PwIs x (M + 2 ^ T * catN (tkF t)) (T + catT (tkF t)) w) := by
  rcases okTk_cases hok with ⟨h0, hb, b, hb2, e⟩ | ⟨hb, n, d, h1, h2, h3, h4, e, e2⟩
  · have ht : t = ⟨(b : Int), 0, 0⟩ := by cases t; simp_all
    subst ht
    have hF : tkF ⟨(b : Int), 0, 0⟩ = wordF fixedL b := by
      unfold tkF symT
      rw [if_pos rfl, if_pos rfl, List.append_nil]
      simp only [Int.toNat_natCast]
    have := put_byte x b v M T w h hb2 hT
    rw [hF, show catN (wordF fixedL b) = wordOf fixedL b by simp [wordF, catN], show catT (wordF fixedL b) = lenOf fixedL b by simp [wordF, catT]]
    exact this
  · have ht : t = ⟨0, (n : Int), (d : Int)⟩ := by cases t; simp_all
    subst ht
    exact put_match x n d v M T w h h1 h2 h3 h4 hT
theorem tkF_len {t : Tk} (hok : okTk t = true) : catT (tkF t) ≤ 44 := by
  have hs := symT_lt hok
  have h1 := (fixed_len _ hs.1).2.2
  unfold tkF
  rw [catT_app]
  rcases okTk_cases hok with ⟨h0, -⟩ | ⟨hb, n, d, a1, a2, a3, a4, e, e2⟩
  · rw [if_pos h0]
    simp [wordF, catT]
    omega
  · rw [if_neg (by omega)]
    have q1 := (lens_plc a1 a2).1
    have q2 := (dist_plc a3 a4).1
    rw [lensT_len] at q1
    rw [distT_len] at q2
    have k1 := tab_bits.1 _ q1
    have k2 := tab_bits.2 _ q2
    have k3 := (d5_len (plcT distT d) (by omega)).2.2
    unfold backF
    rw [catT_app, catT_app, e, e2]
    simp only [wordF, numF, catT, Int.toNat_natCast]
    omega
/-- The fields of the first tokens. -/
def preF (l : List Tk) (i : Nat) : List (Nat × Nat) := [(1, 1), (1, 2)] ++ ((l.take i).map tkF).flatten
theorem toksF_flat : ∀ (l : List Tk), toksF l = (l.map tkF).flatten ++ wordF fixedL 256
  | [] => rfl
  | t :: l => by rw [toksF, toksF_flat l, List.map_cons, List.flatten_cons, List.append_assoc]
theorem preF_all (l : List Tk) : preF l l.length ++ wordF fixedL 256 = allF l := by
  unfold preF allF
  rw [List.take_length, List.append_assoc, ← toksF_flat]
  rfl
theorem preF_snoc {l : List Tk} {i : Nat} {t : Tk} (h : l[i]? = some t) : preF l (i + 1) = preF l i ++ tkF t := by
  unfold preF
  rw [List.take_add_one, h, List.map_append, List.flatten_append, List.append_assoc]
  simp
theorem flat_short : ∀ (l : List Tk), l.all okTk = true → catT ((l.map tkF).flatten) ≤ 44 * l.length
  | [], _ => Nat.le_refl _
  | t :: l, h => by
    rw [List.all_cons, Bool.and_eq_true] at h
    rw [List.map_cons, List.flatten_cons, catT_app, List.length_cons]
    have := flat_short l h.2
    have := tkF_len h.1
    omega
theorem all_take {l : List Tk} (h : l.all okTk = true) (i : Nat) : (l.take i).all okTk = true := by
  rw [List.all_eq_true] at h ⊢
  exact fun x hx => h x (List.mem_of_mem_take hx)
theorem preF_short {l : List Tk} (h : l.all okTk = true) (i : Nat) : catT (preF l i) ≤ 3 + 44 * l.length := by
  unfold preF
  rw [catT_app]
  have := flat_short _ (all_take h i)
  have h2 : (l.take i).length ≤ l.length := by rw [List.length_take]; omega
  simp only [catT]
  omega
theorem all_bad {l : List Tk} {i : Nat} {t : Tk} (h : l[i]? = some t) (ht : okTk t = false) : l.all okTk = false := by
  rw [List.all_eq_false]
  exact ⟨t, List.mem_of_getElem? h, by simp [ht]⟩
/-- What Put answers. -/
def DPutIs (l : List Tk) (w : World) (e : Ending) (w' : World) : Prop :=
  (l.all okTk = true ∧ ∃ A c bs, e = .returned (.tuple #[.slice A bs.length c, .int .i64 0]) ∧ Bytes w' A bs.length c bs ∧ num bs = catN (allF l) ∧ bs.length = (catT (allF l) + 7) / 8 ∧ Below w.heap.size w w') ∨
  (l.all okTk = false ∧ e = .returned (.tuple #[.slice none 0 0, .int .i64 1]) ∧ Below w.heap.size w w')
set_option maxRecDepth 100000 in
set_option maxHeartbeats 4000000 in
theorem dput_any (A : Option Addr) (n c : Nat) (l : List Tk) (w : World) (h : TksAt w A n c l) (hn : n ≤ 1048576) :
    Calls Try.prog 10 #[.slice A n c] w (DPutIs l w) := by
  have hl := h.len
  rw [List.length_map] at hl
  have H0 := Lib.hid h
  clear h
  go_enter Try.func10, Try.ntmps10
  go_wp2_with fail
  go_loopw [11] (fun s11 wr => ∃ i : Nat, s11 = .int .i64 (i : Int) ∧ i ≤ n ∧ Hid ((l.take i).all okTk = true ∧ Below w.heap.size w wr)) (fun s11 _ => n - (intOf s11).toNat)
  case atStart => exact ⟨0, rfl, by omega, Lib.hid ⟨by simp, Below.refl _ _⟩⟩
  case round =>
    obtain ⟨i, rfl, hi, HR⟩ := hrel
    by_cases hlt : i < n
    · have d1 : decide ((i : Int) < (n : Int)) = true := decide_eq_true (by omega)
      obtain ⟨t, ht⟩ : ∃ t, l[i]? = some t := ⟨_, List.getElem?_eq_getElem (by omega)⟩
      obtain ⟨R, o, rfl, hR, k0, k1, k2⟩ := (H0.out.later HR.out.2).get ht
      have HS := Lib.hid (all_stepT ht HR.out.1)
      have HT := Lib.hid ht
      have b1 : (0 : Int) ≤ (i : Int) := by omega
      have b2 : (i : Int) < (n : Int) := by omega
      have hsz := HR.out.2.size
      clear ht
      go_wp2_with fail
      refine (valid_any t _).mono ?_
      rintro e w1 ⟨rfl, hb⟩
      have hb1 : Below w.heap.size w w1 := (HR.out.2.alloc hsz _).trans (hb.mono (by simp; omega))
      have HB1 := Lib.hid hb1
      clear hb hb1 k0 k1 k2
      cases hv : okTk t
      · have HZ := Lib.hid (all_bad HT.out hv)
        clear hv
        go_wp2_with fail
        go_ret2
        exact .inr ⟨HZ.out, rfl, HB1.out⟩
      · rw [hv] at HS
        clear hv
        go_wp2_with fail
        go_roundw
        case rel => exact ⟨i + 1, by go_num, by omega, Lib.hid ⟨HS.out, HB1.out⟩⟩
        case measure => simp [intOf]; omega
    · obtain rfl : i = n := by omega
      have d1 : decide ((i : Int) < (i : Int)) = false := by simp
      have HOK := Lib.hid (show l.all okTk = true by have := HR.out.1; rwa [← hl, List.take_length] at this)
      go_wp2_with fail
      refine (newW_any _).mono ?_
      rintro e w1 ⟨x, rfl, hbase, hst⟩
      have H1 := Lib.hid hst
      obtain ⟨v1, hv1⟩ := hst.1
      have HBG := Lib.hid (begin_any x v1 w1 hv1)
      have hxb : w.heap.size ≤ x.base := by rw [hbase]; exact HR.out.2.size
      have HB1 := Lib.hid (HR.out.2.trans (hst.2.1.mono hxb))
      clear hst hv1 hbase
      go_wp2_with fail
      refine HBG.out.mono ?_
      rintro e w2 ⟨rfl, hst⟩
      have HS2 := Lib.hid (show StW x (catN (preF l 0)) (catT (preF l 0)) w1 w2 from by unfold preF; simpa using hst)
      have HB2 := Lib.hid (HB1.out.trans (hst.2.1.mono hxb))
      clear hst HBG H1
      go_wp2_with fail
      rename World => wo
      go_loopw [24] (fun s24 wr => ∃ j : Nat, s24 = .int .i64 (j : Int) ∧ j ≤ i ∧ Hid (StW x (catN (preF l j)) (catT (preF l j)) w1 wr ∧ Below w.heap.size w wr)) (fun s24 _ => i - (intOf s24).toNat)
      case atStart => exact ⟨0, rfl, by omega, Lib.hid ⟨HS2.out, HB2.out⟩⟩
      case round =>
        obtain ⟨j, rfl, hj, HJ⟩ := hrel
        by_cases hlt : j < i
        · have d2 : decide ((j : Int) < (i : Int)) = true := decide_eq_true (by omega)
          obtain ⟨t, ht⟩ : ∃ t, l[j]? = some t := ⟨_, List.getElem?_eq_getElem (by omega)⟩
          obtain ⟨R, o, rfl, hR, k0, k1, k2⟩ := (H0.out.later HJ.out.2).get ht
          have hok : okTk t = true := List.all_eq_true.1 HOK.out t (List.mem_of_getElem? ht)
          have hT := preF_short HOK.out j
          obtain ⟨v2, hv2⟩ := HJ.out.1.1
          have hsz := HJ.out.2.size
          obtain ⟨wA, hwA⟩ : ∃ wA, wr.alloc (.cells #[.int .i64 t.byte, .int .i64 t.len, .int .i64 t.back] 35) = wA := ⟨_, rfl⟩
          have hbA : Below wr.heap.size wr wA := by rw [← hwA]; exact (Below.refl _ _).alloc (Nat.le_refl _) _
          have hkA : Whole wA wr.heap.size 35 #[.int .i64 t.byte, .int .i64 t.len, .int .i64 t.back] := by rw [← hwA]; exact Whole.made _ _ _
          have q0 : wA.cell? ⟨wr.heap.size, 0, none⟩ = some (.int .i64 t.byte) := hkA.reads 0
          have q1 : wA.cell? ⟨wr.heap.size, 1, none⟩ = some (.int .i64 t.len) := hkA.reads 1
          have q2 : wA.cell? ⟨wr.heap.size, 2, none⟩ = some (.int .i64 t.back) := hkA.reads 2
          have lA := hkA.lt
          have HP := Lib.hid (wput_any x t v2 _ _ wA (hv2.later hbA) hok (by omega))
          have HN := Lib.hid (preF_snoc ht)
          have b1 : (0 : Int) ≤ (j : Int) := by omega
          have b2 : (j : Int) < (i : Int) := by omega
          have HL := Lib.hid (And.intro hv2.low.2 hbA)
          clear ht hok hT hv2 hbA hkA
          go_wp2_with fail
          refine HP.out.mono ?_
          rintro e w3 ⟨rfl, hst⟩
          have HX := Lib.hid (show StW x (catN (preF l (j + 1))) (catT (preF l (j + 1))) w1 w3 ∧ Below w.heap.size w w3 from by
            have h3 := StW.first HL.out.2 HL.out.1 hst
            rw [HN.out, catN_app, catT_app]
            exact ⟨HJ.out.1.trans h3, HJ.out.2.trans (h3.2.1.mono hxb)⟩)
          clear hst k0 k1 k2 q0 q1 q2 lA
          go_wp2_with fail
          go_roundw
          case rel => exact ⟨j + 1, by go_num, by omega, Lib.hid ⟨HX.out.1, HX.out.2⟩⟩
          case measure => simp [intOf]; omega
        · obtain rfl : j = i := by omega
          have d2 : decide ((j : Int) < (j : Int)) = false := by simp
          obtain ⟨v2, hv2⟩ := HJ.out.1.1
          have hT := preF_short HOK.out j
          have HE := Lib.hid (end_any x v2 _ _ wr hv2 (by omega))
          clear hv2 hT
          go_wp2_with fail
          refine HE.out.mono ?_
          rintro e w3 ⟨A3, c3, bs, rfl, hby, hn3, hl3, hb⟩
          have hF := preF_all l
          rw [hl] at hF
          have HZ := Lib.hid (show Bytes w3 A3 bs.length c3 bs ∧ num bs = catN (allF l) ∧ bs.length = (catT (allF l) + 7) / 8 ∧ Below w.heap.size w w3 from ⟨hby, by
            rw [hn3, ← hF, catN_app]
            simp [wordF, catN], by
            rw [hl3, ← hF, catT_app]
            simp [wordF, catT], HJ.out.2.trans (hb.mono hxb)⟩)
          clear hby hn3 hl3 hb hF
          go_wp2_with fail
          go_ret2
          exact .inl ⟨HOK.out, A3, c3, bs, rfl, HZ.out.1, HZ.out.2.1, HZ.out.2.2.1, HZ.out.2.2.2⟩
end Go.Proofs.Ytnjdnldoopgcpaa
