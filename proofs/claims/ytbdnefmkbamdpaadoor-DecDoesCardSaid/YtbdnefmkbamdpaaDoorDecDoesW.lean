/- The walk of DecDoes. -/
import Derived.Test.YtbdnefmkbamdpaaDoorDecReadsW
import Derived.Test.YtbdnefmkbamdpaaDoorRefAdd
import Derived.Test.YtbdnefmkbamdpaaDoorRefMul
import Derived.Test.YtbdnefmkbamdpaaDoorRefCmp
import Derived.Test.YtbdnefmkbamdpaaDoorRefPrintL
import Derived.Test.YtbdnefmkbamdpaaDoorDecNeg
import Derived.Deep.RegionHeld3
namespace Go.Proofs.YtbdnefmkbamdpaaDoor
open Go.RowKit Dec

/-- Numbers in blocks of their own. -/
def Held (w W : World) (L : List (Nat × Int × Int)) : Prop := Below w.heap.size w W ∧ ∀ x ∈ L, Whole W x.1 23 #[.int .i64 x.2.1, .int .i64 x.2.2]
theorem Held.start (w : World) : Held w w [] := ⟨Below.refl _ _, fun x hx => by cases hx⟩
theorem Held.here {w W W' : World} {L : List (Nat × Int × Int)} (h : Held w W L) (hb : Below W.heap.size W W') : Held w W' L :=
  ⟨h.1.trans (hb.mono h.1.size), fun x hx => (h.2 x hx).here hb⟩
theorem Held.add {w W : World} {L : List (Nat × Int × Int)} (h : Held w W L) (M S : Int) : Held w (W.alloc (.cells #[.int .i64 M, .int .i64 S] 23)) ((W.heap.size, M, S) :: L) :=
  ⟨h.1.alloc h.1.size _, fun x hx => by
    rcases List.mem_cons.1 hx with rfl | hx
    · exact Whole.made _ _ _
    · exact (h.2 x hx).old _⟩
/-- What Print answers. -/
def TextIs (m s : Int) (r : ByteArray) (E : Int) : Prop := (Valid m s ∧ r.data.toList = printL m s.toNat ∧ E = 0) ∨ (¬ Valid m s ∧ r = ⟨#[]⟩ ∧ E = 1)
theorem TextIs.unique {m s : Int} {r r' : ByteArray} {E E' : Int} (h : TextIs m s r E) (h' : TextIs m s r' E') : r' = r ∧ E' = E := by
  rcases h with ⟨a, b, rfl⟩ | ⟨a, rfl, rfl⟩ <;> rcases h' with ⟨a', b', rfl⟩ | ⟨a', rfl, rfl⟩
  · refine ⟨?_, rfl⟩
    cases r; cases r'
    congr 1
    exact Array.toList_inj.1 (b'.trans b.symm)
  · exact absurd a a'
  · exact absurd a' a
  · exact ⟨rfl, rfl⟩
/-- What an operation of an exact value answers. -/
def OpIs (p : Prop) (v : Int) (t : Nat) (M S E : Int) : Prop := (p ∧ Denotes v t M S E) ∨ (¬ p ∧ M = 0 ∧ S = 0 ∧ E = 1)
theorem OpIs.unique {p : Prop} {v : Int} {t : Nat} {M S E M' S' E' : Int} (h : OpIs p v t M S E) (h' : OpIs p v t M' S' E') : M' = M ∧ S' = S ∧ E' = E := by
  rcases h with ⟨a, b⟩ | ⟨a, rfl, rfl, rfl⟩ <;> rcases h' with ⟨a', b'⟩ | ⟨a', rfl, rfl, rfl⟩
  · obtain ⟨rfl, rfl, rfl⟩ := b.unique b'
    exact ⟨rfl, rfl, rfl⟩
  · exact absurd a a'
  · exact absurd a' a
  · exact ⟨rfl, rfl, rfl⟩
/-- What Compare and Neg answer. -/
def OrdIs (m s m' s' X E : Int) : Prop := ((Valid m s ∧ Valid m' s') ∧ X = Lib.compareInt (val9 m s) (val9 m' s') ∧ E = 0) ∨ (¬ (Valid m s ∧ Valid m' s') ∧ X = 0 ∧ E = 1)
theorem OrdIs.unique {m s m' s' X E X' E' : Int} (h : OrdIs m s m' s' X E) (h' : OrdIs m s m' s' X' E') : X' = X ∧ E' = E := by
  rcases h with ⟨a, rfl, rfl⟩ | ⟨a, rfl, rfl⟩ <;> rcases h' with ⟨a', rfl, rfl⟩ | ⟨a', rfl, rfl⟩
  · exact ⟨rfl, rfl⟩
  · exact absurd a a'
  · exact absurd a' a
  · exact ⟨rfl, rfl⟩
def NegIs (m s M S E : Int) : Prop := (Valid m s ∧ M = -m ∧ S = s ∧ E = 0) ∨ (¬ Valid m s ∧ M = 0 ∧ S = 0 ∧ E = 1)
theorem NegIs.unique {m s M S E M' S' E' : Int} (h : NegIs m s M S E) (h' : NegIs m s M' S' E') : M' = M ∧ S' = S ∧ E' = E := by
  rcases h with ⟨a, rfl, rfl, rfl⟩ | ⟨a, rfl, rfl, rfl⟩ <;> rcases h' with ⟨a', rfl, rfl, rfl⟩ | ⟨a', rfl, rfl, rfl⟩
  · exact ⟨rfl, rfl, rfl⟩
  · exact absurd a a'
  · exact absurd a' a
  · exact ⟨rfl, rfl, rfl⟩
theorem valid_nat {m s : Int} (h : Valid m s) : ∃ k : Nat, s = k := ⟨s.toNat, by have := h.2.2.1; omega⟩

theorem print_any (m s : Int) (w : World) (h : Ready w) : Calls Tryd.prog 10 #[.agg #[.int .i64 m, .int .i64 s]] w fun e w' => ∃ r E, TextIs m s r E ∧ e = .returned (.tuple #[.string r, .int .i64 E]) ∧ Below w.heap.size w w' := by
  by_cases hv : Valid m s
  · obtain ⟨k, rfl⟩ := valid_nat hv
    exact (print_is m k w h hv _ rfl).mono fun e w' ⟨r, he, hr, hb⟩ => ⟨r, 0, .inl ⟨hv, by rw [Int.toNat_natCast]; exact hr, rfl⟩, he, hb⟩
  · exact (print_bad m s w hv).mono fun e w' ⟨he, hb⟩ => ⟨_, 1, .inr ⟨hv, rfl, rfl⟩, he, hb⟩
theorem refprint_any (m s : Int) (w : World) : Calls Tryd.prog 11 #[.agg #[.int .i64 m, .int .i64 s]] w fun e w' => ∃ r E, TextIs m s r E ∧ e = .returned (.tuple #[.string r, .int .i64 E]) ∧ Below w.heap.size w w' := by
  by_cases hv : Valid m s
  · obtain ⟨k, rfl⟩ := valid_nat hv
    exact (refprint_is m k w hv).mono fun e w' ⟨r, he, hr, hb⟩ => ⟨r, 0, .inl ⟨hv, by rw [Int.toNat_natCast]; exact hr, rfl⟩, he, hb⟩
  · exact (refprint_bad m s w hv).mono fun e w' ⟨he, hb⟩ => ⟨_, 1, .inr ⟨hv, rfl, rfl⟩, he, hb⟩
theorem add_any (m s m' s' : Int) (w : World) : Calls Tryd.prog 12 #[.agg #[.int .i64 m, .int .i64 s], .agg #[.int .i64 m', .int .i64 s']] w fun e w' => ∃ M S E, OpIs (Valid m s ∧ Valid m' s') (val9 m s + val9 m' s') 9 M S E ∧ IsDec M S E w e w' := by
  by_cases hv : Valid m s ∧ Valid m' s'
  · exact (add_ok m m' s s' w hv.1 hv.2).mono fun e w' ⟨M, S, E, he, hd, hb⟩ => ⟨M, S, E, .inl ⟨hv, hd⟩, he, hb⟩
  · exact (add_bad m s m' s' w hv).mono fun e w' ⟨he, hb⟩ => ⟨0, 0, 1, .inr ⟨hv, rfl, rfl, rfl⟩, he, hb⟩
theorem refadd_any (m s m' s' : Int) (w : World) : Calls Tryd.prog 13 #[.agg #[.int .i64 m, .int .i64 s], .agg #[.int .i64 m', .int .i64 s']] w fun e w' => ∃ M S E, OpIs (Valid m s ∧ Valid m' s') (val9 m s + val9 m' s') 9 M S E ∧ IsDec M S E w e w' := by
  by_cases hv : Valid m s ∧ Valid m' s'
  · obtain ⟨k, rfl⟩ := valid_nat hv.1
    obtain ⟨k', rfl⟩ := valid_nat hv.2
    exact (refadd_ok m m' k k' w hv.1 hv.2).mono fun e w' ⟨M, S, E, he, hd, hb⟩ => ⟨M, S, E, .inl ⟨hv, hd⟩, he, hb⟩
  · exact (refadd_bad m s m' s' w hv).mono fun e w' ⟨he, hb⟩ => ⟨0, 0, 1, .inr ⟨hv, rfl, rfl, rfl⟩, he, hb⟩
theorem mul_any (m s m' s' : Int) (w : World) : Calls Tryd.prog 14 #[.agg #[.int .i64 m, .int .i64 s], .agg #[.int .i64 m', .int .i64 s']] w fun e w' => ∃ M S E, OpIs (Valid m s ∧ Valid m' s') (val9 m s * val9 m' s') 18 M S E ∧ IsDec M S E w e w' := by
  by_cases hv : Valid m s ∧ Valid m' s'
  · exact (mul_ok m m' s s' w hv.1 hv.2).mono fun e w' ⟨M, S, E, he, hd, hb⟩ => ⟨M, S, E, .inl ⟨hv, hd⟩, he, hb⟩
  · exact (mul_bad m s m' s' w hv).mono fun e w' ⟨he, hb⟩ => ⟨0, 0, 1, .inr ⟨hv, rfl, rfl, rfl⟩, he, hb⟩
theorem refmul_any (m s m' s' : Int) (w : World) : Calls Tryd.prog 15 #[.agg #[.int .i64 m, .int .i64 s], .agg #[.int .i64 m', .int .i64 s']] w fun e w' => ∃ M S E, OpIs (Valid m s ∧ Valid m' s') (val9 m s * val9 m' s') 18 M S E ∧ IsDec M S E w e w' := by
  by_cases hv : Valid m s ∧ Valid m' s'
  · obtain ⟨k, rfl⟩ := valid_nat hv.1
    obtain ⟨k', rfl⟩ := valid_nat hv.2
    exact (refmul_ok m m' k k' w hv.1 hv.2).mono fun e w' ⟨M, S, E, he, hd, hb⟩ => ⟨M, S, E, .inl ⟨hv, hd⟩, he, hb⟩
  · exact (refmul_bad m s m' s' w hv).mono fun e w' ⟨he, hb⟩ => ⟨0, 0, 1, .inr ⟨hv, rfl, rfl, rfl⟩, he, hb⟩
theorem cmp_any (m s m' s' : Int) (w : World) : Calls Tryd.prog 16 #[.agg #[.int .i64 m, .int .i64 s], .agg #[.int .i64 m', .int .i64 s']] w fun e w' => ∃ X E, OrdIs m s m' s' X E ∧ e = .returned (.tuple #[.int .i64 X, .int .i64 E]) ∧ Below w.heap.size w w' := by
  by_cases hv : Valid m s ∧ Valid m' s'
  · exact (cmp_ok m m' s s' w hv.1 hv.2).mono fun e w' ⟨he, hb⟩ => ⟨_, 0, .inl ⟨hv, rfl, rfl⟩, he, hb⟩
  · exact (cmp_bad m s m' s' w hv).mono fun e w' ⟨he, hb⟩ => ⟨0, 1, .inr ⟨hv, rfl, rfl⟩, he, hb⟩
theorem refcmp_any (m s m' s' : Int) (w : World) : Calls Tryd.prog 17 #[.agg #[.int .i64 m, .int .i64 s], .agg #[.int .i64 m', .int .i64 s']] w fun e w' => ∃ X E, OrdIs m s m' s' X E ∧ e = .returned (.tuple #[.int .i64 X, .int .i64 E]) ∧ Below w.heap.size w w' := by
  by_cases hv : Valid m s ∧ Valid m' s'
  · obtain ⟨k, rfl⟩ := valid_nat hv.1
    obtain ⟨k', rfl⟩ := valid_nat hv.2
    exact (refcmp_ok m m' k k' w hv.1 hv.2).mono fun e w' ⟨he, hb⟩ => ⟨_, 0, .inl ⟨hv, rfl, rfl⟩, he, hb⟩
  · exact (refcmp_bad m s m' s' w hv).mono fun e w' ⟨he, hb⟩ => ⟨0, 1, .inr ⟨hv, rfl, rfl⟩, he, hb⟩
theorem neg_any (m s : Int) (w : World) : Calls Tryd.prog 18 #[.agg #[.int .i64 m, .int .i64 s]] w fun e w' => ∃ M S E, NegIs m s M S E ∧ IsDec M S E w e w' := by
  by_cases hv : Valid m s
  · exact (neg_ok m s w hv).mono fun e w' ⟨he, hb⟩ => ⟨-m, s, 0, .inl ⟨hv, rfl, rfl, rfl⟩, he, hb⟩
  · exact (neg_bad m s w hv).mono fun e w' ⟨he, hb⟩ => ⟨0, 0, 1, .inr ⟨hv, rfl, rfl, rfl⟩, he, hb⟩
theorem refneg_any (m s : Int) (w : World) : Calls Tryd.prog 19 #[.agg #[.int .i64 m, .int .i64 s]] w fun e w' => ∃ M S E, NegIs m s M S E ∧ IsDec M S E w e w' := by
  by_cases hv : Valid m s
  · exact (refneg_ok m s w hv).mono fun e w' ⟨he, hb⟩ => ⟨-m, s, 0, .inl ⟨hv, rfl, rfl, rfl⟩, he, hb⟩
  · exact (refneg_bad m s w hv).mono fun e w' ⟨he, hb⟩ => ⟨0, 0, 1, .inr ⟨hv, rfl, rfl, rfl⟩, he, hb⟩
theorem check_any (m s : Int) (w : World) : Calls Tryd.prog 20 #[.agg #[.int .i64 m, .int .i64 s]] w fun e w' => ∃ E : Int, (E == 0) = decide (Valid m s) ∧ e = .returned (.int .i64 E) ∧ Below w.heap.size w w' := by
  by_cases hv : Valid m s
  · exact (check_ok m s w hv).mono fun e w' ⟨he, hb⟩ => ⟨0, by rw [decide_eq_true hv]; rfl, he, hb⟩
  · exact (check_bad m s w hv).mono fun e w' ⟨he, hb⟩ => ⟨1, by rw [decide_eq_false hv]; rfl, he, hb⟩
theorem Held.two (w : World) (m s m' s' : Int) : Held w ((w.alloc (.cells #[.int .i64 m, .int .i64 s] 23)).alloc (.cells #[.int .i64 m', .int .i64 s'] 23)) [(w.heap.size + 1, m', s'), (w.heap.size, m, s)] := by
  have h := ((Held.start w).add m s).add m' s'
  have e : (w.alloc (.cells #[.int .i64 m, .int .i64 s] 23)).heap.size = w.heap.size + 1 := by simp
  rw [e] at h
  exact h
theorem Held.drew {w W : World} {L : List (Nat × Int × Int)} (h : Held w W L) : Held w W.drew L := ⟨h.1.drew, fun x hx => (h.2 x hx).here (Below.refl _ _).drew⟩
theorem Held.all {w v : World} {g h c d i k q u : Nat} {m s m' s' M2 S2 M2' S2' M3 S3 M3' S3' M5 S5 M5' S5' : Int}
    (hh : Held w v [(u, M5', S5'), (q, M5, S5), (k, M3', S3'), (i, M3, S3), (d, M2', S2'), (c, M2, S2), (h, m', s'), (g, m, s)]) :
    v.cell? ⟨g, 0, none⟩ = some (.int .i64 m) ∧ v.cell? ⟨g, 1, none⟩ = some (.int .i64 s) ∧
    v.cell? ⟨c, 0, none⟩ = some (.int .i64 M2) ∧ v.cell? ⟨c, 1, none⟩ = some (.int .i64 S2) ∧ v.cell? ⟨d, 0, none⟩ = some (.int .i64 M2') ∧ v.cell? ⟨d, 1, none⟩ = some (.int .i64 S2') ∧
    v.cell? ⟨i, 0, none⟩ = some (.int .i64 M3) ∧ v.cell? ⟨i, 1, none⟩ = some (.int .i64 S3) ∧ v.cell? ⟨k, 0, none⟩ = some (.int .i64 M3') ∧ v.cell? ⟨k, 1, none⟩ = some (.int .i64 S3') ∧
    v.cell? ⟨q, 0, none⟩ = some (.int .i64 M5) ∧ v.cell? ⟨q, 1, none⟩ = some (.int .i64 S5) ∧ v.cell? ⟨u, 0, none⟩ = some (.int .i64 M5') ∧ v.cell? ⟨u, 1, none⟩ = some (.int .i64 S5') := by
  have f : ∀ x ∈ [(u, M5', S5'), (q, M5, S5), (k, M3', S3'), (i, M3, S3), (d, M2', S2'), (c, M2, S2), (h, m', s'), (g, m, s)], v.cell? ⟨x.1, 0, none⟩ = some (.int .i64 x.2.1) ∧ v.cell? ⟨x.1, 1, none⟩ = some (.int .i64 x.2.2) := fun x hx => ⟨(hh.2 x hx).reads 0, (hh.2 x hx).reads 1⟩
  have e1 := f (g, m, s) (by simp)
  have e2 := f (c, M2, S2) (by simp)
  have e3 := f (d, M2', S2') (by simp)
  have e4 := f (i, M3, S3) (by simp)
  have e5 := f (k, M3', S3') (by simp)
  have e6 := f (q, M5, S5) (by simp)
  have e7 := f (u, M5', S5') (by simp)
  exact ⟨e1.1, e1.2, e2.1, e2.2, e3.1, e3.2, e4.1, e4.2, e5.1, e5.2, e6.1, e6.2, e7.1, e7.2⟩
set_option maxRecDepth 100000 in
set_option maxHeartbeats 4000000 in
theorem does_any (m s m' s' : Int) (w : World) (h : Ready w) :
    Calls Tryd.prog 4 #[.agg #[.int .i64 m, .int .i64 s], .agg #[.int .i64 m', .int .i64 s']] w fun e w' => e = .returned (.bool true) ∧ Below w.heap.size w w' := by
  have HR := Lib.hid h
  clear h
  have H0 := Lib.hid (Held.two w m s m' s')
  go_enter Tryd.func4, Tryd.ntmps4
  go_wp2_with fail
  refine (print_any m s _ (HR.out.later H0.out.1)).mono ?_
  rintro e w1 ⟨r1, E1, hp, rfl, hb⟩
  have H1 := Lib.hid ((H0.out).here hb)
  have HP := Lib.hid hp
  clear hp hb H0
  have a0 : w1.cell? ⟨w.heap.size, 0, none⟩ = some (.int .i64 m) := (H1.out.2 (w.heap.size, m, s) (by simp)).reads 0
  have a1 : w1.cell? ⟨w.heap.size, 1, none⟩ = some (.int .i64 s) := (H1.out.2 (w.heap.size, m, s) (by simp)).reads 1
  have b0 : w1.cell? ⟨w.heap.size + 1, 0, none⟩ = some (.int .i64 m') := (H1.out.2 (w.heap.size + 1, m', s') (by simp)).reads 0
  have b1 : w1.cell? ⟨w.heap.size + 1, 1, none⟩ = some (.int .i64 s') := (H1.out.2 (w.heap.size + 1, m', s') (by simp)).reads 1
  have la : w.heap.size < w1.heap.size := (H1.out.2 (w.heap.size, m, s) (by simp)).lt
  have lb : w.heap.size + 1 < w1.heap.size := (H1.out.2 (w.heap.size + 1, m', s') (by simp)).lt
  go_wp2_with fail
  refine (refprint_any m s _).mono ?_
  rintro e w2 ⟨r1', E1', hp, rfl, hb⟩
  have H2 := Lib.hid ((H1.out).here hb)
  obtain ⟨rfl, rfl⟩ := TextIs.unique HP.out hp
  clear hp hb HP H1 a0 a1 b0 b1 la lb
  have a0 : w2.cell? ⟨w.heap.size, 0, none⟩ = some (.int .i64 m) := (H2.out.2 (w.heap.size, m, s) (by simp)).reads 0
  have a1 : w2.cell? ⟨w.heap.size, 1, none⟩ = some (.int .i64 s) := (H2.out.2 (w.heap.size, m, s) (by simp)).reads 1
  have b0 : w2.cell? ⟨w.heap.size + 1, 0, none⟩ = some (.int .i64 m') := (H2.out.2 (w.heap.size + 1, m', s') (by simp)).reads 0
  have b1 : w2.cell? ⟨w.heap.size + 1, 1, none⟩ = some (.int .i64 s') := (H2.out.2 (w.heap.size + 1, m', s') (by simp)).reads 1
  have la : w.heap.size < w2.heap.size := (H2.out.2 (w.heap.size, m, s) (by simp)).lt
  have lb : w.heap.size + 1 < w2.heap.size := (H2.out.2 (w.heap.size + 1, m', s') (by simp)).lt
  go_wp2_with fail
  refine (add_any m s m' s' _).mono ?_
  rintro e w3 ⟨M2, S2, E2, hp, rfl, hb⟩
  have H3 := Lib.hid ((H2.out).here hb)
  have HP := Lib.hid hp
  clear hp hb H2 a0 a1 b0 b1 la lb
  have a0 : w3.cell? ⟨w.heap.size, 0, none⟩ = some (.int .i64 m) := (H3.out.2 (w.heap.size, m, s) (by simp)).reads 0
  have a1 : w3.cell? ⟨w.heap.size, 1, none⟩ = some (.int .i64 s) := (H3.out.2 (w.heap.size, m, s) (by simp)).reads 1
  have b0 : w3.cell? ⟨w.heap.size + 1, 0, none⟩ = some (.int .i64 m') := (H3.out.2 (w.heap.size + 1, m', s') (by simp)).reads 0
  have b1 : w3.cell? ⟨w.heap.size + 1, 1, none⟩ = some (.int .i64 s') := (H3.out.2 (w.heap.size + 1, m', s') (by simp)).reads 1
  have la : w.heap.size < w3.heap.size := (H3.out.2 (w.heap.size, m, s) (by simp)).lt
  have lb : w.heap.size + 1 < w3.heap.size := (H3.out.2 (w.heap.size + 1, m', s') (by simp)).lt
  go_wp2_with fail
  refine (refadd_any m s m' s' _).mono ?_
  rintro e w4 ⟨M2', S2', E2', hp, rfl, hb⟩
  have H4 := Lib.hid ((H3.out.add M2 S2).here hb)
  obtain ⟨rfl, rfl, rfl⟩ := OpIs.unique HP.out hp
  clear hp hb HP H3 a0 a1 b0 b1 la lb
  have a0 : w4.cell? ⟨w.heap.size, 0, none⟩ = some (.int .i64 m) := (H4.out.2 (w.heap.size, m, s) (by simp)).reads 0
  have a1 : w4.cell? ⟨w.heap.size, 1, none⟩ = some (.int .i64 s) := (H4.out.2 (w.heap.size, m, s) (by simp)).reads 1
  have b0 : w4.cell? ⟨w.heap.size + 1, 0, none⟩ = some (.int .i64 m') := (H4.out.2 (w.heap.size + 1, m', s') (by simp)).reads 0
  have b1 : w4.cell? ⟨w.heap.size + 1, 1, none⟩ = some (.int .i64 s') := (H4.out.2 (w.heap.size + 1, m', s') (by simp)).reads 1
  have la : w.heap.size < w4.heap.size := (H4.out.2 (w.heap.size, m, s) (by simp)).lt
  have lb : w.heap.size + 1 < w4.heap.size := (H4.out.2 (w.heap.size + 1, m', s') (by simp)).lt
  go_wp2_with fail
  refine (mul_any m s m' s' _).mono ?_
  rintro e w5 ⟨M3, S3, E3, hp, rfl, hb⟩
  have H5 := Lib.hid ((H4.out.add M2' S2').here hb)
  have HP := Lib.hid hp
  clear hp hb H4 a0 a1 b0 b1 la lb
  have a0 : w5.cell? ⟨w.heap.size, 0, none⟩ = some (.int .i64 m) := (H5.out.2 (w.heap.size, m, s) (by simp)).reads 0
  have a1 : w5.cell? ⟨w.heap.size, 1, none⟩ = some (.int .i64 s) := (H5.out.2 (w.heap.size, m, s) (by simp)).reads 1
  have b0 : w5.cell? ⟨w.heap.size + 1, 0, none⟩ = some (.int .i64 m') := (H5.out.2 (w.heap.size + 1, m', s') (by simp)).reads 0
  have b1 : w5.cell? ⟨w.heap.size + 1, 1, none⟩ = some (.int .i64 s') := (H5.out.2 (w.heap.size + 1, m', s') (by simp)).reads 1
  have la : w.heap.size < w5.heap.size := (H5.out.2 (w.heap.size, m, s) (by simp)).lt
  have lb : w.heap.size + 1 < w5.heap.size := (H5.out.2 (w.heap.size + 1, m', s') (by simp)).lt
  go_wp2_with fail
  refine (refmul_any m s m' s' _).mono ?_
  rintro e w6 ⟨M3', S3', E3', hp, rfl, hb⟩
  have H6 := Lib.hid ((H5.out.add M3 S3).here hb)
  obtain ⟨rfl, rfl, rfl⟩ := OpIs.unique HP.out hp
  clear hp hb HP H5 a0 a1 b0 b1 la lb
  have a0 : w6.cell? ⟨w.heap.size, 0, none⟩ = some (.int .i64 m) := (H6.out.2 (w.heap.size, m, s) (by simp)).reads 0
  have a1 : w6.cell? ⟨w.heap.size, 1, none⟩ = some (.int .i64 s) := (H6.out.2 (w.heap.size, m, s) (by simp)).reads 1
  have b0 : w6.cell? ⟨w.heap.size + 1, 0, none⟩ = some (.int .i64 m') := (H6.out.2 (w.heap.size + 1, m', s') (by simp)).reads 0
  have b1 : w6.cell? ⟨w.heap.size + 1, 1, none⟩ = some (.int .i64 s') := (H6.out.2 (w.heap.size + 1, m', s') (by simp)).reads 1
  have la : w.heap.size < w6.heap.size := (H6.out.2 (w.heap.size, m, s) (by simp)).lt
  have lb : w.heap.size + 1 < w6.heap.size := (H6.out.2 (w.heap.size + 1, m', s') (by simp)).lt
  go_wp2_with fail
  refine (cmp_any m s m' s' _).mono ?_
  rintro e w7 ⟨X4, E4, hp, rfl, hb⟩
  have H7 := Lib.hid ((H6.out.add M3' S3').here hb)
  have HP := Lib.hid hp
  clear hp hb H6 a0 a1 b0 b1 la lb
  have a0 : w7.cell? ⟨w.heap.size, 0, none⟩ = some (.int .i64 m) := (H7.out.2 (w.heap.size, m, s) (by simp)).reads 0
  have a1 : w7.cell? ⟨w.heap.size, 1, none⟩ = some (.int .i64 s) := (H7.out.2 (w.heap.size, m, s) (by simp)).reads 1
  have b0 : w7.cell? ⟨w.heap.size + 1, 0, none⟩ = some (.int .i64 m') := (H7.out.2 (w.heap.size + 1, m', s') (by simp)).reads 0
  have b1 : w7.cell? ⟨w.heap.size + 1, 1, none⟩ = some (.int .i64 s') := (H7.out.2 (w.heap.size + 1, m', s') (by simp)).reads 1
  have la : w.heap.size < w7.heap.size := (H7.out.2 (w.heap.size, m, s) (by simp)).lt
  have lb : w.heap.size + 1 < w7.heap.size := (H7.out.2 (w.heap.size + 1, m', s') (by simp)).lt
  go_wp2_with fail
  refine (refcmp_any m s m' s' _).mono ?_
  rintro e w8 ⟨X4', E4', hp, rfl, hb⟩
  have H8 := Lib.hid ((H7.out).here hb)
  obtain ⟨rfl, rfl⟩ := OrdIs.unique HP.out hp
  clear hp hb HP H7 a0 a1 b0 b1 la lb
  have a0 : w8.cell? ⟨w.heap.size, 0, none⟩ = some (.int .i64 m) := (H8.out.2 (w.heap.size, m, s) (by simp)).reads 0
  have a1 : w8.cell? ⟨w.heap.size, 1, none⟩ = some (.int .i64 s) := (H8.out.2 (w.heap.size, m, s) (by simp)).reads 1
  have b0 : w8.cell? ⟨w.heap.size + 1, 0, none⟩ = some (.int .i64 m') := (H8.out.2 (w.heap.size + 1, m', s') (by simp)).reads 0
  have b1 : w8.cell? ⟨w.heap.size + 1, 1, none⟩ = some (.int .i64 s') := (H8.out.2 (w.heap.size + 1, m', s') (by simp)).reads 1
  have la : w.heap.size < w8.heap.size := (H8.out.2 (w.heap.size, m, s) (by simp)).lt
  have lb : w.heap.size + 1 < w8.heap.size := (H8.out.2 (w.heap.size + 1, m', s') (by simp)).lt
  go_wp2_with fail
  refine (neg_any m s _).mono ?_
  rintro e w9 ⟨M5, S5, E5, hp, rfl, hb⟩
  have H9 := Lib.hid ((H8.out).here hb)
  have HP := Lib.hid hp
  clear hp hb H8 a0 a1 b0 b1 la lb
  have a0 : w9.cell? ⟨w.heap.size, 0, none⟩ = some (.int .i64 m) := (H9.out.2 (w.heap.size, m, s) (by simp)).reads 0
  have a1 : w9.cell? ⟨w.heap.size, 1, none⟩ = some (.int .i64 s) := (H9.out.2 (w.heap.size, m, s) (by simp)).reads 1
  have b0 : w9.cell? ⟨w.heap.size + 1, 0, none⟩ = some (.int .i64 m') := (H9.out.2 (w.heap.size + 1, m', s') (by simp)).reads 0
  have b1 : w9.cell? ⟨w.heap.size + 1, 1, none⟩ = some (.int .i64 s') := (H9.out.2 (w.heap.size + 1, m', s') (by simp)).reads 1
  have la : w.heap.size < w9.heap.size := (H9.out.2 (w.heap.size, m, s) (by simp)).lt
  have lb : w.heap.size + 1 < w9.heap.size := (H9.out.2 (w.heap.size + 1, m', s') (by simp)).lt
  go_wp2_with fail
  refine (refneg_any m s _).mono ?_
  rintro e w10 ⟨M5', S5', E5', hp, rfl, hb⟩
  have H10 := Lib.hid ((H9.out.add M5 S5).here hb)
  obtain ⟨rfl, rfl, rfl⟩ := NegIs.unique HP.out hp
  clear hp hb HP H9 a0 a1 b0 b1 la lb
  have a0 : w10.cell? ⟨w.heap.size, 0, none⟩ = some (.int .i64 m) := (H10.out.2 (w.heap.size, m, s) (by simp)).reads 0
  have a1 : w10.cell? ⟨w.heap.size, 1, none⟩ = some (.int .i64 s) := (H10.out.2 (w.heap.size, m, s) (by simp)).reads 1
  have b0 : w10.cell? ⟨w.heap.size + 1, 0, none⟩ = some (.int .i64 m') := (H10.out.2 (w.heap.size + 1, m', s') (by simp)).reads 0
  have b1 : w10.cell? ⟨w.heap.size + 1, 1, none⟩ = some (.int .i64 s') := (H10.out.2 (w.heap.size + 1, m', s') (by simp)).reads 1
  have la : w.heap.size < w10.heap.size := (H10.out.2 (w.heap.size, m, s) (by simp)).lt
  have lb : w.heap.size + 1 < w10.heap.size := (H10.out.2 (w.heap.size + 1, m', s') (by simp)).lt
  go_wp2_with fail
  have HH := H10.out.add M5' S5'
  clear H10 a0 a1 b0 b1 la lb
  generalize w10.alloc (.cells #[.int .i64 M5', .int .i64 S5'] 23) = W at *
  go_region_held3 (fun v => v.cell? ⟨w.heap.size, 0, none⟩ = some (.int .i64 m) ∧ v.cell? ⟨w.heap.size, 1, none⟩ = some (.int .i64 s) ∧
      v.cell? ⟨w3.heap.size, 0, none⟩ = some (.int .i64 M2') ∧ v.cell? ⟨w3.heap.size, 1, none⟩ = some (.int .i64 S2') ∧ v.cell? ⟨w4.heap.size, 0, none⟩ = some (.int .i64 M2') ∧ v.cell? ⟨w4.heap.size, 1, none⟩ = some (.int .i64 S2') ∧
      v.cell? ⟨w5.heap.size, 0, none⟩ = some (.int .i64 M3') ∧ v.cell? ⟨w5.heap.size, 1, none⟩ = some (.int .i64 S3') ∧ v.cell? ⟨w6.heap.size, 0, none⟩ = some (.int .i64 M3') ∧ v.cell? ⟨w6.heap.size, 1, none⟩ = some (.int .i64 S3') ∧
      v.cell? ⟨w9.heap.size, 0, none⟩ = some (.int .i64 M5') ∧ v.cell? ⟨w9.heap.size, 1, none⟩ = some (.int .i64 S5') ∧ v.cell? ⟨w10.heap.size, 0, none⟩ = some (.int .i64 M5') ∧ v.cell? ⟨w10.heap.size, 1, none⟩ = some (.int .i64 S5'))
    (first | with_reducible exact Held.all HH | with_reducible exact Held.all (Held.drew HH))
    (first
      | (go_at_call 9; refine (awake_any _ (HR.out.later (Held.drew HH).1)).mono ?_; rintro e v ⟨rfl, kk⟩; (first | (with_reducible have HH := Held.here (Held.drew HH) kk) | (with_reducible have HH := Held.here HH kk)))
      | (go_at_call 20; (with_reducible refine (check_any m s _).mono ?_); rintro e v ⟨EC, hEC, rfl, kk⟩; (first | (with_reducible have HH := Held.here (Held.drew HH) kk) | (with_reducible have HH := Held.here HH kk)))
      | (go_at_call 21; (with_reducible refine (right_any m s _).mono ?_); rintro e v ⟨rfl, kk⟩; (first | (with_reducible have HH := Held.here (Held.drew HH) kk) | (with_reducible have HH := Held.here HH kk))))
  all_goals
    go_wp2_with fail
    go_ret
    first | exact ⟨rfl, HH.1⟩ | exact ⟨rfl, HH.1.drew⟩
end Go.Proofs.YtbdnefmkbamdpaaDoor
