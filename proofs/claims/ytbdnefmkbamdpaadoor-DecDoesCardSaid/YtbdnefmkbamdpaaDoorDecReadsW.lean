/- The walk of DecReads. -/
import Derived.Test.YtbdnefmkbamdpaaDoorRefParse
import Derived.Test.YtbdnefmkbamdpaaDoorRefMake
import Derived.Test.YtbdnefmkbamdpaaDoorDecMake
import Derived.Test.YtbdnefmkbamdpaaDoorDecAwake
namespace Go.Proofs.YtbdnefmkbamdpaaDoor
open Go.RowKit Dec

theorem refparse_is (t : ByteArray) (w : World) (ht : t.size ≤ 300) (M S E : Int) (hp : parseL t.data.toList = (M, S, E)) :
    Calls Tryd.prog 6 #[.string t] w (IsDec M S E w) := by
  have hs := headOf_sign t
  have hlen : t.data.toList.length = t.size := by rw [Array.length_toList]; rfl
  obtain ⟨p1, p2⟩ := parse_ref t.data.toList
  unfold refL at p1 p2
  rw [hs] at p1 p2
  refine (refparse_any t w ht (scanL false (t.data.toList.drop (headOf t).2)) rfl).mono ?_
  rintro e w' ⟨a1, a2⟩
  cases hsc : scanL false (t.data.toList.drop (headOf t).2) with
  | none =>
    have := p1 (by simp only [hsc])
    rw [hp] at this
    injection this with e1 e2
    injection e2 with e2 e3
    subst e1 e2 e3
    exact a1 (.inl hsc)
  | some x =>
    obtain ⟨ds, b⟩ := x
    by_cases hbad : ds = [] ∨ 40 < t.size
    · have := p1 (by simp only [hsc]; rw [if_pos (by rw [hlen]; exact hbad)])
      rw [hp] at this
      injection this with e1 e2
      injection e2 with e2 e3
      subst e1 e2 e3
      rcases hbad with h | h
      · exact a1 (.inr (.inl ⟨b, by rw [hsc, h]⟩))
      · exact a1 (.inr (.inr h))
    · obtain ⟨M', S', E', h1, h2⟩ := p2 _ b (by simp only [hsc]; rw [if_neg (by rw [hlen]; exact hbad)])
      rw [hp] at h1
      injection h1 with e1 e2
      injection e2 with e2 e3
      subst e1 e2 e3
      obtain ⟨M2, S2, E2, he, hd, hb⟩ := a2 ds b hsc (fun h => hbad (.inl h)) (fun h => hbad (.inr h))
      have hV : (if (headOf t).1 = true then -1 else 1 : Int) * (num ds.reverse : Int) = if (headOf t).1 = true then -(num ds.reverse : Int) else (num ds.reverse : Int) := by
        cases (headOf t).1 <;> simp
      rw [hV] at h2
      obtain ⟨rfl, rfl, rfl⟩ := h2.unique hd
      exact ⟨he, hb⟩
/-- What Make answers. -/
def MakeIs (m s M S E : Int) : Prop :=
  ((0 ≤ s ∧ s ≤ 18 ∧ -999999999999999999 ≤ m ∧ m ≤ 999999999999999999) ∧ Denotes m s.toNat M S E) ∨ (¬ (0 ≤ s ∧ s ≤ 18 ∧ -999999999999999999 ≤ m ∧ m ≤ 999999999999999999) ∧ M = 0 ∧ S = 0 ∧ E = 1)
theorem MakeIs.unique {m s M S E M' S' E' : Int} (h : MakeIs m s M S E) (h' : MakeIs m s M' S' E') : M' = M ∧ S' = S ∧ E' = E := by
  rcases h with ⟨a, b⟩ | ⟨a, rfl, rfl, rfl⟩ <;> rcases h' with ⟨a', b'⟩ | ⟨a', rfl, rfl, rfl⟩
  · obtain ⟨rfl, rfl, rfl⟩ := b.unique b'
    exact ⟨rfl, rfl, rfl⟩
  · exact absurd a a'
  · exact absurd a' a
  · exact ⟨rfl, rfl, rfl⟩
theorem make_is (m s : Int) (w : World) : Calls Tryd.prog 7 #[.int .i64 m, .int .i64 s] w fun e w' => ∃ M S E, MakeIs m s M S E ∧ IsDec M S E w e w' := by
  by_cases h : 0 ≤ s ∧ s ≤ 18 ∧ -999999999999999999 ≤ m ∧ m ≤ 999999999999999999
  · obtain ⟨k, rfl⟩ : ∃ k : Nat, s = k := ⟨s.toNat, by omega⟩
    refine (make_ok m k w (by omega) h.2.2.1 h.2.2.2).mono ?_
    rintro e w' ⟨M, S, E, he, hd, hb⟩
    exact ⟨M, S, E, .inl ⟨h, hd⟩, he, hb⟩
  · refine (make_bad m s w h).mono ?_
    rintro e w' ⟨he, hb⟩
    exact ⟨0, 0, 1, .inr ⟨h, rfl, rfl, rfl⟩, he, hb⟩
theorem refmake_is (m s : Int) (w : World) : Calls Tryd.prog 8 #[.int .i64 m, .int .i64 s] w fun e w' => ∃ M S E, MakeIs m s M S E ∧ IsDec M S E w e w' := by
  by_cases h : 0 ≤ s ∧ s ≤ 18 ∧ -999999999999999999 ≤ m ∧ m ≤ 999999999999999999
  · obtain ⟨k, rfl⟩ : ∃ k : Nat, s = k := ⟨s.toNat, by omega⟩
    refine (refmake_ok m k w (by omega) h.2.2.1 h.2.2.2).mono ?_
    rintro e w' ⟨M, S, E, he, hd, hb⟩
    exact ⟨M, S, E, .inl ⟨h, hd⟩, he, hb⟩
  · refine (refmake_bad m s w h).mono ?_
    rintro e w' ⟨he, hb⟩
    exact ⟨0, 0, 1, .inr ⟨h, rfl, rfl, rfl⟩, he, hb⟩
set_option maxRecDepth 100000 in
set_option maxHeartbeats 4000000 in
theorem reads_any (t : ByteArray) (m s : Int) (w : World) (h : Ready w) :
    Calls Tryd.prog 3 #[.string t, .int .i64 m, .int .i64 s] w fun e w' => e = .returned (.bool true) ∧ Below w.heap.size w w' := by
  by_cases hn : 300 < t.size
  · go_enter Tryd.func3, Tryd.ntmps3
    go_wp2
    go_ret
    exact ⟨rfl, Below.refl _ _⟩
  have HR := Lib.hid h
  clear h
  obtain ⟨M, S, E, hp⟩ : ∃ M S E, parseL t.data.toList = (M, S, E) := ⟨_, _, _, rfl⟩
  have HP := Lib.hid hp
  clear hp
  go_enter Tryd.func3, Tryd.ntmps3
  go_wp2_with fail
  refine (parse_is t w HR.out (by omega) M S E HP.out).mono ?_
  rintro e w1 ⟨rfl, hb1⟩
  have HB1 := Lib.hid (And.intro hb1 (And.intro (Whole.made w1 23 #[.int .i64 M, .int .i64 S]) (hb1.alloc hb1.size (.cells #[.int .i64 M, .int .i64 S] 23))))
  clear hb1
  go_wp2_with fail
  refine (refparse_is t _ (by omega) M S E HP.out).mono ?_
  rintro e w2 ⟨rfl, hb2⟩
  have HB2 := Lib.hid (show Below w.heap.size w (w2.alloc (.cells #[.int .i64 M, .int .i64 S] 23)) ∧ Whole (w2.alloc (.cells #[.int .i64 M, .int .i64 S] 23)) w1.heap.size 23 #[.int .i64 M, .int .i64 S] ∧ Whole (w2.alloc (.cells #[.int .i64 M, .int .i64 S] 23)) w2.heap.size 23 #[.int .i64 M, .int .i64 S] from by
    have h1 := HB1.out.2.2.trans (hb2.mono HB1.out.2.2.size)
    exact ⟨h1.alloc h1.size _, (HB1.out.2.1.here hb2).old _, Whole.made _ _ _⟩)
  clear hb2
  go_wp2_with fail
  refine (make_is m s _).mono ?_
  rintro e w3 ⟨Mm, Sm, Em, hmk, rfl, hb3⟩
  have HB3 := Lib.hid (show Below w.heap.size w (w3.alloc (.cells #[.int .i64 Mm, .int .i64 Sm] 23)) ∧ Whole (w3.alloc (.cells #[.int .i64 Mm, .int .i64 Sm] 23)) w1.heap.size 23 #[.int .i64 M, .int .i64 S] ∧ Whole (w3.alloc (.cells #[.int .i64 Mm, .int .i64 Sm] 23)) w2.heap.size 23 #[.int .i64 M, .int .i64 S] ∧ Whole (w3.alloc (.cells #[.int .i64 Mm, .int .i64 Sm] 23)) w3.heap.size 23 #[.int .i64 Mm, .int .i64 Sm] ∧ MakeIs m s Mm Sm Em from by
    have h1 := HB2.out.1.trans (hb3.mono HB2.out.1.size)
    exact ⟨h1.alloc h1.size _, (HB2.out.2.1.here hb3).old _, (HB2.out.2.2.here hb3).old _, Whole.made _ _ _, hmk⟩)
  clear hb3 hmk
  go_wp2_with fail
  refine (refmake_is m s _).mono ?_
  rintro e w4 ⟨M4, S4, E4, hmk4, rfl, hb4⟩
  obtain ⟨rfl, rfl, rfl⟩ := MakeIs.unique HB3.out.2.2.2.2 hmk4
  have HB4 := Lib.hid (show Below w.heap.size w (w4.alloc (.cells #[.int .i64 M4, .int .i64 S4] 23)) ∧ Whole (w4.alloc (.cells #[.int .i64 M4, .int .i64 S4] 23)) w1.heap.size 23 #[.int .i64 M, .int .i64 S] ∧ Whole (w4.alloc (.cells #[.int .i64 M4, .int .i64 S4] 23)) w2.heap.size 23 #[.int .i64 M, .int .i64 S] ∧ Whole (w4.alloc (.cells #[.int .i64 M4, .int .i64 S4] 23)) w3.heap.size 23 #[.int .i64 M4, .int .i64 S4] ∧ Whole (w4.alloc (.cells #[.int .i64 M4, .int .i64 S4] 23)) w4.heap.size 23 #[.int .i64 M4, .int .i64 S4] from by
    have h1 := HB3.out.1.trans (hb4.mono HB3.out.1.size)
    exact ⟨h1.alloc h1.size _, (HB3.out.2.1.here hb4).old _, (HB3.out.2.2.1.here hb4).old _, (HB3.out.2.2.2.1.here hb4).old _, Whole.made _ _ _⟩)
  clear hb4 hmk4 HB1 HB2 HB3
  go_wp2_with fail
  refine (awake_any _ (HR.out.later HB4.out.1)).mono ?_
  rintro e w5 ⟨rfl, hb5⟩
  have k1 := HB4.out.2.1.here hb5
  have k2 := HB4.out.2.2.1.here hb5
  have k3 := HB4.out.2.2.2.1.here hb5
  have k4 := HB4.out.2.2.2.2.here hb5
  have a0 : w5.cell? ⟨w1.heap.size, 0, none⟩ = some (.int .i64 M) := k1.reads 0
  have a1 : w5.cell? ⟨w1.heap.size, 1, none⟩ = some (.int .i64 S) := k1.reads 1
  have b0 : w5.cell? ⟨w2.heap.size, 0, none⟩ = some (.int .i64 M) := k2.reads 0
  have b1 : w5.cell? ⟨w2.heap.size, 1, none⟩ = some (.int .i64 S) := k2.reads 1
  have c0 : w5.cell? ⟨w3.heap.size, 0, none⟩ = some (.int .i64 M4) := k3.reads 0
  have c1 : w5.cell? ⟨w3.heap.size, 1, none⟩ = some (.int .i64 S4) := k3.reads 1
  have d0 : w5.cell? ⟨w4.heap.size, 0, none⟩ = some (.int .i64 M4) := k4.reads 0
  have d1 : w5.cell? ⟨w4.heap.size, 1, none⟩ = some (.int .i64 S4) := k4.reads 1
  have l1 := k1.lt
  have l2 := k2.lt
  have l3 := k3.lt
  have l4 := k4.lt
  have HB5 := Lib.hid (HB4.out.1.trans (hb5.mono HB4.out.1.size))
  clear k1 k2 k3 k4 hb5
  go_wp2_with fail
  go_ret
  exact ⟨rfl, HB5.out⟩
end Go.Proofs.YtbdnefmkbamdpaaDoor
