/- The walk of RunDoes. -/
import Derived.Test.YtbghmbcipekboaaRunRefG
namespace Go.Proofs.Ytbghmbcipekboaa
open Go.RowKit

set_option maxRecDepth 100000 in
theorem own_any (bs : List Nat) (n c : Nat) (A : Option Addr) (w : World) (h : Bytes w A n c bs) (hn : n ≤ 100000) :
    Calls Try.prog 7 #[.slice A n c] w fun e w' => ∃ A' c', e = .returned (.slice A' n c') ∧ Bytes w' A' n c' bs ∧ Below w.heap.size w w' := by
  have hl := h.len
  have hby := h.byte
  have H := Lib.hid h
  have HB := Lib.hid hby
  clear h hby
  go_enter Try.func7, Try.ntmps7
  go_wp2_with (refine wpList_app (o := ⟨some 6, _, _, _, _, _⟩) rfl (.tmp 4) (.tmp 5) rfl w.heap.size 0 n c (.slice none 0 0) [] bs A ?h1 ?h2 ?h3 ?h4 ?h5 ?h6 ?h7)
  case h1 => rfl
  case h2 => rfl
  case h3 => exact ⟨rfl, .inl ⟨rfl, rfl⟩⟩
  case h4 => exact H.out
  case h5 => omega
  case h6 => exact Nat.le_refl _
  intro v4 w4 hown4 hgrow4
  have hb4 : Below w.heap.size w w4 := (Below.refl _ _).grown hgrow4 (Nat.le_refl _) (fun j e => by cases e)
  obtain ⟨A4, c4, rfl, hy4⟩ := own_bytes hown4 (fun x hx => HB.out x (by simpa using hx))
  have H4 := Lib.hid (And.intro hy4 hb4)
  clear hown4 hgrow4 hy4 hb4
  go_wp2
  go_ret
  exact ⟨A4, c4, by simp, by simpa using H4.out.1, H4.out.2⟩
set_option maxRecDepth 100000 in
theorem get_arg (V : Value) (most : Int) (w : World) (h : most < 0 ∨ 1048576 < most) : Calls Try.prog 10 #[V, .int .i64 most] w fun e w' => e = .returned (.tuple #[.slice none 0 0, .int .i64 1]) ∧ Below w.heap.size w w' := by
  by_cases h1 : most < 0
  · refine (callsIn_wide (n := 3)).1 ?_
    refine callsIn_of_wp_marks Try.func10 rfl trivial ?_ rfl
    simp only [Try.ntmps10, List.size_toArray, List.length_cons, List.length_nil, Nat.reduceAdd, Nat.reduceSub, Array.replicate_succ, Array.replicate_zero, List.push_toArray, List.append_toArray, List.nil_append, List.cons_append]
    gi_wp2
    refine ⟨.tuple #[.slice none 0 0, .int .i64 1], ?_, rfl, ((((Below.refl _ _).alloc (Nat.le_refl _) _).alloc (by simp) _).alloc (by simp; omega) _)⟩
    have q1 : (((w.alloc (.cells #[.int .i64 most] 3)).alloc (.cells #[.slice none 0 0] 22)).alloc (.cells #[.int .i64 1] 24)).cell? ⟨w.heap.size + 1, 0, none⟩ = some (.slice none 0 0) := by
      rw [World.cell?_alloc_lt _ _ _ (by simp)]
      simp
    have q2 : (((w.alloc (.cells #[.int .i64 most] 3)).alloc (.cells #[.slice none 0 0] 22)).alloc (.cells #[.int .i64 1] 24)).cell? ⟨w.heap.size + 1 + 1, 0, none⟩ = some (.int .i64 1) := by
      have := (Whole.made ((w.alloc (.cells #[.int .i64 most] 3)).alloc (.cells #[.slice none 0 0] 22)) 24 #[.int .i64 1]).reads 0
      simpa using this
    simp [results, Try.results10, go_sem, q1, q2]
  · have h2 : 1048576 < most := by omega
    refine (callsIn_wide (n := 3)).1 ?_
    refine callsIn_of_wp_marks Try.func10 rfl trivial ?_ rfl
    simp only [Try.ntmps10, List.size_toArray, List.length_cons, List.length_nil, Nat.reduceAdd, Nat.reduceSub, Array.replicate_succ, Array.replicate_zero, List.push_toArray, List.append_toArray, List.nil_append, List.cons_append]
    gi_wp2
    refine ⟨.tuple #[.slice none 0 0, .int .i64 1], ?_, rfl, ((((Below.refl _ _).alloc (Nat.le_refl _) _).alloc (by simp) _).alloc (by simp; omega) _)⟩
    have q1 : (((w.alloc (.cells #[.int .i64 most] 3)).alloc (.cells #[.slice none 0 0] 22)).alloc (.cells #[.int .i64 1] 24)).cell? ⟨w.heap.size + 1, 0, none⟩ = some (.slice none 0 0) := by
      rw [World.cell?_alloc_lt _ _ _ (by simp)]
      simp
    have q2 : (((w.alloc (.cells #[.int .i64 most] 3)).alloc (.cells #[.slice none 0 0] 22)).alloc (.cells #[.int .i64 1] 24)).cell? ⟨w.heap.size + 1 + 1, 0, none⟩ = some (.int .i64 1) := by
      have := (Whole.made ((w.alloc (.cells #[.int .i64 most] 3)).alloc (.cells #[.slice none 0 0] 22)) 24 #[.int .i64 1]).reads 0
      simpa using this
    simp [results, Try.results10, go_sem, q1, q2]
theorem refget_arg (V : Value) (most : Int) (w : World) (h : most < 0 ∨ 1048576 < most) : Calls Try.prog 11 #[V, .int .i64 most] w fun e w' => e = .returned (.tuple #[.slice none 0 0, .int .i64 1]) ∧ Below w.heap.size w w' := by
  by_cases h1 : most < 0
  · go_enter Try.func11, Try.ntmps11
    go_wp2
    go_ret2
    exact ⟨rfl, Below.refl _ _⟩
  · have h2 : 1048576 < most := by omega
    go_enter Try.func11, Try.ntmps11
    go_wp2
    go_ret2
    exact ⟨rfl, Below.refl _ _⟩
/-- What either Get answers: bytes and a word, both told by bytes and number alone. -/
def gotL (most : Int) (bs : List Nat) : List Nat × Int :=
  if most < 0 ∨ 1048576 < most then ([], 1) else match getM most.toNat bs [] with
    | .more => ([], 6)
    | .long => ([], 2)
    | .ok l => (l, 0)
def Gives (most : Int) (bs : List Nat) (w : World) (e : Ending) (w' : World) : Prop :=
  ∃ A n c, e = .returned (.tuple #[.slice A n c, .int .i64 (gotL most bs).2]) ∧ Bytes w' A n c (gotL most bs).1 ∧ Below w.heap.size w w'
theorem bytes_none (w : World) : Bytes w none 0 0 [] := ⟨rfl, Nat.le_refl _, by omega, by simp, fun h => by omega⟩
theorem gives_of {most : Int} {bs : List Nat} {w w' : World} {e : Ending} (hm : ¬ (most < 0 ∨ 1048576 < most)) (h : GetIs (getM most.toNat bs []) w e w') : Gives most bs w e w' := by
  obtain ⟨hb, h1⟩ := h
  unfold Gives gotL
  rw [if_neg hm]
  cases hg : getM most.toNat bs [] with
  | more => rw [hg] at h1; exact ⟨none, 0, 0, h1, bytes_none _, hb⟩
  | long => rw [hg] at h1; exact ⟨none, 0, 0, h1, bytes_none _, hb⟩
  | ok l => rw [hg] at h1; obtain ⟨A, c, he, h2⟩ := h1; exact ⟨A, _, c, he, h2, hb⟩
theorem gives_arg {most : Int} {bs : List Nat} {w w' : World} {e : Ending} (hm : most < 0 ∨ 1048576 < most) (h : e = .returned (.tuple #[.slice none 0 0, .int .i64 1]) ∧ Below w.heap.size w w') : Gives most bs w e w' := by
  unfold Gives gotL
  rw [if_pos hm]
  exact ⟨none, 0, 0, h.1, bytes_none _, h.2⟩
theorem get_gives (A : Option Addr) (n c : Nat) (most : Int) (bs : List Nat) (w : World) (h : Bytes w A n c bs) : Calls Try.prog 10 #[.slice A n c, .int .i64 most] w (Gives most bs w) := by
  by_cases hm : most < 0 ∨ 1048576 < most
  · exact (get_arg _ _ _ hm).mono fun e w' h => gives_arg hm h
  · have e : ((most.toNat : Nat) : Int) = most := by omega
    have := get_ok A n c most.toNat bs w h (by omega)
    rw [e] at this
    exact this.mono fun e w' h => gives_of hm h
theorem refget_gives (A : Option Addr) (n c : Nat) (most : Int) (bs : List Nat) (w : World) (h : Bytes w A n c bs) (hn : n ≤ 100000) : Calls Try.prog 11 #[.slice A n c, .int .i64 most] w (Gives most bs w) := by
  by_cases hm : most < 0 ∨ 1048576 < most
  · exact (refget_arg _ _ _ hm).mono fun e w' h => gives_arg hm h
  · have e : ((most.toNat : Nat) : Int) = most := by omega
    have := refget_ok A n c most.toNat bs w h hn (by omega)
    rw [e] at this
    exact this.mono fun e w' h => gives_of hm h
set_option maxRecDepth 100000 in
set_option maxHeartbeats 4000000 in
theorem does_law (A : Option Addr) (n c : Nat) (bs : List Nat) (most : Int) (w : World) (h : Bytes w A n c bs) :
    Calls Try.prog 3 #[.slice A n c, .int .i64 most] w (True_ w) := by
  by_cases g1 : 1000 < n
  · go_enter Try.func3, Try.ntmps3
    go_wp2
    go_ret
    exact ⟨rfl, Below.refl _ _⟩
  have H := Lib.hid h
  clear h
  go_enter Try.func3, Try.ntmps3
  go_wp2_with fail
  refine (own_any bs n c A w H.out (by omega)).mono ?_
  rintro e w1 ⟨A1, c1, rfl, hy1, hb1⟩
  have H1 := Lib.hid (And.intro hy1 hb1)
  clear hy1 hb1
  go_wp2_with fail
  refine (put_ok A1 n c1 bs w1 H1.out.1 (by omega)).mono ?_
  rintro e w2 ⟨A2, c2, rfl, hy2, hb2⟩
  have H2 := Lib.hid (And.intro hy2 (H1.out.2.trans (hb2.mono H1.out.2.size)))
  have K2 := Lib.hid (H1.out.1.below hb2)
  clear hy2 hb2
  go_wp2_with fail
  refine (refput_ok A n c bs w2 (H.out.below H2.out.2) (by omega)).mono ?_
  rintro e w3 ⟨A3, c3, rfl, hy3, hb3⟩
  have H3 := Lib.hid (And.intro hy3 (H2.out.2.trans (hb3.mono H2.out.2.size)))
  have K3 := Lib.hid (And.intro (K2.out.below hb3) (H2.out.1.below hb3))
  clear hy3 hb3
  go_wp2_with fail
  refine (get_gives A1 n c1 most bs w3 K3.out.1).mono ?_
  rintro e w4 ⟨A4, n4, c4, rfl, hy4, hb4⟩
  have H4 := Lib.hid (And.intro hy4 (H3.out.2.trans (hb4.mono H3.out.2.size)))
  have K4 := Lib.hid (And.intro (K3.out.1.below hb4) (And.intro (K3.out.2.below hb4) (H3.out.1.below hb4)))
  clear hy4 hb4
  go_wp2_with fail
  refine (refget_gives A n c most bs w4 (H.out.below H4.out.2) (by omega)).mono ?_
  rintro e w5 ⟨A5, n5, c5, rfl, hy5, hb5⟩
  have H5 := Lib.hid (And.intro hy5 (H4.out.2.trans (hb5.mono H4.out.2.size)))
  have K5 := Lib.hid (And.intro (K4.out.1.below hb5) (And.intro (K4.out.2.1.below hb5) (And.intro (K4.out.2.2.below hb5) (H4.out.1.below hb5))))
  clear hy5 hb5
  go_wp2_with fail
  refine (awake_any _).mono ?_
  rintro e w6 ⟨rfl, hb6⟩
  have b6 := H5.out.2.trans (hb6.mono H5.out.2.size)
  have s1 := (K5.out.1.below hb6).str
  have s2 := (H.out.below b6).str
  have s3 := (K5.out.2.1.below hb6).str
  have s4 := (K5.out.2.2.1.below hb6).str
  have s5 := (K5.out.2.2.2.below hb6).str
  have s6 := (H5.out.1.below hb6).str
  have H6 := Lib.hid b6
  clear b6 hb6
  go_wp2
  go_ret
  exact ⟨rfl, H6.out⟩
end Go.Proofs.Ytbghmbcipekboaa
