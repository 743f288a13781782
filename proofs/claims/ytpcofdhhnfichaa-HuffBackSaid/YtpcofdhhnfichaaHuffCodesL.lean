/- The walk of the law HuffCodes. -/
import Derived.Test.YtpcofdhhnfichaaHuffAwake
import Derived.Test.YtpcofdhhnfichaaLaidGen
namespace Go.Proofs.Ytpcofdhhnfichaa
open Go.RowKit

open Classical in
/-- The codes, and the error. -/
noncomputable def codesE (l : List Int) : Int := if lensOk l then (if share (natsOf l) l.length ≤ 32768 then 0 else 4) else 1
open Classical in
noncomputable def codesL (l : List Int) : List Int := if lensOk l ∧ share (natsOf l) l.length ≤ 32768 then (List.range l.length).map (fun j => (codeIn l 15 0 j : Int)) else []
theorem codesL_length_le (l : List Int) : (codesL l).length ≤ l.length := by
  unfold codesL
  split
  · simp
  · simp
theorem codes_is {l : List Int} {w w' : World} {e : Ending} (h : CodesAns l w e w') (hl : l.length ≤ 1000) : Below w.heap.size w w' ∧ ∃ A c, e = .returned (.tuple #[.slice A (codesL l).length c, .int .i64 (codesE l)]) ∧ IntsAt w' A (codesL l).length c (codesL l) := by
  obtain ⟨hb, ⟨hno, rfl⟩ | ⟨hok, hov, rfl⟩ | ⟨hok, hov, g, hg, hw, rfl⟩⟩ := h
  · have h1 : codesL l = [] := by unfold codesL; rw [if_neg (fun h => hno h.1)]
    have h2 : codesE l = 1 := by unfold codesE; rw [if_neg hno]
    rw [h1, h2]
    exact ⟨hb, none, 0, rfl, rfl, by simp, by omega, fun h => absurd h (by simp)⟩
  · have h1 : codesL l = [] := by unfold codesL; rw [if_neg (fun h => by omega)]
    have h2 : codesE l = 4 := by unfold codesE; rw [if_pos hok, if_neg (by omega)]
    rw [h1, h2]
    exact ⟨hb, none, 0, rfl, rfl, by simp, by omega, fun h => absurd h (by simp)⟩
  · have h1 : codesL l = (List.range l.length).map (fun j => (codeIn l 15 0 j : Int)) := by unfold codesL; rw [if_pos ⟨hok, hov⟩]
    have h2 : codesE l = 0 := by unfold codesE; rw [if_pos hok, if_pos hov]
    have h3 : codesArr l 15 0 = (iiv (codesL l)).toArray := by rw [h1]; simp [codesArr, iiv]
    have h4 : (codesL l).length = l.length := by rw [h1]; simp
    rw [h3] at hw
    have := IntsAt.of_whole hw (by omega)
    exact ⟨hb, some ⟨g, 0, none⟩, (codesL l).length, by rw [h2, h4], this⟩
/-- What Make answers. -/
def MakeIs (l : List Int) (w : World) (e : Ending) (w' : World) : Prop :=
  Below w.heap.size w w' ∧ ∃ (p : Option Addr) (E : Int), e = .returned (.tuple #[.pointer p, .int .i64 E]) ∧ MakeErr l E ∧ ((p = none ∧ E ≠ 0) ∨ ((∃ B, p = some ⟨B, 0, none⟩) ∧ E = 0))
theorem make_any (A : Option Addr) (n c : Nat) (l : List Int) (w : World) (h : IntsAt w A n c l) : Calls Try.prog 11 #[.slice A n c] w (MakeIs l w) := by
  by_cases hk : lensOk l ∧ sumOk l
  · refine (make_ok A n c l w h hk.1 hk.2).mono ?_
    rintro e w' ⟨hb, B, G, v, rfl, -, -, -⟩
    exact ⟨hb, _, 0, rfl, .inr (.inr ⟨hk.1, hk.2, rfl⟩), .inr ⟨⟨B, rfl⟩, rfl⟩⟩
  · refine (make_bad A n c l w h hk).mono ?_
    rintro e w' ⟨⟨hno, rfl⟩ | ⟨hok, rfl⟩, hb⟩
    · exact ⟨hb, _, 1, rfl, .inl ⟨hno, rfl⟩, .inl ⟨rfl, by decide⟩⟩
    · exact ⟨hb, _, 4, rfl, .inr (.inl ⟨hok, fun h => hk ⟨hok, h⟩, rfl⟩), .inl ⟨rfl, by decide⟩⟩
theorem IntsAt.drewN {w : World} {A : Option Addr} {n c : Nat} {l : List Int} (h : IntsAt w A n c l) (j : Nat) : IntsAt (w.drewN j) A n c l := h.below (below_drewN (Below.refl _ _) j)
set_option maxRecDepth 100000 in
set_option maxHeartbeats 8000000 in
theorem codes_law (A : Option Addr) (n c : Nat) (l : List Int) (w : World) (h : IntsAt w A n c l) (hnil : A = none → n = 0 ∧ c = 0) : Calls Try.prog 3 #[.slice A n c] w (True_ w) := by
  have hl := h.len
  subst hl
  have hcap := h.cap
  have htop := h.top
  by_cases hn : 400 < l.length
  · clear h
    go_enter Try.func3, Try.ntmps3
    go_wp2
    go_ret
    exact ⟨rfl, Below.refl _ _⟩
  have hn : l.length ≤ 400 := by omega
  have H := Lib.hid h
  have HN := Lib.hid hnil
  clear h hnil
  go_enter Try.func3, Try.ntmps3
  go_wp2_with fail
  refine (row_any A l.length c l w H.out HN.out (by omega)).mono ?_
  rintro e w1 ⟨v1, rfl, hown, hb1⟩
  obtain ⟨A1, c1, rfl, h1⟩ := IntsAt.of_own hown
  have I1 := Lib.hid (And.intro hb1 (And.intro (H.out.below (hb1.mono (Nat.le_refl _))) h1))
  clear hown hb1 h1
  go_wp2_with fail
  refine (codes_any A1 l.length c1 l w1 I1.out.2.2).mono ?_
  intro e w2 q2
  obtain ⟨hb2, A2, c2, rfl, h2⟩ := codes_is q2 (by omega)
  clear q2
  have I2 := Lib.hid (And.intro (I1.out.1.trans (hb2.mono I1.out.1.size)) (And.intro (I1.out.2.1.below hb2) (And.intro (I1.out.2.2.below hb2) h2)))
  clear hb2 h2 I1
  go_wp2_with fail
  refine (refCodes_any A l.length c l w2 I2.out.2.1).mono ?_
  intro e w3 q3
  obtain ⟨hb3, A3, c3, rfl, h3⟩ := codes_is q3 (by omega)
  clear q3
  have I3 := Lib.hid (And.intro (I2.out.1.trans (hb3.mono I2.out.1.size)) (And.intro (I2.out.2.1.below hb3) (And.intro (I2.out.2.2.1.below hb3) (And.intro (I2.out.2.2.2.below hb3) h3))))
  clear hb3 h3 I2
  go_wp2_with fail
  refine (make_any A1 l.length c1 l w3 I3.out.2.2.1).mono ?_
  rintro e w4 ⟨hb4, p, E, rfl, hE, hp⟩
  have I4 := Lib.hid (And.intro (I3.out.1.trans (hb4.mono I3.out.1.size)) (And.intro (I3.out.2.1.below hb4) (And.intro (I3.out.2.2.1.below hb4) (And.intro (I3.out.2.2.2.1.below hb4) (And.intro (I3.out.2.2.2.2.below hb4) (And.intro hE hp))))))
  clear hb4 hE hp I3
  go_wp2_with fail
  refine (awake_any _).mono ?_
  rintro e w5 ⟨rfl, hb5⟩
  have I5 := Lib.hid (And.intro (I4.out.1.trans (hb5.mono I4.out.1.size)) (And.intro (I4.out.2.1.below hb5) (And.intro (I4.out.2.2.1.below hb5) (And.intro (I4.out.2.2.2.1.below hb5) (And.intro (I4.out.2.2.2.2.1.below hb5) I4.out.2.2.2.2.2)))))
  clear hb5 I4
  go_wp2_with fail
  refine (ints_same A1 _ _ A _ _ l _ I5.out.2.2.1 I5.out.2.1).mono ?_
  rintro e w6 ⟨rfl, j1, rfl⟩
  go_wp2_with fail
  refine (ints_same A2 _ _ A3 _ _ (codesL l) _ (I5.out.2.2.2.1.drewN j1) (I5.out.2.2.2.2.1.drewN j1)).mono ?_
  rintro e w7 ⟨rfl, j2, rfl⟩
  go_wp2_with fail
  refine (refMake_any A l.length c l _ (I5.out.2.1.below (below_drewN (Below.refl _ _) (j1 + j2)))).mono ?_
  rintro e w8 ⟨hb8, E8, rfl, hE8⟩
  obtain rfl := MakeErr.eq I5.out.2.2.2.2.2.1 hE8
  have hb58 : Below w5.heap.size w5 w8 := (below_drewN (Below.refl _ _) (j1 + j2)).trans hb8
  have I8 := Lib.hid (And.intro (I5.out.1.trans (hb58.mono I5.out.1.size)) I5.out.2.2.2.2.2.2)
  clear hb8 hb58 hE8 I5
  rcases I8.out.2 with ⟨rfl, h0⟩ | ⟨⟨B, rfl⟩, rfl⟩
  all_goals try (have b0 : (E == (0 : Int)) = false := by simpa using h0)
  all_goals
    go_wp2_with fail
    refine (fixed_any _).mono ?_
    rintro e w9 ⟨v9, rfl, hown, hb9⟩
    obtain ⟨A9, c9, rfl, h9⟩ := IntsAt.of_own hown
    have I9 := Lib.hid (And.intro (I8.out.1.trans (hb9.mono I8.out.1.size)) h9)
    clear hown hb9 h9
    go_wp2_with fail
    refine (refFixed_any _).mono ?_
    rintro e w10 ⟨v10, rfl, hown, hb10⟩
    obtain ⟨A10, c10, rfl, h10⟩ := IntsAt.of_own hown
    have I10 := Lib.hid (And.intro (I9.out.1.trans (hb10.mono I9.out.1.size)) (And.intro (I9.out.2.below hb10) h10))
    clear hown hb10 h10
    go_wp2_with fail
    refine (ints_same A9 _ _ A10 _ _ fixedL _ I10.out.2.1 I10.out.2.2).mono ?_
    rintro e w11 ⟨rfl, j3, rfl⟩
    go_wp2_with fail
    go_ret
    exact ⟨rfl, below_drewN I10.out.1 j3⟩
end Go.Proofs.Ytpcofdhhnfichaa
