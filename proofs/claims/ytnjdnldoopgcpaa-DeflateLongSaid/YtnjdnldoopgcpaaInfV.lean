/- inflate: Expand. -/
import Derived.Test.YtnjdnldoopgcpaaInfT
namespace Go.Proofs.Ytnjdnldoopgcpaa
open Go.RowKit

set_option maxRecDepth 100000 in
set_option maxHeartbeats 2000000 in
theorem valid_any (t : Tk) (w : World) : Calls Try.prog 21 #[.agg #[.int .i64 t.byte, .int .i64 t.len, .int .i64 t.back]] w fun e w' => e = .returned (.bool (okTk t)) ∧ Below w.heap.size w w' := by
  by_cases h0 : t.len = 0
  · have d9 : (t.len == 0) = true := by simp [h0]
    by_cases c0 : t.back = 0
    · have d0 : (t.back == 0) = true := by simp [c0]
      by_cases c1 : 0 ≤ t.byte
      · have d1 : decide (0 ≤ t.byte) = true := decide_eq_true c1
        by_cases c2 : t.byte ≤ 255
        · have d2 : decide (t.byte ≤ 255) = true := decide_eq_true c2
          have HV := Lib.hid (show okTk t = true by unfold okTk; rw [if_pos h0]; exact decide_eq_true (⟨c0, c1, c2⟩))
          rw [HV.out]
          clear HV c0 c1 c2
          go_enter Try.func21, Try.ntmps21
          go_wp2_with fail
          go_ret
          exact ⟨rfl, (Below.refl _ _).alloc (Nat.le_refl _) _⟩
        · have d2 : decide (t.byte ≤ 255) = false := decide_eq_false c2
          have HV := Lib.hid (show okTk t = false by unfold okTk; rw [if_pos h0]; exact decide_eq_false (fun h => c2 (by omega)))
          rw [HV.out]
          clear HV c0 c1 c2
          go_enter Try.func21, Try.ntmps21
          go_wp2_with fail
          go_ret
          exact ⟨rfl, (Below.refl _ _).alloc (Nat.le_refl _) _⟩
      · have d1 : decide (0 ≤ t.byte) = false := decide_eq_false c1
        have HV := Lib.hid (show okTk t = false by unfold okTk; rw [if_pos h0]; exact decide_eq_false (fun h => c1 (by omega)))
        rw [HV.out]
        clear HV c0 c1
        go_enter Try.func21, Try.ntmps21
        go_wp2_with fail
        go_ret
        exact ⟨rfl, (Below.refl _ _).alloc (Nat.le_refl _) _⟩
    · have d0 : (t.back == 0) = false := by simp [c0]
      have HV := Lib.hid (show okTk t = false by unfold okTk; rw [if_pos h0]; exact decide_eq_false (fun h => c0 (by omega)))
      rw [HV.out]
      clear HV c0
      go_enter Try.func21, Try.ntmps21
      go_wp2_with fail
      go_ret
      exact ⟨rfl, (Below.refl _ _).alloc (Nat.le_refl _) _⟩
  · have d9 : (t.len == 0) = false := by simp [h0]
    by_cases c0 : t.byte = 0
    · have d0 : (t.byte == 0) = true := by simp [c0]
      by_cases c1 : 3 ≤ t.len
      · have d1 : decide (3 ≤ t.len) = true := decide_eq_true c1
        by_cases c2 : t.len ≤ 258
        · have d2 : decide (t.len ≤ 258) = true := decide_eq_true c2
          by_cases c3 : 1 ≤ t.back
          · have d3 : decide (1 ≤ t.back) = true := decide_eq_true c3
            by_cases c4 : t.back ≤ 32768
            · have d4 : decide (t.back ≤ 32768) = true := decide_eq_true c4
              have HV := Lib.hid (show okTk t = true by unfold okTk; rw [if_neg h0]; exact decide_eq_true (⟨c0, c1, c2, c3, c4⟩))
              rw [HV.out]
              clear HV c0 c1 c2 c3 c4
              go_enter Try.func21, Try.ntmps21
              go_wp2_with fail
              go_ret
              exact ⟨rfl, (Below.refl _ _).alloc (Nat.le_refl _) _⟩
            · have d4 : decide (t.back ≤ 32768) = false := decide_eq_false c4
              have HV := Lib.hid (show okTk t = false by unfold okTk; rw [if_neg h0]; exact decide_eq_false (fun h => c4 (by omega)))
              rw [HV.out]
              clear HV c0 c1 c2 c3 c4
              go_enter Try.func21, Try.ntmps21
              go_wp2_with fail
              go_ret
              exact ⟨rfl, (Below.refl _ _).alloc (Nat.le_refl _) _⟩
          · have d3 : decide (1 ≤ t.back) = false := decide_eq_false c3
            have HV := Lib.hid (show okTk t = false by unfold okTk; rw [if_neg h0]; exact decide_eq_false (fun h => c3 (by omega)))
            rw [HV.out]
            clear HV c0 c1 c2 c3
            go_enter Try.func21, Try.ntmps21
            go_wp2_with fail
            go_ret
            exact ⟨rfl, (Below.refl _ _).alloc (Nat.le_refl _) _⟩
        · have d2 : decide (t.len ≤ 258) = false := decide_eq_false c2
          have HV := Lib.hid (show okTk t = false by unfold okTk; rw [if_neg h0]; exact decide_eq_false (fun h => c2 (by omega)))
          rw [HV.out]
          clear HV c0 c1 c2
          go_enter Try.func21, Try.ntmps21
          go_wp2_with fail
          go_ret
          exact ⟨rfl, (Below.refl _ _).alloc (Nat.le_refl _) _⟩
      · have d1 : decide (3 ≤ t.len) = false := decide_eq_false c1
        have HV := Lib.hid (show okTk t = false by unfold okTk; rw [if_neg h0]; exact decide_eq_false (fun h => c1 (by omega)))
        rw [HV.out]
        clear HV c0 c1
        go_enter Try.func21, Try.ntmps21
        go_wp2_with fail
        go_ret
        exact ⟨rfl, (Below.refl _ _).alloc (Nat.le_refl _) _⟩
    · have d0 : (t.byte == 0) = false := by simp [c0]
      have HV := Lib.hid (show okTk t = false by unfold okTk; rw [if_neg h0]; exact decide_eq_false (fun h => c0 (by omega)))
      rw [HV.out]
      clear HV c0
      go_enter Try.func21, Try.ntmps21
      go_wp2_with fail
      go_ret
      exact ⟨rfl, (Below.refl _ _).alloc (Nat.le_refl _) _⟩
theorem TksAt.get {w : World} {A : Option Addr} {n c : Nat} {l : List Tk} (h : TksAt w A n c l) {i : Nat} {t : Tk} (hx : l[i]? = some t) : ∃ R o, A = some ⟨R, o, none⟩ ∧ R < w.heap.size ∧
    w.cell? ⟨R, o + i * 3, none⟩ = some (.int .i64 t.byte) ∧ w.cell? ⟨R, o + i * 3 + 1, none⟩ = some (.int .i64 t.len) ∧ w.cell? ⟨R, o + i * 3 + 2, none⟩ = some (.int .i64 t.back) := by
  have hi := (List.getElem?_eq_some_iff.1 hx).1
  have hl := h.len
  rw [List.length_map] at hl
  obtain ⟨R, o, e, hR, hk⟩ := RowAt.at_ h (by omega)
  have hm : (l.map tkV)[i]? = some (tkV t) := by rw [List.getElem?_map, hx]; rfl
  exact ⟨R, o, e, hR, hk i _ hm 0 _ rfl, hk i _ hm 1 _ rfl, hk i _ hm 2 _ rfl⟩
theorem copyB_succ : ∀ (n back : Nat) (b : List Nat), copyB (n + 1) back b = copyB n back b ++ [(copyB n back b).getD ((copyB n back b).length - back) 0]
  | 0, back, b => rfl
  | n + 1, back, b => by
    show copyB (n + 1) back (b ++ [b.getD (b.length - back) 0]) = _
    rw [copyB_succ n back]
    rfl
theorem copyB_len : ∀ (n back : Nat) (b : List Nat), (copyB n back b).length = b.length + n
  | 0, _, _ => rfl
  | n + 1, back, b => by rw [copyB_succ, List.length_append, copyB_len n back b]; simp; omega
theorem copyB_byte {back : Nat} {b : List Nat} (h : ∀ x ∈ b, x < 256) : ∀ n, ∀ x ∈ copyB n back b, x < 256
  | 0 => h
  | n + 1 => by
    intro x hx
    rw [copyB_succ] at hx
    rcases List.mem_append.1 hx with hx | hx
    · exact copyB_byte h n x hx
    · rw [List.mem_singleton] at hx
      rw [hx, List.getD_eq_getElem?_getD]
      cases hq : (copyB n back b)[(copyB n back b).length - back]? with
      | none => decide
      | some y => exact copyB_byte h n y (List.mem_of_getElem? hq)
theorem expTk_len {t : Tk} (h : okTk t = true) (b : List Nat) : ((expTk t b).length : Int) = b.length + tkSize t := by
  unfold expTk tkSize
  unfold okTk at h
  by_cases h0 : t.len = 0
  · rw [if_pos h0, List.length_append]
    simp
    omega
  · rw [if_neg h0] at h ⊢
    have := of_decide_eq_true h
    rw [copyB_len]
    omega
theorem expTk_byte {t : Tk} (h : okTk t = true) {b : List Nat} (hb : ∀ x ∈ b, x < 256) : ∀ x ∈ expTk t b, x < 256 := by
  unfold expTk
  unfold okTk at h
  by_cases h0 : t.len = 0
  · rw [if_pos h0] at h ⊢
    have := of_decide_eq_true h
    intro x hx
    rcases List.mem_append.1 hx with hx | hx
    · exact hb x hx
    · rw [List.mem_singleton] at hx; omega
  · rw [if_neg h0]
    exact copyB_byte hb _
/-- What appendToken answers. -/
def ApIs (base : Nat) (b : List Nat) (w : World) (e : Ending) (w' : World) : Prop := ∃ v, e = .returned v ∧ w'.ownsRow base 5 1 v b.length (bvs b) ∧ Below base w w'
theorem info_u8 : ∃ i, Try.prog.info? 5 = some i ∧ i.zero = some (.int .u8 0) ∧ i.size = 1 ∧ i.bytes = 1 := by
  have h := info8
  cases hi : Try.prog.info? 5 with
  | none => rw [hi] at h; cases h
  | some i =>
    rw [hi] at h
    injection h with h
    injection h with h1 h2
    injection h2 with h2 h3
    exact ⟨i, rfl, h1, h2, h3⟩
end Go.Proofs.Ytnjdnldoopgcpaa
/- inflate: Expand, Inflate. -/
namespace Go.Proofs.Ytnjdnldoopgcpaa
open Go.RowKit

theorem TksAt.later {w w' : World} {A : Option Addr} {n c : Nat} {l : List Tk} (h : TksAt w A n c l) (hb : Below w.heap.size w w') : TksAt w' A n c l := RowAt.below h hb
theorem expGo_step {most : Int} {l : List Tk} {i : Nat} {t : Tk} (b : List Nat) (h : l[i]? = some t) : expGo most (l.drop i) b = if (b.length : Int) < t.back then .error 4 else if most - b.length < tkSize t then .error 2 else expGo most (l.drop (i + 1)) (expTk t b) := by
  have hi := (List.getElem?_eq_some_iff.1 h).1
  have he := (List.getElem?_eq_some_iff.1 h).2
  rw [List.drop_eq_getElem_cons hi, he, expGo]
/-- What Expand answers. -/
def ExpIs (l : List Tk) (most : Int) (w : World) (e : Ending) (w' : World) : Prop :=
  (∃ (bs : List Nat) (A : Option Addr) (c : Nat), expandP l most = .ok bs ∧ e = .returned (.tuple #[.slice A bs.length c, .int .i64 0]) ∧ Bytes w' A bs.length c bs ∧ (bs.length : Int) ≤ most ∧ Below w.heap.size w w') ∨
  (∃ E, expandP l most = .error E ∧ E ≠ 0 ∧ e = .returned (.tuple #[.slice none 0 0, .int .i64 E]) ∧ Below w.heap.size w w')
theorem all_stepT {l : List Tk} {i : Nat} {t : Tk} (h : l[i]? = some t) (ha : (l.take i).all okTk = true) : (l.take (i + 1)).all okTk = okTk t := by
  rw [List.take_add_one, h, List.all_append, ha]
  simp
/-- What Inflate answers. -/
def InfIs (bs : List Nat) (most : Int) (w : World) (e : Ending) (w' : World) : Prop :=
  (∃ (x : List Nat) (used : Nat) (A : Option Addr) (c : Nat), inflP bs most = .ok (x, used) ∧ e = .returned (.tuple #[.slice A x.length c, .int .i64 (used : Int), .int .i64 0]) ∧ Bytes w' A x.length c x ∧ (x.length : Int) ≤ most ∧ used ≤ bs.length ∧ Below w.heap.size w w') ∨
  (∃ E, inflP bs most = .error E ∧ E ≠ 0 ∧ e = .returned (.tuple #[.slice none 0 0, .int .i64 0, .int .i64 E]) ∧ Below w.heap.size w w')
theorem inflP_tok {bs : List Nat} {most E : Int} (h : tokensP bs most = .error E) : inflP bs most = .error E := by unfold inflP; rw [h]
theorem inflP_exp {bs : List Nat} {most E : Int} {l : List Tk} {n : Nat} (h : tokensP bs most = .ok (l, n)) (h2 : expandP l most = .error E) : inflP bs most = .error E := by unfold inflP; rw [h]; simp only [h2]
theorem inflP_ok {bs x : List Nat} {most : Int} {l : List Tk} {n : Nat} (h : tokensP bs most = .ok (l, n)) (h2 : expandP l most = .ok x) : inflP bs most = .ok (x, n) := by unfold inflP; rw [h]; simp only [h2]
end Go.Proofs.Ytnjdnldoopgcpaa

