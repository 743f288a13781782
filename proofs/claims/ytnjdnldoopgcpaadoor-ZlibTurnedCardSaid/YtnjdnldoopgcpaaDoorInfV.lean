/- inflate: Expand. -/
import Derived.Test.YtnjdnldoopgcpaaDoorInfT
namespace Go.Proofs.YtnjdnldoopgcpaaDoor
open Go.RowKit

set_option maxRecDepth 100000 in
set_option maxHeartbeats 2000000 in
theorem valid_any (t : Tk) (w : World) : Calls Tryd.prog 22 #[.agg #[.int .i64 t.byte, .int .i64 t.len, .int .i64 t.back]] w fun e w' => e = .returned (.bool (okTk t)) ∧ Below w.heap.size w w' := by
  by_cases h0 : t.len = 0
  · have d9 : (t.len == 0) = true := by simp [h0]
    by_cases c0 : t.back = 0
    · have d0 : (t.back == 0) = true := by simp [c0]
      by_cases c1 : 0 ≤ t.byte
      · have d1 : decide (0 ≤ t.byte) = true := decide_eq_true c1
        by_cases c2 : t.byte ≤ 255
        · have d2 : decide (t.byte ≤ 255) = true := decide_eq_true c2
          have HV := Lib.hid (show okTk t = true by unfold okTk; rw [if_pos h0]; exact decide_eq_true (⟨c0, c1, c2⟩))
          rw [HV.out]
          clear HV c0 c1 c2
          go_enter Tryd.func22, Tryd.ntmps22
          go_wp2_with fail
          go_ret
          exact ⟨rfl, (Below.refl _ _).alloc (Nat.le_refl _) _⟩
        · have d2 : decide (t.byte ≤ 255) = false := decide_eq_false c2
          have HV := Lib.hid (show okTk t = false by unfold okTk; rw [if_pos h0]; exact decide_eq_false (fun h => c2 (by omega)))
          rw [HV.out]
          clear HV c0 c1 c2
          go_enter Tryd.func22, Tryd.ntmps22
          go_wp2_with fail
          go_ret
          exact ⟨rfl, (Below.refl _ _).alloc (Nat.le_refl _) _⟩
      · have d1 : decide (0 ≤ t.byte) = false := decide_eq_false c1
        have HV := Lib.hid (show okTk t = false by unfold okTk; rw [if_pos h0]; exact decide_eq_false (fun h => c1 (by omega)))
        rw [HV.out]
        clear HV c0 c1
        go_enter Tryd.func22, Tryd.ntmps22
        go_wp2_with fail
        go_ret
        exact ⟨rfl, (Below.refl _ _).alloc (Nat.le_refl _) _⟩
    · have d0 : (t.back == 0) = false := by simp [c0]
      have HV := Lib.hid (show okTk t = false by unfold okTk; rw [if_pos h0]; exact decide_eq_false (fun h => c0 (by omega)))
      rw [HV.out]
      clear HV c0
      go_enter Tryd.func22, Tryd.ntmps22
      go_wp2_with fail
      go_ret
      exact ⟨rfl, (Below.refl _ _).alloc (Nat.le_refl _) _⟩
  · have d9 : (t.len == 0) = false := by simp [h0]
    by_cases c0 : t.byte = 0
    · have d0 : (t.byte == 0) = true := by simp [c0]
      by_cases c1 : 3 ≤ t.len
      · have d1 : decide (3 ≤ t.len) = true := decide_eq_true c1
        by_cases c2 : t.len ≤ 258
        · have d2 : decide (t.len ≤ 258) = true := decide_eq_true c2
          by_cases c3 : 1 ≤ t.back
          · have d3 : decide (1 ≤ t.back) = true := decide_eq_true c3
            by_cases c4 : t.back ≤ 32768
            · have d4 : decide (t.back ≤ 32768) = true := decide_eq_true c4
              have HV := Lib.hid (show okTk t = true by unfold okTk; rw [if_neg h0]; exact decide_eq_true (⟨c0, c1, c2, c3, c4⟩))
              rw [HV.out]
              clear HV c0 c1 c2 c3 c4
              go_enter Tryd.func22, Tryd.ntmps22
              go_wp2_with fail
              go_ret
              exact ⟨rfl, (Below.refl _ _).alloc (Nat.le_refl _) _⟩
            · have d4 : decide (t.back ≤ 32768) = false := decide_eq_false c4
              have HV := Lib.hid (show okTk t = false by unfold okTk; rw [if_neg h0]; exact decide_eq_false (fun h => c4 (by omega)))
              rw [HV.out]
              clear HV c0 c1 c2 c3 c4
              go_enter Tryd.func22, Tryd.ntmps22
              go_wp2_with fail
              go_ret
              exact ⟨rfl, (Below.refl _ _).alloc (Nat.le_refl _) _⟩
          · have d3 : decide (1 ≤ t.back) = false := decide_eq_false c3
            have HV := Lib.hid (show okTk t = false by unfold okTk; rw [if_neg h0]; exact decide_eq_false (fun h => c3 (by omega)))
            rw [HV.out]
            clear HV c0 c1 c2 c3
            go_enter Tryd.func22, Tryd.ntmps22
            go_wp2_with fail
            go_ret
            exact ⟨rfl, (Below.refl _ _).alloc (Nat.le_refl _) _⟩
        · have d2 : decide (t.len ≤ 258) = false := decide_eq_false c2
          have HV := Lib.hid (show okTk t = false by unfold okTk; rw [if_neg h0]; exact decide_eq_false (fun h => c2 (by omega)))
          rw [HV.out]
          clear HV c0 c1 c2
          go_enter Tryd.func22, Tryd.ntmps22
          go_wp2_with fail
          go_ret
          exact ⟨rfl, (Below.refl _ _).alloc (Nat.le_refl _) _⟩
      · have d1 : decide (3 ≤ t.len) = false := decide_eq_false c1
        have HV := Lib.hid (show okTk t = false by unfold okTk; rw [if_neg h0]; exact decide_eq_false (fun h => c1 (by omega)))
        rw [HV.out]
        clear HV c0 c1
        go_enter Tryd.func22, Tryd.ntmps22
        go_wp2_with fail
        go_ret
        exact ⟨rfl, (Below.refl _ _).alloc (Nat.le_refl _) _⟩
    · have d0 : (t.byte == 0) = false := by simp [c0]
      have HV := Lib.hid (show okTk t = false by unfold okTk; rw [if_neg h0]; exact decide_eq_false (fun h => c0 (by omega)))
      rw [HV.out]
      clear HV c0
      go_enter Tryd.func22, Tryd.ntmps22
      go_wp2_with fail
      go_ret
      exact ⟨rfl, (Below.refl _ _).alloc (Nat.le_refl _) _⟩
theorem TksAt.get {w : World} {A : Option Addr} {n c : Nat} {l : List Tk} (h : TksAt w A n c l) {i : Nat} {t : Tk} (hx : l[i]? = some t) : ∃ R o, A = some ⟨R, o, none⟩ ∧ R < w.heap.size ∧
    w.cell? ⟨R, o + i * 3, none⟩ = some (.int .i64 t.byte) ∧ w.cell? ⟨R, o + i * 3 + 1, none⟩ = some (.int .i64 t.len) ∧ w.cell? ⟨R, o + i * 3 + 2, none⟩ = some (.int .i64 t.back) := by
  have hi := (List.getElem?_eq_some_iff.1 hx).1
  have hl := h.len
  rw [List.length_map] at hl
  obtain ⟨R, o, e, hR, hk⟩ := RowAt.at_ h (by omega)
  have hm : (l.map tkV)[i]? = some (tkV t) := by rw [List.getElem?_map, hx]; rfl
  exact ⟨R, o, e, hR, hk i _ hm 0 _ rfl, hk i _ hm 1 _ rfl, hk i _ hm 2 _ rfl⟩
theorem copyB_succ : ∀ (n back : Nat) (b : List Nat), copyB (n + 1) back b = copyB n back b ++ [(copyB n back b).getD ((copyB n back b).length - back) 0]
  | 0, back, b => rfl
  | n + 1, back, b => by
    show copyB (n + 1) back (b ++ [b.getD (b.length - back) 0]) = _
    rw [copyB_succ n back]
    rfl
theorem copyB_len : ∀ (n back : Nat) (b : List Nat), (copyB n back b).length = b.length + n
  | 0, _, _ => rfl
  | n + 1, back, b => by rw [copyB_succ, List.length_append, copyB_len n back b]; simp; omega
theorem copyB_byte {back : Nat} {b : List Nat} (h : ∀ x ∈ b, x < 256) : ∀ n, ∀ x ∈ copyB n back b, x < 256
  | 0 => h
  | n + 1 => by
    intro x hx
    rw [copyB_succ] at hx
    rcases List.mem_append.1 hx with hx | hx
    · exact copyB_byte h n x hx
    · rw [List.mem_singleton] at hx
      rw [hx, List.getD_eq_getElem?_getD]
      cases hq : (copyB n back b)[(copyB n back b).length - back]? with
      | none => decide
      | some y => exact copyB_byte h n y (List.mem_of_getElem? hq)
theorem expTk_len {t : Tk} (h : okTk t = true) (b : List Nat) : ((expTk t b).length : Int) = b.length + tkSize t := by
  unfold expTk tkSize
  unfold okTk at h
  by_cases h0 : t.len = 0
  · rw [if_pos h0, List.length_append]
    simp
    omega
  · rw [if_neg h0] at h ⊢
    have := of_decide_eq_true h
    rw [copyB_len]
    omega
theorem expTk_byte {t : Tk} (h : okTk t = true) {b : List Nat} (hb : ∀ x ∈ b, x < 256) : ∀ x ∈ expTk t b, x < 256 := by
  unfold expTk
  unfold okTk at h
  by_cases h0 : t.len = 0
  · rw [if_pos h0] at h ⊢
    have := of_decide_eq_true h
    intro x hx
    rcases List.mem_append.1 hx with hx | hx
    · exact hb x hx
    · rw [List.mem_singleton] at hx; omega
  · rw [if_neg h0]
    exact copyB_byte hb _
/-- What appendToken answers. -/
def ApIs (base : Nat) (b : List Nat) (w : World) (e : Ending) (w' : World) : Prop := ∃ v, e = .returned v ∧ w'.ownsRow base 5 1 v b.length (bvs b) ∧ Below base w w'
theorem info_u8 : ∃ i, Tryd.prog.info? 5 = some i ∧ i.zero = some (.int .u8 0) ∧ i.size = 1 ∧ i.bytes = 1 := by
  have h := info8
  cases hi : Tryd.prog.info? 5 with
  | none => rw [hi] at h; cases h
  | some i =>
    rw [hi] at h
    injection h with h
    injection h with h1 h2
    injection h2 with h2 h3
    exact ⟨i, rfl, h1, h2, h3⟩
set_option maxRecDepth 100000 in
set_option maxHeartbeats 2000000 in
theorem appTk_any (base : Nat) (v : Value) (b : List Nat) (t : Tk) (w : World) (h : w.ownsRow base 5 1 v b.length (bvs b)) (hbase : base ≤ w.heap.size) (hok : okTk t = true) (hbk : t.back ≤ b.length) (hb : ∀ x ∈ b, x < 256) (hsz : b.length ≤ 1048576) :
    Calls Tryd.prog 24 #[v, .agg #[.int .i64 t.byte, .int .i64 t.len, .int .i64 t.back]] w (ApIs base (expTk t b) w) := by
  obtain ⟨i0, hi0, hz0, hz1, hz2⟩ := info_u8
  have HI0 := Lib.hid (And.intro hi0 (And.intro hz0 (And.intro hz1 hz2)))
  obtain ⟨wA, hwA⟩ : ∃ wA, w.alloc (.cells #[.int .i64 t.byte, .int .i64 t.len, .int .i64 t.back] 48) = wA := ⟨_, rfl⟩
  have hbA : Below w.heap.size w wA := by rw [← hwA]; exact (Below.refl _ _).alloc (Nat.le_refl _) _
  have hT : Whole wA w.heap.size 48 #[.int .i64 t.byte, .int .i64 t.len, .int .i64 t.back] := by rw [← hwA]; exact Whole.made _ _ _
  have ho := own_new h hbA
  have hszA := hbA.size
  have HO := Lib.hid ho
  have HB := Lib.hid (hbA.mono hbase)
  have HBY := Lib.hid hb
  have y0 : wA.cell? ⟨w.heap.size, 0, none⟩ = some (.int .i64 t.byte) := hT.reads 0
  have y1 : wA.cell? ⟨w.heap.size, 1, none⟩ = some (.int .i64 t.len) := hT.reads 1
  have y2 : wA.cell? ⟨w.heap.size, 2, none⟩ = some (.int .i64 t.back) := hT.reads 2
  have lT := hT.lt
  have HTW := Lib.hid hT
  obtain ⟨a0, cc, rfl⟩ := own_slM ho
  clear hi0 hz0 hz1 hz2 h hbA hT ho hb
  by_cases h0 : t.len = 0
  · have hby : 0 ≤ t.byte ∧ t.byte ≤ 255 := by
      unfold okTk at hok
      rw [if_pos h0] at hok
      have := of_decide_eq_true hok
      omega
    have d1 : (t.len == 0) = true := by simp [h0]
    have ewb : IntKind.u8.wrap t.byte = t.byte := by rw [IntKind.wrap_u8]; omega
    have hbv : bvs [t.byte.toNat] = [.int .u8 t.byte] := by unfold bvs; simp; omega
    have HX := Lib.hid (show expTk t b = b ++ [t.byte.toNat] by unfold expTk; rw [if_pos h0])
    rw [HX.out]
    clear h0 hok
    go_enter Tryd.func24, Tryd.ntmps24
    go_wp2_with (at_builtin; refine wpList_append_own _ rfl _ _ 22 rfl base 5 i0 (.int .u8 0) 1 1 Tryd.underlying22 HI0.out.1 HI0.out.2.1 HI0.out.2.2.1 HI0.out.2.2.2 rfl (by decide) _ _ _ rfl (HO.out.alloc _) ⟨wA.heap.size, 0, none⟩ 1 1 [.int .u8 t.byte] rfl rfl (World.news_of_block (cs := #[.int .u8 t.byte]) (t := 5) (fr := (0, 0)) (heap_alloc_new _ _)) ?p1 ?p2 ?p3 ?p4 ?_)
    case p1 => simp [Value.oneCell']
    case p2 => unfold maxLen; omega
    case p3 => omega
    case p4 => first | omega | (simp; omega)
    intro v' w6 hown' hgrow _
    have hown2 : w6.ownsRow base 5 1 v' (b ++ [t.byte.toNat]).length (bvs (b ++ [t.byte.toNat])) := by rw [bvs_append, List.length_append, hbv]; exact hown'
    have hb6 := (HB.out.alloc (by omega) (.cells #[.int .u8 t.byte] 5)).grown hgrow (by simp; omega) (fun j e => (own_lt HO.out e).1)
    have HZ := Lib.hid (And.intro hown2 hb6)
    clear hown' hgrow hown2 hb6
    go_wp2_with fail
    go_ret
    exact ⟨v', rfl, HZ.out.1, HZ.out.2⟩
  · have hokk : t.byte = 0 ∧ 3 ≤ t.len ∧ t.len ≤ 258 ∧ 1 ≤ t.back ∧ t.back ≤ 32768 := by
      unfold okTk at hok
      rw [if_neg h0] at hok
      exact of_decide_eq_true hok
    have d1 : (t.len == 0) = false := by simp [h0]
    obtain ⟨K, hK⟩ : ∃ K : Nat, t.len = (K : Int) := ⟨t.len.toNat, by omega⟩
    obtain ⟨Bk, hBk⟩ : ∃ Bk : Nat, t.back = (Bk : Int) := ⟨t.back.toNat, by omega⟩
    have HX := Lib.hid (show expTk t b = copyB K Bk b by unfold expTk; rw [if_neg h0, hK, hBk]; rfl)
    have hb1 : 1 ≤ Bk ∧ Bk ≤ b.length ∧ K ≤ 258 := by omega
    rw [HX.out]
    rw [hK] at y1 d1
    rw [hBk] at y2
    have hargs : (Value.agg #[.int .i64 t.byte, .int .i64 t.len, .int .i64 t.back]) = .agg #[.int .i64 t.byte, .int .i64 (K : Int), .int .i64 (Bk : Int)] := by rw [hK, hBk]
    rw [hargs]
    rw [hK, hBk] at hwA HTW
    clear h0 hok hokk hargs
    clear hK hBk
    go_enter Tryd.func24, Tryd.ntmps24
    go_wp2_with fail
    go_loopw [0, 16] (fun s0 s16 wr => ∃ i : Nat, s16 = .int .i64 (i : Int) ∧ i ≤ K ∧ Hid (wr.ownsRow base 5 1 s0 (copyB i Bk b).length (bvs (copyB i Bk b)) ∧ Whole wr w.heap.size 48 #[.int .i64 t.byte, .int .i64 (K : Int), .int .i64 (Bk : Int)] ∧ Below base w wr ∧ wA.heap.size ≤ wr.heap.size)) (fun _ s16 _ => K - (intOf s16).toNat)
    case atStart => exact ⟨0, rfl, by omega, Lib.hid ⟨HO.out, HTW.out, HB.out, Nat.le_refl _⟩⟩
    case round =>
      clear y0 y1 y2 lT
      obtain ⟨i, rfl, hi, HR⟩ := hrel
      obtain ⟨A1, c1, R1, rfl, -, -, h8⟩ := Row8.of_own HR.out.1 (copyB_byte HBY.out i)
      have hlen := copyB_len i Bk b
      by_cases hlt : i < K
      · have d2 : decide ((i : Int) < (K : Int)) = true := decide_eq_true (by omega)
        obtain ⟨y, hy⟩ : ∃ y, (copyB i Bk b)[(copyB i Bk b).length - Bk]? = some y := ⟨_, List.getElem?_eq_getElem (by omega)⟩
        have hsucc := copyB_succ i Bk b
        rw [List.getD_eq_getElem?_getD, hy] at hsucc
        have HSU := Lib.hid (show copyB (i + 1) Bk b = copyB i Bk b ++ [y] from hsucc)
        obtain ⟨R, o, rfl, hR, hc⟩ := h8.bytes.at_ (by omega)
        have cy := hc _ _ hy
        have h1cap := h8.cap
        have h1top := h8.top
        have y2 : wr.cell? ⟨w.heap.size, 2, none⟩ = some (.int .i64 (Bk : Int)) := HR.out.2.1.reads 2
        have lT := HR.out.2.1.lt
        obtain ⟨M, hM⟩ : ∃ M, (copyB i Bk b).length = M := ⟨_, rfl⟩
        obtain ⟨D, hD⟩ : ∃ D, M - Bk = D := ⟨_, rfl⟩
        have HMM := Lib.hid hM
        have HOr := Lib.hid HR.out.1
        rw [hM] at HOr cy hlen h1cap
        rw [hD] at cy
        have ewd : IntKind.i64.wrap ((M : Int) - (Bk : Int)) = (D : Int) := by rw [IntKind.wrap_i64]; omega
        have q1 : (0 : Int) ≤ (D : Int) := by omega
        have q2 : (D : Int) < (M : Int) := by omega
        have hszr := HR.out.2.2.2
        rw [hM]
        have hMb : M ≤ 1049000 := by omega
        clear hy hsucc hc hD hM h8 hlen
        go_wp2_with (at_builtin; refine wpList_append_own _ rfl _ _ 22 rfl base 5 i0 (.int .u8 0) 1 1 Tryd.underlying22 HI0.out.1 HI0.out.2.1 HI0.out.2.2.1 HI0.out.2.2.2 rfl (by decide) _ _ _ rfl (HOr.out.alloc _) ⟨wr.heap.size, 0, none⟩ 1 1 [.int .u8 (y : Int)] rfl rfl (World.news_of_block (cs := #[.int .u8 (y : Int)]) (t := 5) (fr := (0, 0)) (heap_alloc_new _ _)) ?p1 ?p2 ?p3 ?p4 ?_)
        case p1 => simp [Value.oneCell']
        case p2 => unfold maxLen; omega
        case p3 => omega
        case p4 => first | omega | (simp; omega)
        intro v' w6 hown' hgrow _
        have hown2 : w6.ownsRow base 5 1 v' (copyB (i + 1) Bk b).length (bvs (copyB (i + 1) Bk b)) := by rw [HSU.out, bvs_append, List.length_append, HMM.out]; exact hown'
        have hal : Below base w (wr.alloc (.cells #[.int .u8 (y : Int)] 5)) := HR.out.2.2.1.alloc (by omega) _
        have hb6 := hal.grown hgrow (by simp; omega) (fun j e => (own_lt HOr.out e).1)
        have hT6 := (HR.out.2.1.old (.cells #[.int .u8 (y : Int)] 5)).kept hgrow (fun e => by
          obtain ⟨-, -, cs, hc⟩ := own_lt HOr.out e.symm
          exact hc.apart HR.out.2.1 (by decide) rfl)
        have hs6 := hgrow.size
        simp only [World.size_alloc] at hs6
        have HZ := Lib.hid (And.intro hown2 (And.intro hT6 (And.intro hb6 (show wA.heap.size ≤ w6.heap.size by omega))))
        clear hown' hgrow hown2 hb6 hT6 hal
        go_wp2_with fail
        go_roundw
        case rel => exact ⟨i + 1, by go_num, by omega, HZ⟩
        case measure => simp [intOf]; omega
      · obtain rfl : i = K := by omega
        have d2 : decide ((i : Int) < (i : Int)) = false := by simp
        clear h8
        go_wp2_with fail
        go_ret
        exact ⟨_, rfl, HR.out.1, HR.out.2.2.1⟩
end Go.Proofs.YtnjdnldoopgcpaaDoor
/- inflate: Expand, Inflate. -/
namespace Go.Proofs.YtnjdnldoopgcpaaDoor
open Go.RowKit

theorem TksAt.later {w w' : World} {A : Option Addr} {n c : Nat} {l : List Tk} (h : TksAt w A n c l) (hb : Below w.heap.size w w') : TksAt w' A n c l := RowAt.below h hb
theorem expGo_step {most : Int} {l : List Tk} {i : Nat} {t : Tk} (b : List Nat) (h : l[i]? = some t) : expGo most (l.drop i) b = if (b.length : Int) < t.back then .error 4 else if most - b.length < tkSize t then .error 2 else expGo most (l.drop (i + 1)) (expTk t b) := by
  have hi := (List.getElem?_eq_some_iff.1 h).1
  have he := (List.getElem?_eq_some_iff.1 h).2
  rw [List.drop_eq_getElem_cons hi, he, expGo]
/-- What Expand answers. -/
def ExpIs (l : List Tk) (most : Int) (w : World) (e : Ending) (w' : World) : Prop :=
  (∃ (bs : List Nat) (A : Option Addr) (c : Nat), expandP l most = .ok bs ∧ e = .returned (.tuple #[.slice A bs.length c, .int .i64 0]) ∧ Bytes w' A bs.length c bs ∧ (bs.length : Int) ≤ most ∧ Below w.heap.size w w') ∨
  (∃ E, expandP l most = .error E ∧ E ≠ 0 ∧ e = .returned (.tuple #[.slice none 0 0, .int .i64 E]) ∧ Below w.heap.size w w')
theorem all_stepT {l : List Tk} {i : Nat} {t : Tk} (h : l[i]? = some t) (ha : (l.take i).all okTk = true) : (l.take (i + 1)).all okTk = okTk t := by
  rw [List.take_add_one, h, List.all_append, ha]
  simp
set_option maxRecDepth 100000 in
set_option maxHeartbeats 4000000 in
theorem expand_any (A : Option Addr) (n c : Nat) (l : List Tk) (most : Int) (w : World) (h : TksAt w A n c l) (hn : n ≤ 100000000) :
    Calls Tryd.prog 8 #[.slice A n c, .int .i64 most] w (ExpIs l most w) := by
  have hl := h.len
  rw [List.length_map] at hl
  have hcap := h.cap
  have htop := h.top
  have HAL := Lib.hid (allowed_any most w)
  have H0 := Lib.hid h
  clear h
  by_cases hm : 0 ≤ most ∧ most ≤ 1048576
  rotate_left
  · rw [decide_eq_false hm] at HAL
    have HT := Lib.hid (show expandP l most = .error 1 by unfold expandP; rw [if_neg hm])
    clear hm
    go_enter Tryd.func8, Tryd.ntmps8
    go_wp2_with fail
    refine HAL.out.mono ?_
    rintro e w0 ⟨rfl, hb⟩
    have HB0 := Lib.hid hb
    clear hb
    go_wp2_with fail
    go_ret2
    exact .inr ⟨1, HT.out, by decide, rfl, HB0.out⟩
  rw [decide_eq_true hm] at HAL
  have HT := Lib.hid (show expandP l most = if l.all okTk then expGo most l [] else .error 1 by unfold expandP; rw [if_pos hm])
  go_enter Tryd.func8, Tryd.ntmps8
  go_wp2_with fail
  refine HAL.out.mono ?_
  rintro e w0 ⟨rfl, hb⟩
  have HB0 := Lib.hid hb
  clear hb HAL
  go_wp2_with fail
  go_loopw [16] (fun s16 wr => ∃ i : Nat, s16 = .int .i64 (i : Int) ∧ i ≤ n ∧ Hid ((l.take i).all okTk = true ∧ Below w.heap.size w wr)) (fun s16 _ => n - (intOf s16).toNat)
  case atStart => exact ⟨0, rfl, by omega, Lib.hid ⟨by simp, HB0.out⟩⟩
  case round =>
    obtain ⟨i, rfl, hi, HR⟩ := hrel
    by_cases hlt : i < n
    · have d1 : decide ((i : Int) < (n : Int)) = true := decide_eq_true (by omega)
      obtain ⟨t, ht⟩ : ∃ t, l[i]? = some t := ⟨_, List.getElem?_eq_getElem (by omega)⟩
      obtain ⟨R, o, rfl, hR, k0, k1, k2⟩ := (H0.out.later HR.out.2).get ht
      have HS := Lib.hid (all_stepT ht HR.out.1)
      have HMEM := Lib.hid (List.mem_of_getElem? ht)
      obtain ⟨wA, hwA⟩ : ∃ wA, wr.alloc (.cells #[.int .i64 t.byte, .int .i64 t.len, .int .i64 t.back] 48) = wA := ⟨_, rfl⟩
      have hbA : Below w.heap.size w wA := by rw [← hwA]; exact HR.out.2.alloc HR.out.2.size _
      have hT : Whole wA wr.heap.size 48 #[.int .i64 t.byte, .int .i64 t.len, .int .i64 t.back] := by rw [← hwA]; exact Whole.made _ _ _
      have y0 : wA.cell? ⟨wr.heap.size, 0, none⟩ = some (.int .i64 t.byte) := hT.reads 0
      have y1 : wA.cell? ⟨wr.heap.size, 1, none⟩ = some (.int .i64 t.len) := hT.reads 1
      have y2 : wA.cell? ⟨wr.heap.size, 2, none⟩ = some (.int .i64 t.back) := hT.reads 2
      have lT := hT.lt
      have HV := Lib.hid (valid_any t wA)
      have HBA := Lib.hid hbA
      have b1 : (0 : Int) ≤ (i : Int) := by omega
      have b2 : (i : Int) < (n : Int) := by omega
      obtain ⟨v, hv⟩ : ∃ v, okTk t = v := ⟨_, rfl⟩
      rw [hv] at HV HS
      have HVV := Lib.hid hv
      clear ht hbA hv hT
      go_wp2_with fail
      refine HV.out.mono ?_
      rintro e w3 ⟨rfl, hb⟩
      have HB3 := Lib.hid (HBA.out.trans (hb.mono HBA.out.size))
      clear hb k0 k1 k2 y0 y1 y2 lT
      cases v
      · have HZ := Lib.hid (show expandP l most = .error 1 by
          rw [HT.out, if_neg]
          intro hall
          have := List.all_eq_true.1 hall t HMEM.out
          rw [HVV.out] at this
          cases this)
        go_wp2_with fail
        go_ret2
        exact .inr ⟨1, HZ.out, by decide, rfl, HB3.out⟩
      · go_wp2_with fail
        go_roundw
        case rel => exact ⟨i + 1, by go_num, by omega, Lib.hid ⟨HS.out, HB3.out⟩⟩
        case measure => simp [intOf]; omega
    · obtain rfl : i = n := by omega
      have d1 : decide ((i : Int) < (i : Int)) = false := by simp
      have hall : l.all okTk = true := by have := HR.out.1; rwa [List.take_of_length_le (by omega)] at this
      have HALL := Lib.hid hall
      have HT2 := Lib.hid (show expandP l most = expGo most l [] by rw [HT.out, if_pos hall])
      have HB1 := Lib.hid HR.out.2
      rename World => w1
      clear hall
      go_wp2_with fail
      go_loopw [8, 26] (fun s8 s26 wr => ∃ (k : Nat) (b : List Nat), s26 = .int .i64 (k : Int) ∧ k ≤ i ∧ (b.length : Int) ≤ most ∧ Hid (expGo most l [] = expGo most (l.drop k) b) ∧ Hid (wr.ownsRow w.heap.size 5 1 s8 b.length (bvs b) ∧ (∀ x ∈ b, x < 256) ∧ Below w.heap.size w wr)) (fun _ s26 _ => i - (intOf s26).toNat)
      case atStart => exact ⟨0, [], rfl, by omega, hm.1, Lib.hid (by rw [List.drop_zero]), Lib.hid ⟨World.ownsRow_nil _ _ _ _, by simp, HB1.out⟩⟩
      case round =>
        clear HR
        obtain ⟨k, b, rfl, hk, hbm, HE, HR⟩ := hrel
        obtain ⟨a0, cc, rfl⟩ := own_slM HR.out.1
        by_cases hlt : k < i
        · have d2 : decide ((k : Int) < (i : Int)) = true := decide_eq_true (by omega)
          obtain ⟨t, ht⟩ : ∃ t, l[k]? = some t := ⟨_, List.getElem?_eq_getElem (by omega)⟩
          obtain ⟨R, o, rfl, hR, k0, k1, k2⟩ := (H0.out.later HR.out.2.2).get ht
          have hok : okTk t = true := List.all_eq_true.1 HALL.out t (List.mem_of_getElem? ht)
          have HS := Lib.hid (expGo_step (most := most) b ht)
          rename World => wr
          obtain ⟨wA, hwA⟩ : ∃ wA, wr.alloc (.cells #[.int .i64 t.byte, .int .i64 t.len, .int .i64 t.back] 48) = wA := ⟨_, rfl⟩
          have hal : Below wr.heap.size wr wA := by rw [← hwA]; exact (Below.refl _ _).alloc (Nat.le_refl _) _
          have hT : Whole wA wr.heap.size 48 #[.int .i64 t.byte, .int .i64 t.len, .int .i64 t.back] := by rw [← hwA]; exact Whole.made _ _ _
          have HBA := Lib.hid (HR.out.2.2.trans (hal.mono HR.out.2.2.size))
          have HOA := Lib.hid (own_new HR.out.1 hal)
          have y0 : wA.cell? ⟨wr.heap.size, 0, none⟩ = some (.int .i64 t.byte) := hT.reads 0
          have y1 : wA.cell? ⟨wr.heap.size, 1, none⟩ = some (.int .i64 t.len) := hT.reads 1
          have y2 : wA.cell? ⟨wr.heap.size, 2, none⟩ = some (.int .i64 t.back) := hT.reads 2
          have lT := hT.lt
          have HTA := Lib.hid hT
          have b1 : (0 : Int) ≤ (k : Int) := by omega
          have b2 : (k : Int) < (i : Int) := by omega
          clear ht hal hT
          by_cases hbk : (b.length : Int) < t.back
          · have d3 : decide (t.back > (b.length : Int)) = true := decide_eq_true hbk
            have HZ := Lib.hid (show expandP l most = .error 4 by rw [HT2.out, HE.out, HS.out, if_pos hbk])
            clear hbk
            go_wp2_with fail
            go_ret2
            exact .inr ⟨4, HZ.out, by decide, rfl, HBA.out⟩
          · have d3 : decide (t.back > (b.length : Int)) = false := decide_eq_false hbk
            rw [if_neg hbk] at HS
            have ewm : IntKind.i64.wrap (most - (b.length : Int)) = most - (b.length : Int) := by rw [IntKind.wrap_i64]; omega
            have hbk' : t.back ≤ b.length := by omega
            clear hbk
            have HSZ := Lib.hid (size_any t wA)
            go_wp2_with fail
            refine HSZ.out.mono ?_
            rintro e w4 ⟨rfl, hb⟩
            have HB4 := Lib.hid (HBA.out.trans (hb.mono HBA.out.size))
            have HO4 := Lib.hid (own_new HOA.out hb)
            have hT4 := HTA.out.here hb
            have z0 : w4.cell? ⟨wr.heap.size, 0, none⟩ = some (.int .i64 t.byte) := hT4.reads 0
            have z1 : w4.cell? ⟨wr.heap.size, 1, none⟩ = some (.int .i64 t.len) := hT4.reads 1
            have z2 : w4.cell? ⟨wr.heap.size, 2, none⟩ = some (.int .i64 t.back) := hT4.reads 2
            have lT4 := hT4.lt
            clear hb hT4 y0 y1 y2 lT k0 k1 k2
            by_cases hbig : most - b.length < tkSize t
            · have d4 : decide (tkSize t > most - (b.length : Int)) = true := decide_eq_true hbig
              have HZ := Lib.hid (show expandP l most = .error 2 by rw [HT2.out, HE.out, HS.out, if_pos hbig])
              clear hbig
              go_wp2_with fail
              go_ret2
              exact .inr ⟨2, HZ.out, by decide, rfl, HB4.out⟩
            · have d4 : decide (tkSize t > most - (b.length : Int)) = false := decide_eq_false hbig
              rw [if_neg hbig] at HS
              have HAP := Lib.hid (appTk_any w.heap.size _ b t w4 HO4.out HB4.out.size hok hbk' HR.out.2.1 (by omega))
              have hlen := expTk_len hok b
              have HBY := Lib.hid (expTk_byte hok HR.out.2.1)
              have hle : ((expTk t b).length : Int) ≤ most := by omega
              clear hbig hlen
              go_wp2_with fail
              refine HAP.out.mono ?_
              rintro e w5 ⟨v', rfl, hown, hb⟩
              have HZ := Lib.hid (And.intro hown (HB4.out.trans hb))
              clear hown hb z0 z1 z2 lT4
              go_wp2_with fail
              go_roundw
              case rel => exact ⟨k + 1, expTk t b, by go_num, by omega, hle, Lib.hid (by rw [HE.out, HS.out]), Lib.hid ⟨HZ.out.1, HBY.out, HZ.out.2⟩⟩
              case measure => simp [intOf]; omega
        · obtain rfl : k = i := by omega
          have d2 : decide ((k : Int) < (k : Int)) = false := by simp
          obtain ⟨A1, c1, R1, e1, -, -, h8⟩ := Row8.of_own HR.out.1 HR.out.2.1
          have HZ := Lib.hid (And.intro (show expandP l most = .ok b by rw [HT2.out, HE.out, List.drop_of_length_le (by omega), expGo]) (And.intro e1 h8.bytes))
          clear e1 h8
          go_wp2_with fail
          go_ret2
          refine .inl ⟨b, A1, c1, HZ.out.1, ?_, HZ.out.2.2, hbm, HR.out.2.2⟩
          rw [← HZ.out.2.1]
          rfl
/-- What Inflate answers. -/
def InfIs (bs : List Nat) (most : Int) (w : World) (e : Ending) (w' : World) : Prop :=
  (∃ (x : List Nat) (used : Nat) (A : Option Addr) (c : Nat), inflP bs most = .ok (x, used) ∧ e = .returned (.tuple #[.slice A x.length c, .int .i64 (used : Int), .int .i64 0]) ∧ Bytes w' A x.length c x ∧ (x.length : Int) ≤ most ∧ used ≤ bs.length ∧ Below w.heap.size w w') ∨
  (∃ E, inflP bs most = .error E ∧ E ≠ 0 ∧ e = .returned (.tuple #[.slice none 0 0, .int .i64 0, .int .i64 E]) ∧ Below w.heap.size w w')
theorem inflP_tok {bs : List Nat} {most E : Int} (h : tokensP bs most = .error E) : inflP bs most = .error E := by unfold inflP; rw [h]
theorem inflP_exp {bs : List Nat} {most E : Int} {l : List Tk} {n : Nat} (h : tokensP bs most = .ok (l, n)) (h2 : expandP l most = .error E) : inflP bs most = .error E := by unfold inflP; rw [h]; simp only [h2]
theorem inflP_ok {bs x : List Nat} {most : Int} {l : List Tk} {n : Nat} (h : tokensP bs most = .ok (l, n)) (h2 : expandP l most = .ok x) : inflP bs most = .ok (x, n) := by unfold inflP; rw [h]; simp only [h2]
set_option maxRecDepth 100000 in
set_option maxHeartbeats 2000000 in
theorem inflate_any (A : Option Addr) (n c : Nat) (bs : List Nat) (most : Int) (w : World) (h : Bytes w A n c bs) (hn : n ≤ 100000000) (hE : Env w) :
    Calls Tryd.prog 10 #[.slice A n c, .int .i64 most] w (InfIs bs most w) := by
  have HTK := Lib.hid (tokens_any A n c bs most w h hn hE)
  clear h hE
  go_enter Tryd.func10, Tryd.ntmps10
  go_wp2_with fail
  refine HTK.out.mono ?_
  rintro e w1 (⟨toks, used, A1, c1, hp, rfl, hr, hle, hu, hb⟩ | ⟨E, hp, hE, rfl, hb⟩)
  · have HB1 := Lib.hid hb
    have HP := Lib.hid hp
    have HEX := Lib.hid (expand_any A1 _ c1 toks most w1 hr (by omega))
    clear hb hp hr
    go_wp2_with fail
    refine HEX.out.mono ?_
    rintro e w2 (⟨x, A2, c2, hp2, rfl, hby, hxm, hb⟩ | ⟨E, hp2, hE, rfl, hb⟩)
    · have HZ := Lib.hid (And.intro (inflP_ok HP.out hp2) (And.intro hby (HB1.out.trans (hb.mono HB1.out.size))))
      clear hb hp2 hby
      go_wp2_with fail
      go_ret3
      exact .inl ⟨x, used, A2, c2, HZ.out.1, rfl, HZ.out.2.1, hxm, hu, HZ.out.2.2⟩
    · have d1 : (E != 0) = true := by simp [hE]
      have HZ := Lib.hid (And.intro (inflP_exp HP.out hp2) (HB1.out.trans (hb.mono HB1.out.size)))
      clear hb hp2
      go_wp2_with fail
      go_ret3
      exact .inr ⟨E, HZ.out.1, hE, rfl, HZ.out.2⟩
  · have d1 : (E != 0) = true := by simp [hE]
    have HZ := Lib.hid (And.intro (inflP_tok hp) hb)
    clear hb hp
    go_wp2_with fail
    go_ret3
    exact .inr ⟨E, HZ.out.1, hE, rfl, HZ.out.2⟩
end Go.Proofs.YtnjdnldoopgcpaaDoor
