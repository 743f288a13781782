/- lex: limited, hexByte, name. -/
import Derived.Test.YtdiaijdobglaaaaGreatDoorLexD
namespace Go.Proofs.YtdiaijdobglaaaaGreatDoor
open Go.RowKit

/-- A token as a value. -/
def tokV (t : TokV) : Value := .agg #[.int .i64 t.kind, .int .i64 t.m, .int .i64 t.s, .string (strB t.text)]
def TokAns (e0 : Int) (t : TokV) (w : World) (e : Ending) (w' : World) : Prop := e = .returned (.tuple #[tokV t, .int .i64 e0]) ∧ Below w.heap.size w w'
def limT (kind : Int) : Option (List Nat) → Int × TokV
  | none => (4, noTok)
  | some t => if 65535 < t.length then (2, noTok) else (0, ⟨kind, 0, 0, t⟩)
theorem limL_T (k : Int) (o : Option (List Nat × List Nat)) : (limL k o).1 = (limT k (o.map (·.1))).1 ∧ (limL k o).2.1 = (limT k (o.map (·.1))).2 := by
  cases o with
  | none => exact ⟨rfl, rfl⟩
  | some x =>
    obtain ⟨a, r⟩ := x
    unfold limL limT
    simp only [Option.map_some]
    split <;> exact ⟨rfl, rfl⟩
set_option maxRecDepth 100000 in
set_option maxHeartbeats 4000000 in
theorem limited_any (kd : Int) (A : Option Addr) (n c : Nat) (t : List Nat) (w : World) (h : Bytes w A n c t) :
    Calls Tryz.prog 58 #[.int .i64 kd, .slice A n c] w (TokAns (limT kd (some t)).1 (limT kd (some t)).2 w) := by
  have hl := h.len
  have hcv := h.below ((Below.refl w.heap.size w).alloc (Nat.le_refl _) (.cells #[.int .i64 0, .int .i64 0, .int .i64 0, .string ⟨#[]⟩] 27)) |>.str
  unfold limT
  subst hl
  by_cases hl : 65535 < t.length
  · have HL := Lib.hid hl
    simp only [if_pos hl]
    clear h
    go_enter Tryz.func58, Tryz.ntmps58
    go_wp2_with fail
    exact bodyPost_ret (v := .tuple #[tokV noTok, .int .i64 2]) (by simp [results, Tryz.results58, go_sem, tokV, noTok]; rfl) rfl ⟨rfl, (Below.refl _ _).alloc (Nat.le_refl _) _⟩
  · simp only [if_neg hl]
    clear h
    go_enter Tryz.func58, Tryz.ntmps58
    go_wp2_with fail
    exact bodyPost_ret (v := .tuple #[tokV ⟨kd, 0, 0, t⟩, .int .i64 0]) (by simp [results, Tryz.results58, go_sem, tokV]) rfl ⟨rfl, (Below.refl _ _).alloc (Nat.le_refl _) _⟩
/-- What hexByte answers. -/
def HexSaid (R : Nat) (A : Option Addr) (n c : Nat) (bs : List Nat) (k : Nat) (w : World) (e : Ending) (w' : World) : Prop :=
  (∃ x y a b : Nat, Moved R A n c bs (k + 2) (.tuple #[.int .u8 ((16 * a + b : Nat) : Int), .bool true]) w e w' ∧ bs[k]? = some x ∧ bs[k + 1]? = some y ∧ hexD x = some a ∧ hexD y = some b) ∨
  (∃ v k', Moved R A n c bs k' (.tuple #[.int .u8 v, .bool false]) w e w' ∧ (n < k + 2 ∨ ∃ x y, bs[k]? = some x ∧ bs[k + 1]? = some y ∧ (hexD x = none ∨ hexD y = none)))
set_option maxRecDepth 100000 in
set_option maxHeartbeats 4000000 in
theorem hexByte_any (R : Nat) (A : Option Addr) (n c : Nat) (bs : List Nat) (k : Nat) (w : World) (h : Rdr w R A n c bs k) :
    Calls Tryz.prog 57 #[.pointer (some ⟨R, 0, none⟩)] w (HexSaid R A n c bs k w) := by
  obtain ⟨c0, c1, c2, hRl⟩ := h.cells
  have hcap := h.bytes.cap
  have htop := h.bytes.top
  have hsm := h.small
  have hle := h.le
  have H := Lib.hid h
  by_cases h2 : n < k + 2
  · have d : decide ((n : Int) - (k : Int) < 2) = true := decide_eq_true (by omega)
    have H2 := Lib.hid h2
    clear h h2
    go_enter Tryz.func57, Tryz.ntmps57
    go_wp2_with fail
    go_quiet (fail)
    go_wp2_with fail
    go_ret2
    exact .inr ⟨0, k, ⟨rfl, H.out.drewN _, (Fr.refl _ w).drewN _⟩, .inl H2.out⟩
  · have d : decide ((n : Int) - (k : Int) < 2) = false := decide_eq_false (by omega)
    obtain ⟨B, o, x, rfl, hBR, hB, hc, hx, hx2⟩ := h.at_ (by omega)
    have hyl : k + 1 < bs.length := by rw [h.len]; omega
    obtain ⟨y, hy⟩ : ∃ y, bs[k + 1]? = some y := ⟨_, List.getElem?_eq_getElem hyl⟩
    have hy2 := h.bytes.byte y (List.mem_of_getElem? hy)
    have HX := Lib.hid hx
    have HY := Lib.hid hy
    have HV := Lib.hid (fun w => hexValue_any x w hx2)
    have HW := Lib.hid (fun w => hexValue_any y w hy2)
    clear h h2 hx hy hyl hc hB hBR
    unfold hexV at HV HW
    cases hv : hexD x with
    | none =>
      have HDX := Lib.hid hv
      rw [hv] at HV
      cases hw : hexD y with
      | none =>
        rw [hw] at HW
        clear hv hw
        go_enter Tryz.func57, Tryz.ntmps57
        go_wp2_with fail
        go_quiet (fail)
        go_wp2_with fail
        refine (take_any R _ n c bs k x _ (H.out.drewN _) HX.out).mono ?_
        rintro e w1 ⟨rfl, hr, hf⟩
        have HR1 := Lib.hid hr
        have HF1 := Lib.hid (Fr.from _ hf)
        clear hr hf
        go_wp2_with fail
        refine (HV.out _).mono ?_
        rintro e w2 ⟨rfl, rfl⟩
        go_wp2_with fail
        refine (take_any R _ n c bs (k + 1) y _ HR1.out HY.out).mono ?_
        rintro e w2 ⟨rfl, hr, hf⟩
        have HR2 := Lib.hid hr
        have HF2 := Lib.hid (FrR.trans HF1.out hf)
        clear hr hf
        go_wp2_with fail
        refine (HW.out _).mono ?_
        rintro e w3 ⟨rfl, rfl⟩
        go_wp2_with fail
        go_ret2
        exact .inr ⟨_, k + 1 + 1, ⟨rfl, HR2.out, HF2.out⟩, .inr ⟨x, y, HX.out, HY.out, .inl HDX.out⟩⟩
      | some b =>
        have hb16 := hexD_lt hw
        rw [hw] at HW
        clear hv hw
        go_enter Tryz.func57, Tryz.ntmps57
        go_wp2_with fail
        go_quiet (fail)
        go_wp2_with fail
        refine (take_any R _ n c bs k x _ (H.out.drewN _) HX.out).mono ?_
        rintro e w1 ⟨rfl, hr, hf⟩
        have HR1 := Lib.hid hr
        have HF1 := Lib.hid (Fr.from _ hf)
        clear hr hf
        go_wp2_with fail
        refine (HV.out _).mono ?_
        rintro e w2 ⟨rfl, rfl⟩
        go_wp2_with fail
        refine (take_any R _ n c bs (k + 1) y _ HR1.out HY.out).mono ?_
        rintro e w2 ⟨rfl, hr, hf⟩
        have HR2 := Lib.hid hr
        have HF2 := Lib.hid (FrR.trans HF1.out hf)
        clear hr hf
        go_wp2_with fail
        refine (HW.out _).mono ?_
        rintro e w3 ⟨rfl, rfl⟩
        go_wp2_with fail
        go_ret2
        exact .inr ⟨_, k + 1 + 1, ⟨rfl, HR2.out, HF2.out⟩, .inr ⟨x, y, HX.out, HY.out, .inl HDX.out⟩⟩
    | some a =>
      have ha16 := hexD_lt hv
      have HDX := Lib.hid hv
      rw [hv] at HV
      cases hw : hexD y with
      | none =>
        have HDY := Lib.hid hw
        rw [hw] at HW
        clear hv hw
        go_enter Tryz.func57, Tryz.ntmps57
        go_wp2_with fail
        go_quiet (fail)
        go_wp2_with fail
        refine (take_any R _ n c bs k x _ (H.out.drewN _) HX.out).mono ?_
        rintro e w1 ⟨rfl, hr, hf⟩
        have HR1 := Lib.hid hr
        have HF1 := Lib.hid (Fr.from _ hf)
        clear hr hf
        go_wp2_with fail
        refine (HV.out _).mono ?_
        rintro e w2 ⟨rfl, rfl⟩
        go_wp2_with fail
        refine (take_any R _ n c bs (k + 1) y _ HR1.out HY.out).mono ?_
        rintro e w2 ⟨rfl, hr, hf⟩
        have HR2 := Lib.hid hr
        have HF2 := Lib.hid (FrR.trans HF1.out hf)
        clear hr hf
        go_wp2_with fail
        refine (HW.out _).mono ?_
        rintro e w3 ⟨rfl, rfl⟩
        go_wp2_with fail
        go_ret2
        exact .inr ⟨_, k + 1 + 1, ⟨rfl, HR2.out, HF2.out⟩, .inr ⟨x, y, HX.out, HY.out, .inr HDY.out⟩⟩
      | some b =>
        have hb16 := hexD_lt hw
        have HDY := Lib.hid hw
        rw [hw] at HW
        clear hv hw
        go_enter Tryz.func57, Tryz.ntmps57
        go_wp2_with fail
        go_quiet (fail)
        go_wp2_with fail
        refine (take_any R _ n c bs k x _ (H.out.drewN _) HX.out).mono ?_
        rintro e w1 ⟨rfl, hr, hf⟩
        have HR1 := Lib.hid hr
        have HF1 := Lib.hid (Fr.from _ hf)
        clear hr hf
        go_wp2_with fail
        refine (HV.out _).mono ?_
        rintro e w2 ⟨rfl, rfl⟩
        go_wp2_with fail
        refine (take_any R _ n c bs (k + 1) y _ HR1.out HY.out).mono ?_
        rintro e w2 ⟨rfl, hr, hf⟩
        have HR2 := Lib.hid hr
        have HF2 := Lib.hid (FrR.trans HF1.out hf)
        clear hr hf
        go_wp2_with fail
        refine (HW.out _).mono ?_
        rintro e w3 ⟨rfl, rfl⟩
        go_wp2_with fail
        go_ret2
        refine .inl ⟨x, y, a, b, ⟨?_, HR2.out, HF2.out⟩, HX.out, HY.out, HDX.out, HDY.out⟩
        have e1 : ((16 * a + b : Nat) : Int) = (a : Int) * 16 + (b : Int) := by omega
        rw [e1]
        rfl
end Go.Proofs.YtdiaijdobglaaaaGreatDoor
