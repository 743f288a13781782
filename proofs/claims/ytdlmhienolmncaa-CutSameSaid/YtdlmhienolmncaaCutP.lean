/- cut: join; behind. -/
import Derived.Test.YtdlmhienolmncaaCutO
import Derived.Test.YtdlmhienolmncaaStrB
namespace Go.Proofs.Ytdlmhienolmncaa
open Go.RowKit Dec

theorem allT_snoc (l : List Pc) (p : Pc) : allT (l ++ [p]) = allT l ++ p.text.data.toList := by unfold allT; simp
theorem allT_step {l : List Pc} {k : Nat} {p : Pc} (h : l[k]? = some p) : allT (l.take (k + 1)) = allT (l.take k) ++ p.text.data.toList := by
  rw [List.take_add_one, h, Option.toList_some, allT_snoc]
theorem strCells_is (s : ByteArray) : Lib.strCells s = Lib.byteCells s.data.toList := rfl
theorem byteCells_app (a b : List UInt8) : Lib.byteCells (a ++ b) = Lib.byteCells a ++ Lib.byteCells b := by unfold Lib.byteCells; rw [List.map_append]
theorem allT_len (l : List Pc) (h : ∀ p ∈ l, p.text.size ≤ 32) : (allT l).length ≤ 32 * l.length := by
  induction l with
  | nil => simp [allT]
  | cons p l ih =>
    have := h p (List.mem_cons_self ..)
    have h2 := ih (fun q hq => h q (List.mem_cons_of_mem _ hq))
    unfold allT at h2 ⊢
    simp only [List.map_cons, List.flatten_cons, List.length_append, List.length_cons]
    have e : p.text.data.toList.length = p.text.size := Array.length_toList
    omega
set_option maxRecDepth 100000 in
set_option maxHeartbeats 4000000 in
theorem join_any (A : Option Addr) (n c : Nat) (ps : List Pc) (w : World) (h : PcsAt w A n c ps) (hn : n ≤ 1000000) :
    Calls Try.prog 34 #[.slice A n c] w fun e w' => e = .returned (.string ⟨(allT ps).toArray⟩) ∧ Below w.heap.size w w' := by
  have hcap := h.row.cap
  have htop := h.row.top
  have HL := Lib.hid h.len
  have H := Lib.hid h
  clear h
  go_enter Try.func34, Try.ntmps34
  go_wp2_with fail
  go_loopw [8] (fun i wr => ∃ k : Nat, i = .int .i64 (k : Int) ∧ k ≤ n ∧ Hid (Lib.IsBuilder 115 5 w.heap.size w.heap.size (Lib.byteCells (allT (ps.take k))) wr) ∧ Hid (Below w.heap.size w wr)) (fun i _ => n - (intOf i).toNat)
  case atStart => exact ⟨0, rfl, by omega, Lib.hid (Lib.fresh_isBuilder _ _ w), Lib.hid ((Below.refl _ _).alloc (Nat.le_refl _) _)⟩
  case round =>
    obtain ⟨k, rfl, hk, HR, HB⟩ := hrel
    have hsz := HB.out.size
    by_cases hlt : k < n
    · have d1 : decide ((k : Int) < (n : Int)) = true := decide_eq_true (by omega)
      obtain ⟨p, hp⟩ : ∃ p, ps[k]? = some p := ⟨_, List.getElem?_eq_getElem (by rw [HL.out]; exact hlt)⟩
      obtain ⟨R, o, rfl, hR, ⟨g0, g1, g2, g3, g4, g5, g6, g7, g8, g9⟩, h32, hfin, -⟩ := (H.out.below HB.out).get hp
      have HS := Lib.hid (allT_step hp)
      have hlen : (Lib.byteCells (allT (ps.take k))).length + p.text.size ≤ 1000000000 := by
        rw [Lib.byteCells_length]
        have := allT_len (ps.take k) (fun q hq => (H.out.small q (List.mem_of_mem_take hq)).1)
        rw [List.length_take] at this
        omega
      have hbb := (HB.out.alloc HB.out.size (.cells #[.string p.text, .int .i64 (p.fin : Int), .int .i64 p.box.x0.m, .int .i64 p.box.x0.s, .int .i64 p.box.y0.m, .int .i64 p.box.y0.s, .int .i64 p.box.x1.m, .int .i64 p.box.x1.s, .int .i64 p.box.y1.m, .int .i64 p.box.y1.s] 111))
      have hR2 : Lib.IsBuilder 115 5 w.heap.size w.heap.size (Lib.byteCells (allT (ps.take k))) (wr.alloc (.cells #[.string p.text, .int .i64 (p.fin : Int), .int .i64 p.box.x0.m, .int .i64 p.box.x0.s, .int .i64 p.box.y0.m, .int .i64 p.box.y0.s, .int .i64 p.box.x1.m, .int .i64 p.box.x1.s, .int .i64 p.box.y1.m, .int .i64 p.box.y1.s] 111)) := by
        have hal : ∀ q, Lib.BuilderAt 115 5 w.heap.size w.heap.size q (Lib.byteCells (allT (ps.take k))) wr → Lib.BuilderAt 115 5 w.heap.size w.heap.size q (Lib.byteCells (allT (ps.take k))) (wr.alloc (.cells #[.string p.text, .int .i64 (p.fin : Int), .int .i64 p.box.x0.m, .int .i64 p.box.x0.s, .int .i64 p.box.y0.m, .int .i64 p.box.y0.s, .int .i64 p.box.x1.m, .int .i64 p.box.x1.s, .int .i64 p.box.y1.m, .int .i64 p.box.y1.s] 111)) := fun q hq => by
          have lt := hq.lt
          obtain ⟨hB, v, hbk, hown, hne⟩ := hq
          exact ⟨hB, v, (Below.heap_alloc wr _ _ lt).trans hbk, hown.alloc _, hne⟩
        rcases HR.out with h | h
        · exact .inl (hal _ h)
        · exact .inr (hal _ h)
      have HWS := Lib.hid (writeString_any w.heap.size w.heap.size _ p.text _ hR2 hlen (by simp; omega))
      have HBB := Lib.hid hbb
      clear hp hR2 hbb hlen
      go_wp2_with fail
      refine HWS.out.mono ?_
      rintro e w2 ⟨rfl, hbu, hb⟩
      have HZ := Lib.hid (And.intro hbu (HBB.out.trans (by exact hb)))
      clear hbu hb g0 g1 g2 g3 g4 g5 g6 g7 g8 g9
      go_wp2_with fail
      go_roundw
      case rel => exact ⟨k + 1, by go_num, by omega, Lib.hid (.inr (by rw [HS.out, byteCells_app]; exact HZ.out.1)), Lib.hid HZ.out.2⟩
      case measure => simp [intOf]; omega
    · obtain rfl : k = n := by omega
      have d1 : decide ((k : Int) < (k : Int)) = false := by simp
      rw [List.take_of_length_le (by rw [HL.out]; exact Nat.le_refl _)] at HR
      have HSS := Lib.hid (Try.Builder_String_any w.heap.size w.heap.size (allT ps) wr HR.out HB.out.size)
      go_wp2_with fail
      refine HSS.out.mono ?_
      rintro e w2 ⟨rfl, hb⟩
      have HZ := Lib.hid (HB.out.trans hb)
      clear hb
      go_wp2_with fail
      go_ret
      exact ⟨rfl, HZ.out⟩
theorem PcsAt.drop {w : World} {R o n c : Nat} {l : List Pc} (h : PcsAt w (some ⟨R, o, none⟩) n c l) {d : Nat} (hd : d ≤ n) : PcsAt w (some ⟨R, o + d * 10, none⟩) (n - d) (c - d) (l.drop d) := by
  have hr := h.row.part d n hd (Nat.le_refl _)
  rw [← List.map_drop, List.take_of_length_le (by rw [List.length_map, List.length_drop, h.len]; exact Nat.le_refl _)] at hr
  exact ⟨hr, fun p hp => h.small p (List.mem_of_mem_drop hp)⟩
theorem behind_drop {ps : List Pc} {k d : Nat} {p : Pc} (hd : ps[d]? = some p) (hp : k < p.fin) (hb : ∀ i q, i < d → ps[i]? = some q → q.fin ≤ k) : behindP ps k = ps.drop d := by
  induction d generalizing ps with
  | zero =>
    cases ps with
    | nil => simp at hd
    | cons a ps =>
      simp at hd
      subst hd
      unfold behindP
      rw [List.dropWhile_cons_of_neg (by simp; omega), List.drop_zero]
  | succ d ih =>
    cases ps with
    | nil => simp at hd
    | cons a ps =>
      have h0 := hb 0 a (by omega) rfl
      have := ih (ps := ps) (by simpa using hd) (fun i q hi hq => hb (i + 1) q (by omega) (by simpa using hq))
      unfold behindP at this ⊢
      rw [List.dropWhile_cons_of_pos (by simpa using h0), this, List.drop_succ_cons]
set_option maxRecDepth 100000 in
set_option maxHeartbeats 4000000 in
theorem behind_any (R o n c : Nat) (ps : List Pc) (k : Nat) (w : World) (h : PcsAt w (some ⟨R, o, none⟩) n c ps) (hex : ∃ p ∈ ps, k < p.fin) :
    Calls Try.prog 36 #[.slice (some ⟨R, o, none⟩) n c, .int .i64 (k : Int)] w fun e w' => ∃ d, d < n ∧ e = .returned (.slice (some ⟨R, o + d * 10, none⟩) (n - d) (c - d)) ∧ behindP ps k = ps.drop d ∧ w' = w := by
  have hcap := h.row.cap
  have htop := h.row.top
  have HL := Lib.hid h.len
  have H := Lib.hid h
  have HX := Lib.hid hex
  clear h hex
  go_enter Try.func36, Try.ntmps36
  go_wp2_with fail
  go_loopw [0] (fun v wr => ∃ d m e : Nat, d + m = n ∧ d + e = c ∧ v = .slice (some ⟨R, o + d * 10, none⟩) m e ∧ wr = w ∧ Hid (∀ i q, i < d → ps[i]? = some q → q.fin ≤ k)) (fun v _ => match v with | .slice _ m _ => m | _ => 0)
  case atStart => exact ⟨0, n, c, by omega, by omega, by simp, rfl, Lib.hid (fun i q hi => absurd hi (by omega))⟩
  case round =>
    obtain ⟨d, m, e, hdm, hde, rfl, rfl, HI⟩ := hrel
    have hdn : d < n := by
      rcases Nat.lt_or_ge d n with h | h
      · exact h
      · obtain ⟨p, hp, hp2⟩ := HX.out
        obtain ⟨i, hi, rfl⟩ := List.mem_iff_getElem.1 hp
        have := HI.out i _ (by have := HL.out; omega) (List.getElem?_eq_getElem hi)
        omega
    obtain ⟨p, hp⟩ : ∃ p, ps[d]? = some p := ⟨_, List.getElem?_eq_getElem (by rw [HL.out]; exact hdn)⟩
    obtain ⟨R', o', e1, hR, ⟨-, g1, -⟩, h32, hfin, -⟩ := H.out.get hp
    injection e1 with e1
    injection e1 with e1 e2
    subst e1 e2
    have hm0 : 0 < m := by omega
    have d0 : decide ((m : Int) > 0) = true := decide_eq_true (by omega)
    have b1 : (0 : Int) < (m : Int) := by omega
    by_cases hle : p.fin ≤ k
    · have d2 : decide ((p.fin : Int) ≤ (k : Int)) = true := decide_eq_true (by omega)
      have HJ := Lib.hid (show ∀ i q, i < d + 1 → ps[i]? = some q → q.fin ≤ k from fun i q hi hq => by
        rcases Nat.lt_succ_iff_lt_or_eq.1 hi with h | rfl
        · exact HI.out i q h hq
        · rw [hp] at hq; injection hq with hq; subst hq; exact hle)
      obtain ⟨m1, rfl⟩ : ∃ m1, m = m1 + 1 := ⟨m - 1, by omega⟩
      obtain ⟨f1, rfl⟩ : ∃ f1, e = f1 + 1 := ⟨e - 1, by omega⟩
      have hlt2 : d + 1 < n := by
        rcases Nat.lt_or_ge (d + 1) n with h | h
        · exact h
        · obtain ⟨p, hp, hp2⟩ := HX.out
          obtain ⟨i, hi, rfl⟩ := List.mem_iff_getElem.1 hp
          have := HJ.out i _ (by have := HL.out; omega) (List.getElem?_eq_getElem hi)
          omega
      have hf0 : ¬ f1 = 0 := by omega
      clear hp
      go_wp2_with fail
      refine ⟨⟨d + 1, m1, f1, by omega, by omega, by rw [show o + (d + 1) * 10 = o + d * 10 + 10 by omega], trivial, HJ⟩, ?_⟩
      show m1 < m1 + 1
      omega
    · have d2 : decide ((p.fin : Int) ≤ (k : Int)) = false := decide_eq_false (by omega)
      have HD := Lib.hid (behind_drop hp (by omega) HI.out)
      clear hp
      go_wp2_with fail
      go_ret
      exact ⟨d, hdn, by rw [show n - d = m by omega, show c - d = e by omega]; rfl, HD.out, rfl⟩
end Go.Proofs.Ytdlmhienolmncaa
