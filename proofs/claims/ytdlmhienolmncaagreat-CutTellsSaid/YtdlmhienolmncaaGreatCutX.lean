/- strings.Builder: WriteString, at this translation. -/
import Derived.Test.YtdlmhienolmncaaGreatMem
import Derived.Test.YtdlmhienolmncaaGreatRows
import Derived.Test.YtdlmhienolmncaaGreatShelf
import Derived.Lib.Builder
import Derived.Lib.AppendStr
import Derived.Lib.UnsafeStr
import Derived.Lib.Strings
import Derived.Lib.Slices
import Derived.Lib.Walk
import Derived.WalkKit
import Derived.Laws.Externs
import Derived.Lib.Hide
import Derived.Test.YtdlmhienolmncaaGreatCutO
import Derived.Test.YtdlmhienolmncaaGreatCutB
namespace Go.Proofs.YtdlmhienolmncaaGreat
open Go.RowKit

theorem infoSB : (Tryz.prog.info? 123).map (·.size) = some 2 := by kernel_rfl
theorem liesSB : liesAt Tryz.prog Tryz.prog.depth 123 (2 / Tryz.prog.cellsOf 123) 0 123 1 = true := by kernel_rfl
theorem neqSame (b : Nat) (w : World) : (binOp .neq 120 (.pointer (some ⟨b, 0, none⟩)) (.pointer (some ⟨b, 0, none⟩))).run Tryz.prog w = .ok (.bool false) w := by
  obtain ⟨j, hj, _⟩ := Option.map_eq_some_iff.1 infoSB
  exact Lib.run_neq_ptr_same w _ Tryz.underlying120 hj
set_option maxRecDepth 100000 in
theorem copyCheck_used (b : Nat) (w : World) (h0 : w.cell? ⟨b, 0, none⟩ = some (.pointer (some ⟨b, 0, none⟩))) :
    Calls Tryz.prog 104 #[.pointer (some ⟨b, 0, none⟩)] w fun e w' => e = .returned (.tuple #[]) ∧ w' = w := by
  have hn := neqSame b w
  have lb := World.block_lt_of_cell? _ _ h0
  go_enter Tryz.func104, Tryz.ntmps104
  go_wp2
  go_end0
  exact ⟨rfl, rfl⟩
set_option maxRecDepth 100000 in
theorem copyCheck_fresh (b : Nat) (w : World) (h0 : w.cell? ⟨b, 0, none⟩ = some (.pointer none)) (hsh : w.shape? b = some (123, 2)) (hfz : w.frozen? ⟨b, 0, none⟩ = false) :
    Calls Tryz.prog 104 #[.pointer (some ⟨b, 0, none⟩)] w fun e w' => e = .returned (.tuple #[]) ∧ w' = w.setCell ⟨b, 0, none⟩ (.pointer (some ⟨b, 0, none⟩)) := by
  obtain ⟨j, hj, hjs⟩ := Option.map_eq_some_iff.1 infoSB
  have lb := World.block_lt_of_cell? _ _ h0
  go_enter Tryz.func104, Tryz.ntmps104
  go_wp2
  rw [Lib.run_to_unsafe w ⟨b, 0, none⟩ Tryz.underlying120 Tryz.underlying187 hj (by rw [hjs]; decide) hsh (Nat.zero_lt_succ 1)]
  simp only [Result.andThen]
  rw [Oper.upon_value]
  go_wp2
  rw [run_callFunc_extern Tryz.func131 (by kernel_rfl) (by kernel_rfl) (by kernel_rfl) (e := Extern.AbiNoEscape.same) (by kernel_rfl)]
  rw [Lib.run_noEscape]
  simp only [Result.andThen]
  rw [Oper.upon_value]
  go_wp2
  rw [Lib.run_from_unsafe w ⟨b, 0, none⟩ Tryz.underlying187 Tryz.underlying120 hj hsh liesSB]
  simp only [Result.andThen]
  rw [Oper.upon_value]
  go_wp2
  go_end0
  exact ⟨rfl, rfl⟩
theorem copyCheck_any (B b : Nat) (bs : List Value) (w : World) (h : Lib.IsBuilder 123 5 B b bs w) :
    Calls Tryz.prog 104 #[.pointer (some ⟨b, 0, none⟩)] w fun e w' => e = .returned (.tuple #[]) ∧ (Lib.BuilderAt 123 5 B b (.pointer (some ⟨b, 0, none⟩)) bs w' ∧ Below B w w') := by
  rcases h with h | h
  · refine (copyCheck_fresh b w h.cell0 h.shape h.frozen0).mono ?_
    rintro e w' ⟨rfl, rfl⟩
    exact ⟨rfl, h.used _, (Below.refl B w).setCell (p := ⟨b, 0, none⟩) h.1 _⟩
  · refine (copyCheck_used b w h.cell0).mono ?_
    rintro e w' ⟨rfl, rfl⟩
    exact ⟨rfl, h, Below.refl B _⟩
theorem info_byteB : ∃ i, Tryz.prog.info? 5 = some i ∧ i.zero = some (.int .u8 0) ∧ i.size = 1 ∧ i.bytes = 1 := by
  have h : (Tryz.prog.info? 5).map (fun i => (i.zero, i.size, i.bytes)) = some (some (.int .u8 0), 1, 1) := by kernel_rfl
  cases hi : Tryz.prog.info? 5 with
  | none => rw [hi] at h; cases h
  | some i =>
    rw [hi] at h
    injection h with h
    injection h with h1 h2
    injection h2 with h2 h3
    exact ⟨i, rfl, h1, h2, h3⟩
set_option maxRecDepth 100000 in
set_option maxHeartbeats 2000000 in
theorem writeString_any (B b : Nat) (bs : List Value) (s : ByteArray) (w : World) (h : Lib.IsBuilder 123 5 B b bs w) (hlen : bs.length + s.size ≤ 1000000000) (hBw : B ≤ w.heap.size) :
    Calls Tryz.prog 73 #[.pointer (some ⟨b, 0, none⟩), .string s] w fun e w' => e = .returned (.tuple #[.int .i64 s.size, .nilIface]) ∧ (Lib.BuilderAt 123 5 B b (.pointer (some ⟨b, 0, none⟩)) (bs ++ Lib.strCells s) w' ∧ Below B w w') := by
  obtain ⟨i0, hi, hz0, hz1, hz2⟩ := info_byteB
  have HC := Lib.hid (copyCheck_any B b bs w h)
  clear h
  go_enter Tryz.func73, Tryz.ntmps73
  go_wp2_with fail
  refine HC.out.mono ?_
  rintro e w1 ⟨rfl, h1, hb1⟩
  obtain ⟨hB, v, hbk, hown, hne⟩ := h1
  have c0 : w1.cell? ⟨b, 0, none⟩ = some (.pointer (some ⟨b, 0, none⟩)) := by rw [Lib.cell_of_heap hbk]; rfl
  have c1 : w1.cell? ⟨b, 1, none⟩ = some v := by rw [Lib.cell_of_heap hbk]; rfl
  have lb := World.block_lt_of_cell? _ _ c0
  have hs1 := hb1.size
  go_wp2_with (at_builtin; refine Lib.wpList_append_own_string _ rfl _ _ 121 9 rfl B 5 i0 Tryz.underlying121 Tryz.underlying9 hi hz0 hz1 hz2 _ _ _ rfl hown s rfl ?c3 ?c4 ?c5 ?_)
  case c3 => unfold maxLen; omega
  case c4 => omega
  case c5 => omega
  intro v' w2 hown' hgrow _
  have hlt : b < w1.heap.size := lb
  have hb2 : w2.heap[b]? = some (.cells #[.pointer (some ⟨b, 0, none⟩), v] 123 (0, 0)) := by
    rw [hgrow.block b hlt (fun e => hne e.symm)]
    exact hbk
  have d0 : w2.cell? ⟨b, 0, none⟩ = some (.pointer (some ⟨b, 0, none⟩)) := by rw [Lib.cell_of_heap hb2]; rfl
  have d1 : w2.cell? ⟨b, 1, none⟩ = some v := by rw [Lib.cell_of_heap hb2]; rfl
  have f1 : w2.frozen? ⟨b, 1, none⟩ = false := Lib.frozen_of_heap hb2 1
  have lb2 := World.block_lt_of_cell? _ _ d0
  obtain ⟨ao, n', cap, rfl⟩ : ∃ ao n' cap, v' = .slice ao n' cap := by
    rcases hown'.2 with ⟨hv, _⟩ | ⟨g, cap, cur, hv, _⟩
    · exact ⟨_, _, _, hv⟩
    · exact ⟨_, _, _, hv⟩
  go_wp2_with fail
  go_ret2
  refine ⟨rfl, ?_, ?_⟩
  · exact Lib.BuilderAt.put (T := 123) (e := 5) hB hb2 (bs' := bs ++ Lib.strCells s) (by simpa [Lib.strCells_length] using hown') (by decide)
  · exact (hb1.grown hgrow (by omega) (fun k hk => (hown.lt k hk).1)).setCell (p := ⟨b, 1, none⟩) hB _
end Go.Proofs.YtdlmhienolmncaaGreat
/- cut: join; behind. -/
namespace Go.Proofs.YtdlmhienolmncaaGreat
open Go.RowKit Dec

theorem allT_snoc (l : List Pc) (p : Pc) : allT (l ++ [p]) = allT l ++ p.text.data.toList := by unfold allT; simp
theorem allT_step {l : List Pc} {k : Nat} {p : Pc} (h : l[k]? = some p) : allT (l.take (k + 1)) = allT (l.take k) ++ p.text.data.toList := by
  rw [List.take_add_one, h, Option.toList_some, allT_snoc]
theorem strCells_is (s : ByteArray) : Lib.strCells s = Lib.byteCells s.data.toList := rfl
theorem byteCells_app (a b : List UInt8) : Lib.byteCells (a ++ b) = Lib.byteCells a ++ Lib.byteCells b := by unfold Lib.byteCells; rw [List.map_append]
theorem allT_len (l : List Pc) (h : ∀ p ∈ l, p.text.size ≤ 32) : (allT l).length ≤ 32 * l.length := by
  induction l with
  | nil => simp [allT]
  | cons p l ih =>
    have := h p (List.mem_cons_self ..)
    have h2 := ih (fun q hq => h q (List.mem_cons_of_mem _ hq))
    unfold allT at h2 ⊢
    simp only [List.map_cons, List.flatten_cons, List.length_append, List.length_cons]
    have e : p.text.data.toList.length = p.text.size := Array.length_toList
    omega
set_option maxRecDepth 100000 in
set_option maxHeartbeats 4000000 in
theorem join_any (A : Option Addr) (n c : Nat) (ps : List Pc) (w : World) (h : PcsAt w A n c ps) (hn : n ≤ 1000000) :
    Calls Tryz.prog 41 #[.slice A n c] w fun e w' => e = .returned (.string ⟨(allT ps).toArray⟩) ∧ Below w.heap.size w w' := by
  have hcap := h.row.cap
  have htop := h.row.top
  have HL := Lib.hid h.len
  have H := Lib.hid h
  clear h
  go_enter Tryz.func41, Tryz.ntmps41
  go_wp2_with fail
  go_loopw [8] (fun i wr => ∃ k : Nat, i = .int .i64 (k : Int) ∧ k ≤ n ∧ Hid (Lib.IsBuilder 123 5 w.heap.size w.heap.size (Lib.byteCells (allT (ps.take k))) wr) ∧ Hid (Below w.heap.size w wr)) (fun i _ => n - (intOf i).toNat)
  case atStart => exact ⟨0, rfl, by omega, Lib.hid (Lib.fresh_isBuilder _ _ w), Lib.hid ((Below.refl _ _).alloc (Nat.le_refl _) _)⟩
  case round =>
    obtain ⟨k, rfl, hk, HR, HB⟩ := hrel
    have hsz := HB.out.size
    by_cases hlt : k < n
    · have d1 : decide ((k : Int) < (n : Int)) = true := decide_eq_true (by omega)
      obtain ⟨p, hp⟩ : ∃ p, ps[k]? = some p := ⟨_, List.getElem?_eq_getElem (by rw [HL.out]; exact hlt)⟩
      obtain ⟨R, o, rfl, hR, ⟨g0, g1, g2, g3, g4, g5, g6, g7, g8, g9⟩, h32, hfin, -⟩ := (H.out.below HB.out).get hp
      have HS := Lib.hid (allT_step hp)
      have hlen : (Lib.byteCells (allT (ps.take k))).length + p.text.size ≤ 1000000000 := by
        rw [Lib.byteCells_length]
        have := allT_len (ps.take k) (fun q hq => (H.out.small q (List.mem_of_mem_take hq)).1)
        rw [List.length_take] at this
        omega
      have hbb := (HB.out.alloc HB.out.size (.cells #[.string p.text, .int .i64 (p.fin : Int), .int .i64 p.box.x0.m, .int .i64 p.box.x0.s, .int .i64 p.box.y0.m, .int .i64 p.box.y0.s, .int .i64 p.box.x1.m, .int .i64 p.box.x1.s, .int .i64 p.box.y1.m, .int .i64 p.box.y1.s] 119))
      have hR2 : Lib.IsBuilder 123 5 w.heap.size w.heap.size (Lib.byteCells (allT (ps.take k))) (wr.alloc (.cells #[.string p.text, .int .i64 (p.fin : Int), .int .i64 p.box.x0.m, .int .i64 p.box.x0.s, .int .i64 p.box.y0.m, .int .i64 p.box.y0.s, .int .i64 p.box.x1.m, .int .i64 p.box.x1.s, .int .i64 p.box.y1.m, .int .i64 p.box.y1.s] 119)) := by
        have hal : ∀ q, Lib.BuilderAt 123 5 w.heap.size w.heap.size q (Lib.byteCells (allT (ps.take k))) wr → Lib.BuilderAt 123 5 w.heap.size w.heap.size q (Lib.byteCells (allT (ps.take k))) (wr.alloc (.cells #[.string p.text, .int .i64 (p.fin : Int), .int .i64 p.box.x0.m, .int .i64 p.box.x0.s, .int .i64 p.box.y0.m, .int .i64 p.box.y0.s, .int .i64 p.box.x1.m, .int .i64 p.box.x1.s, .int .i64 p.box.y1.m, .int .i64 p.box.y1.s] 119)) := fun q hq => by
          have lt := hq.lt
          obtain ⟨hB, v, hbk, hown, hne⟩ := hq
          exact ⟨hB, v, (Below.heap_alloc wr _ _ lt).trans hbk, hown.alloc _, hne⟩
        rcases HR.out with h | h
        · exact .inl (hal _ h)
        · exact .inr (hal _ h)
      have HWS := Lib.hid (writeString_any w.heap.size w.heap.size _ p.text _ hR2 hlen (by simp; omega))
      have HBB := Lib.hid hbb
      clear hp hR2 hbb hlen
      go_wp2_with fail
      refine HWS.out.mono ?_
      rintro e w2 ⟨rfl, hbu, hb⟩
      have HZ := Lib.hid (And.intro hbu (HBB.out.trans (by exact hb)))
      clear hbu hb g0 g1 g2 g3 g4 g5 g6 g7 g8 g9
      go_wp2_with fail
      go_roundw
      case rel => exact ⟨k + 1, by go_num, by omega, Lib.hid (.inr (by rw [HS.out, byteCells_app]; exact HZ.out.1)), Lib.hid HZ.out.2⟩
      case measure => simp [intOf]; omega
    · obtain rfl : k = n := by omega
      have d1 : decide ((k : Int) < (k : Int)) = false := by simp
      rw [List.take_of_length_le (by rw [HL.out]; exact Nat.le_refl _)] at HR
      have HSS := Lib.hid (Tryz.Builder_String_any w.heap.size w.heap.size (allT ps) wr HR.out HB.out.size)
      go_wp2_with fail
      refine HSS.out.mono ?_
      rintro e w2 ⟨rfl, hb⟩
      have HZ := Lib.hid (HB.out.trans hb)
      clear hb
      go_wp2_with fail
      go_ret
      exact ⟨rfl, HZ.out⟩
theorem PcsAt.drop {w : World} {R o n c : Nat} {l : List Pc} (h : PcsAt w (some ⟨R, o, none⟩) n c l) {d : Nat} (hd : d ≤ n) : PcsAt w (some ⟨R, o + d * 10, none⟩) (n - d) (c - d) (l.drop d) := by
  have hr := h.row.part d n hd (Nat.le_refl _)
  rw [← List.map_drop, List.take_of_length_le (by rw [List.length_map, List.length_drop, h.len]; exact Nat.le_refl _)] at hr
  exact ⟨hr, fun p hp => h.small p (List.mem_of_mem_drop hp)⟩
theorem behind_drop {ps : List Pc} {k d : Nat} {p : Pc} (hd : ps[d]? = some p) (hp : k < p.fin) (hb : ∀ i q, i < d → ps[i]? = some q → q.fin ≤ k) : behindP ps k = ps.drop d := by
  induction d generalizing ps with
  | zero =>
    cases ps with
    | nil => simp at hd
    | cons a ps =>
      simp at hd
      subst hd
      unfold behindP
      rw [List.dropWhile_cons_of_neg (by simp; omega), List.drop_zero]
  | succ d ih =>
    cases ps with
    | nil => simp at hd
    | cons a ps =>
      have h0 := hb 0 a (by omega) rfl
      have := ih (ps := ps) (by simpa using hd) (fun i q hi hq => hb (i + 1) q (by omega) (by simpa using hq))
      unfold behindP at this ⊢
      rw [List.dropWhile_cons_of_pos (by simpa using h0), this, List.drop_succ_cons]
set_option maxRecDepth 100000 in
set_option maxHeartbeats 4000000 in
theorem behind_any (R o n c : Nat) (ps : List Pc) (k : Nat) (w : World) (h : PcsAt w (some ⟨R, o, none⟩) n c ps) (hex : ∃ p ∈ ps, k < p.fin) :
    Calls Tryz.prog 44 #[.slice (some ⟨R, o, none⟩) n c, .int .i64 (k : Int)] w fun e w' => ∃ d, d < n ∧ e = .returned (.slice (some ⟨R, o + d * 10, none⟩) (n - d) (c - d)) ∧ behindP ps k = ps.drop d ∧ w' = w := by
  have hcap := h.row.cap
  have htop := h.row.top
  have HL := Lib.hid h.len
  have H := Lib.hid h
  have HX := Lib.hid hex
  clear h hex
  go_enter Tryz.func44, Tryz.ntmps44
  go_wp2_with fail
  go_loopw [0] (fun v wr => ∃ d m e : Nat, d + m = n ∧ d + e = c ∧ v = .slice (some ⟨R, o + d * 10, none⟩) m e ∧ wr = w ∧ Hid (∀ i q, i < d → ps[i]? = some q → q.fin ≤ k)) (fun v _ => match v with | .slice _ m _ => m | _ => 0)
  case atStart => exact ⟨0, n, c, by omega, by omega, by simp, rfl, Lib.hid (fun i q hi => absurd hi (by omega))⟩
  case round =>
    obtain ⟨d, m, e, hdm, hde, rfl, rfl, HI⟩ := hrel
    have hdn : d < n := by
      rcases Nat.lt_or_ge d n with h | h
      · exact h
      · obtain ⟨p, hp, hp2⟩ := HX.out
        obtain ⟨i, hi, rfl⟩ := List.mem_iff_getElem.1 hp
        have := HI.out i _ (by have := HL.out; omega) (List.getElem?_eq_getElem hi)
        omega
    obtain ⟨p, hp⟩ : ∃ p, ps[d]? = some p := ⟨_, List.getElem?_eq_getElem (by rw [HL.out]; exact hdn)⟩
    obtain ⟨R', o', e1, hR, ⟨-, g1, -⟩, h32, hfin, -⟩ := H.out.get hp
    injection e1 with e1
    injection e1 with e1 e2
    subst e1 e2
    have hm0 : 0 < m := by omega
    have d0 : decide ((m : Int) > 0) = true := decide_eq_true (by omega)
    have b1 : (0 : Int) < (m : Int) := by omega
    by_cases hle : p.fin ≤ k
    · have d2 : decide ((p.fin : Int) ≤ (k : Int)) = true := decide_eq_true (by omega)
      have HJ := Lib.hid (show ∀ i q, i < d + 1 → ps[i]? = some q → q.fin ≤ k from fun i q hi hq => by
        rcases Nat.lt_succ_iff_lt_or_eq.1 hi with h | rfl
        · exact HI.out i q h hq
        · rw [hp] at hq; injection hq with hq; subst hq; exact hle)
      obtain ⟨m1, rfl⟩ : ∃ m1, m = m1 + 1 := ⟨m - 1, by omega⟩
      obtain ⟨f1, rfl⟩ : ∃ f1, e = f1 + 1 := ⟨e - 1, by omega⟩
      have hlt2 : d + 1 < n := by
        rcases Nat.lt_or_ge (d + 1) n with h | h
        · exact h
        · obtain ⟨p, hp, hp2⟩ := HX.out
          obtain ⟨i, hi, rfl⟩ := List.mem_iff_getElem.1 hp
          have := HJ.out i _ (by have := HL.out; omega) (List.getElem?_eq_getElem hi)
          omega
      have hf0 : ¬ f1 = 0 := by omega
      clear hp
      go_wp2_with fail
      refine ⟨⟨d + 1, m1, f1, by omega, by omega, by rw [show o + (d + 1) * 10 = o + d * 10 + 10 by omega], trivial, HJ⟩, ?_⟩
      show m1 < m1 + 1
      omega
    · have d2 : decide ((p.fin : Int) ≤ (k : Int)) = false := decide_eq_false (by omega)
      have HD := Lib.hid (behind_drop hp (by omega) HI.out)
      clear hp
      go_wp2_with fail
      go_ret
      exact ⟨d, hdn, by rw [show n - d = m by omega, show c - d = e by omega]; rfl, HD.out, rfl⟩
end Go.Proofs.YtdlmhienolmncaaGreat
/- cut: around: the least box around some pieces. -/
namespace Go.Proofs.YtdlmhienolmncaaGreat
open Go.RowKit Dec

def boxR (o : Option BV) : BV := o.getD .zero
def boxE (o : Option BV) : Int := if o.isSome then 0 else 1
theorem boxGo_end (t_ : Nat) (b : BV) : boxGo t_ b [] = some b := rfl
theorem boxGo_break {t_ : Nat} {b : BV} {p : Pc} {ps : List Pc} (h : t_ ≤ p.fin - p.text.size) : boxGo t_ b (p :: ps) = some b := by rw [boxGo, if_pos h]
theorem boxGo_skip {t_ : Nat} {b : BV} {p : Pc} {ps : List Pc} (h : ¬ t_ ≤ p.fin - p.text.size) (hz : p.text.size = 0) : boxGo t_ b (p :: ps) = boxGo t_ b ps := by rw [boxGo, if_neg h, if_pos hz]
theorem boxGo_join {t_ : Nat} {b : BV} {p : Pc} {ps : List Pc} (h : ¬ t_ ≤ p.fin - p.text.size) (hz : ¬ p.text.size = 0) (ho : b.Ok ∧ p.box.Ok) : boxGo t_ b (p :: ps) = boxGo t_ (joinB b p.box) ps := by rw [boxGo, if_neg h, if_neg hz, if_pos (decide_eq_true ho)]
theorem boxGo_fail {t_ : Nat} {b : BV} {p : Pc} {ps : List Pc} (h : ¬ t_ ≤ p.fin - p.text.size) (hz : ¬ p.text.size = 0) (ho : ¬ (b.Ok ∧ p.box.Ok)) : boxGo t_ b (p :: ps) = none := by rw [boxGo, if_neg h, if_neg hz, if_neg (by simpa using ho)]
theorem results_around (tmps : Array Value) (w : World) (g : Nat) (b : BV) (v : Value) (hp : tmps.getD 4 undef = .pointer (some ⟨g, 0, none⟩)) (hv : tmps.getD 5 undef = v) (h : (w.cell? ⟨g, 0, none⟩ = some (.int .i64 b.x0.m) ∧ w.cell? ⟨g, 1, none⟩ = some (.int .i64 b.x0.s) ∧ w.cell? ⟨g, 2, none⟩ = some (.int .i64 b.y0.m) ∧ w.cell? ⟨g, 3, none⟩ = some (.int .i64 b.y0.s) ∧ w.cell? ⟨g, 4, none⟩ = some (.int .i64 b.x1.m) ∧ w.cell? ⟨g, 5, none⟩ = some (.int .i64 b.x1.s) ∧ w.cell? ⟨g, 6, none⟩ = some (.int .i64 b.y1.m) ∧ w.cell? ⟨g, 7, none⟩ = some (.int .i64 b.y1.s))) :
    (results Tryz.f45 tmps).run Tryz.prog w = .ok (.tuple #[.agg #[.int .i64 b.x0.m, .int .i64 b.x0.s, .int .i64 b.y0.m, .int .i64 b.y0.s, .int .i64 b.x1.m, .int .i64 b.x1.s, .int .i64 b.y1.m, .int .i64 b.y1.s], v]) w := by
  have hp' : tmps[4]?.getD undef = .pointer (some ⟨g, 0, none⟩) := by simpa using hp
  have hv' : tmps[5]?.getD undef = v := by simpa using hv
  obtain ⟨h0, h1, h2, h3, h4, h5, h6, h7⟩ := h
  simp [results, Tryz.results45, hp', hv', asAddr, go_sem, h0, h1, h2, h3, h4, h5, h6, h7]
set_option maxHeartbeats 1000000 in
theorem Whole.setBox {w : World} {g : Nat} {T : TypeId} {a b : BV} (h : Whole w g T #[.int .i64 a.x0.m, .int .i64 a.x0.s, .int .i64 a.y0.m, .int .i64 a.y0.s, .int .i64 a.x1.m, .int .i64 a.x1.s, .int .i64 a.y1.m, .int .i64 a.y1.s]) : Whole ((((((((w.setCell ⟨g, 0, none⟩ (.int .i64 b.x0.m)).setCell ⟨g, 1, none⟩ (.int .i64 b.x0.s)).setCell ⟨g, 2, none⟩ (.int .i64 b.y0.m)).setCell ⟨g, 3, none⟩ (.int .i64 b.y0.s)).setCell ⟨g, 4, none⟩ (.int .i64 b.x1.m)).setCell ⟨g, 5, none⟩ (.int .i64 b.x1.s)).setCell ⟨g, 6, none⟩ (.int .i64 b.y1.m)).setCell ⟨g, 7, none⟩ (.int .i64 b.y1.s)) g T #[.int .i64 b.x0.m, .int .i64 b.x0.s, .int .i64 b.y0.m, .int .i64 b.y0.s, .int .i64 b.x1.m, .int .i64 b.x1.s, .int .i64 b.y1.m, .int .i64 b.y1.s] := by
  have h' := (((((((h.set 0 (.int .i64 b.x0.m)).set 1 (.int .i64 b.x0.s)).set 2 (.int .i64 b.y0.m)).set 3 (.int .i64 b.y0.s)).set 4 (.int .i64 b.x1.m)).set 5 (.int .i64 b.x1.s)).set 6 (.int .i64 b.y1.m)).set 7 (.int .i64 b.y1.s)
  simpa using h'
theorem below8 {B : Nat} {a w : World} {g : Nat} {v0 v1 v2 v3 v4 v5 v6 v7 : Value} (h : Below B a w) (hg : B ≤ g) : Below B a ((((((((w.setCell ⟨g, 0, none⟩ v0).setCell ⟨g, 1, none⟩ v1).setCell ⟨g, 2, none⟩ v2).setCell ⟨g, 3, none⟩ v3).setCell ⟨g, 4, none⟩ v4).setCell ⟨g, 5, none⟩ v5).setCell ⟨g, 6, none⟩ v6).setCell ⟨g, 7, none⟩ v7) :=
  (((((((h.setCell hg _).setCell hg _).setCell hg _).setCell hg _).setCell hg _).setCell hg _).setCell hg _).setCell hg _
theorem Whole.far8 {w : World} {G g : Nat} {T : TypeId} {cs : Array Value} {v0 v1 v2 v3 v4 v5 v6 v7 : Value} (h : Whole w G T cs) (hn : G ≠ g) : Whole ((((((((w.setCell ⟨g, 0, none⟩ v0).setCell ⟨g, 1, none⟩ v1).setCell ⟨g, 2, none⟩ v2).setCell ⟨g, 3, none⟩ v3).setCell ⟨g, 4, none⟩ v4).setCell ⟨g, 5, none⟩ v5).setCell ⟨g, 6, none⟩ v6).setCell ⟨g, 7, none⟩ v7) G T cs :=
  (((((((h.away (p := ⟨g, 0, none⟩) hn _).away (p := ⟨g, 1, none⟩) hn _).away (p := ⟨g, 2, none⟩) hn _).away (p := ⟨g, 3, none⟩) hn _).away (p := ⟨g, 4, none⟩) hn _).away (p := ⟨g, 5, none⟩) hn _).away (p := ⟨g, 6, none⟩) hn _).away (p := ⟨g, 7, none⟩) hn _
set_option maxRecDepth 100000 in
set_option maxHeartbeats 8000000 in
theorem around_any (R o n c : Nat) (ps : List Pc) (to_ : Nat) (w : World) (h : PcsAt w (some ⟨R, o, none⟩) n c ps) (hn : n ≤ 1000000) (h0 : 0 < n) :
    Calls Tryz.prog 45 #[.slice (some ⟨R, o, none⟩) n c, .int .i64 (to_ : Int)] w fun e w' => e = .returned (.tuple #[.agg #[.int .i64 (boxR (aroundP ps to_)).x0.m, .int .i64 (boxR (aroundP ps to_)).x0.s, .int .i64 (boxR (aroundP ps to_)).y0.m, .int .i64 (boxR (aroundP ps to_)).y0.s, .int .i64 (boxR (aroundP ps to_)).x1.m, .int .i64 (boxR (aroundP ps to_)).x1.s, .int .i64 (boxR (aroundP ps to_)).y1.m, .int .i64 (boxR (aroundP ps to_)).y1.s], .int .i64 (boxE (aroundP ps to_))]) ∧ Below w.heap.size w w' := by
  have hcap := h.row.cap
  have htop := h.row.top
  have HL := Lib.hid h.len
  have H := Lib.hid h
  obtain ⟨p0, hp0⟩ : ∃ p, ps[0]? = some p := ⟨_, List.getElem?_eq_getElem (by rw [HL.out]; exact h0)⟩
  obtain ⟨R', o', e1, hR, ⟨-, -, g2, g3, g4, g5, g6, g7, g8, g9⟩, -⟩ := h.get hp0
  injection e1 with e1
  injection e1 with e1 e2
  subst e1 e2
  rw [Nat.zero_mul, Nat.add_zero] at g2 g3 g4 g5 g6 g7 g8 g9
  have HG := Lib.hid (show aroundP ps to_ = boxGo to_ p0.box (ps.drop 0) by
    rw [List.drop_zero]
    cases ps with
    | nil => simp at hp0
    | cons a ps => simp at hp0; subst hp0; rfl)
  have b0 : (0 : Int) < (n : Int) := by omega
  have hr0 := Whole.made w 49 #[.int .i64 0, .int .i64 0, .int .i64 0, .int .i64 0, .int .i64 0, .int .i64 0, .int .i64 0, .int .i64 0]
  have hb0 := Whole.made (w.alloc (.cells #[.int .i64 0, .int .i64 0, .int .i64 0, .int .i64 0, .int .i64 0, .int .i64 0, .int .i64 0, .int .i64 0] 49)) 49 #[.int .i64 p0.box.x0.m, .int .i64 p0.box.x0.s, .int .i64 p0.box.y0.m, .int .i64 p0.box.y0.s, .int .i64 p0.box.x1.m, .int .i64 p0.box.x1.s, .int .i64 p0.box.y1.m, .int .i64 p0.box.y1.s]
  simp only [World.size_alloc] at hb0
  have HS := Lib.hid (And.intro (hr0.old (.cells #[.int .i64 p0.box.x0.m, .int .i64 p0.box.x0.s, .int .i64 p0.box.y0.m, .int .i64 p0.box.y0.s, .int .i64 p0.box.x1.m, .int .i64 p0.box.x1.s, .int .i64 p0.box.y1.m, .int .i64 p0.box.y1.s] 49)) (And.intro hb0 (show Below w.heap.size w ((w.alloc (.cells #[.int .i64 0, .int .i64 0, .int .i64 0, .int .i64 0, .int .i64 0, .int .i64 0, .int .i64 0, .int .i64 0] 49)).alloc (.cells #[.int .i64 p0.box.x0.m, .int .i64 p0.box.x0.s, .int .i64 p0.box.y0.m, .int .i64 p0.box.y0.s, .int .i64 p0.box.x1.m, .int .i64 p0.box.x1.s, .int .i64 p0.box.y1.m, .int .i64 p0.box.y1.s] 49)) from by (repeat (first | with_reducible exact Below.refl _ _ | with_reducible refine Below.drew ?_ | with_reducible refine bdrewN ?_ _ | (with_reducible refine Below.setCell ?_ ?_ _; rotate_left; focus (first | exact Nat.le_refl _ | omega | (simp; omega) | (simp; done))) | (with_reducible refine Below.alloc ?_ ?_ _; rotate_left; focus (first | exact Nat.le_refl _ | omega | (simp; omega) | (simp; done))) | (with_reducible refine Below.trans ?_ (Below.mono (by assumption) ?_); rotate_left; focus (first | exact Nat.le_refl _ | omega | (simp; omega) | (simp; done))))))))
  clear h hp0 hr0 hb0
  go_enter Tryz.func45, Tryz.ntmps45
  go_wp2_with fail
  go_loopw [17] (fun i wr => ∃ (k : Nat) (b : BV), i = .int .i64 (k : Int) ∧ k ≤ n ∧ Hid (aroundP ps to_ = boxGo to_ b (ps.drop k)) ∧ Hid (Whole wr w.heap.size 49 #[.int .i64 0, .int .i64 0, .int .i64 0, .int .i64 0, .int .i64 0, .int .i64 0, .int .i64 0, .int .i64 0] ∧ Whole wr (w.heap.size + 1) 49 #[.int .i64 b.x0.m, .int .i64 b.x0.s, .int .i64 b.y0.m, .int .i64 b.y0.s, .int .i64 b.x1.m, .int .i64 b.x1.s, .int .i64 b.y1.m, .int .i64 b.y1.s] ∧ Below w.heap.size w wr)) (fun i _ => n - (intOf i).toNat)
  case atStart => exact ⟨0, p0.box, rfl, by omega, HG, HS⟩
  case round =>
    clear HS HG g2 g3 g4 g5 g6 g7 g8 g9
    obtain ⟨k, b, rfl, hk, HA, HB⟩ := hrel
    have hsz := HB.out.2.1.lt
    obtain ⟨⟨q0, q1, q2, q3, q4, q5, q6, q7⟩, -⟩ := bxw_facts HB.out.2.1
    have hW := HB.out.1
    by_cases hlt : k < n
    · have d1 : decide ((k : Int) < (n : Int)) = true := decide_eq_true (by omega)
      obtain ⟨p, hp⟩ : ∃ p, ps[k]? = some p := ⟨_, List.getElem?_eq_getElem (by rw [HL.out]; exact hlt)⟩
      obtain ⟨R', o', e1, hR2, ⟨g0, g1, g2, g3, g4, g5, g6, g7, g8, g9⟩, h32, hfin, hle⟩ := (H.out.below HB.out.2.2).get hp
      injection e1 with e1
      injection e1 with e1 e2
      subst e1 e2
      have hdr : ps.drop k = p :: ps.drop (k + 1) := by
        rw [List.drop_eq_getElem_cons (by rw [HL.out]; exact hlt)]
        congr 1
        have := (List.getElem?_eq_some_iff.1 hp).2
        exact this
      have HD := Lib.hid hdr
      have ew : IntKind.i64.wrap ((p.fin : Int) - (p.text.size : Int)) = (p.fin : Int) - (p.text.size : Int) := by rw [IntKind.wrap_i64]; omega
      have hbA := HB.out.2.2.alloc HB.out.2.2.size (.cells #[.string p.text, .int .i64 (p.fin : Int), .int .i64 p.box.x0.m, .int .i64 p.box.x0.s, .int .i64 p.box.y0.m, .int .i64 p.box.y0.s, .int .i64 p.box.x1.m, .int .i64 p.box.x1.s, .int .i64 p.box.y1.m, .int .i64 p.box.y1.s] 119)
      have HBA := Lib.hid (And.intro (HB.out.1.old (.cells #[.string p.text, .int .i64 (p.fin : Int), .int .i64 p.box.x0.m, .int .i64 p.box.x0.s, .int .i64 p.box.y0.m, .int .i64 p.box.y0.s, .int .i64 p.box.x1.m, .int .i64 p.box.x1.s, .int .i64 p.box.y1.m, .int .i64 p.box.y1.s] 119)) (And.intro (HB.out.2.1.old (.cells #[.string p.text, .int .i64 (p.fin : Int), .int .i64 p.box.x0.m, .int .i64 p.box.x0.s, .int .i64 p.box.y0.m, .int .i64 p.box.y0.s, .int .i64 p.box.x1.m, .int .i64 p.box.x1.s, .int .i64 p.box.y1.m, .int .i64 p.box.y1.s] 119)) hbA))
      clear hp hdr hbA hW
      by_cases hbr : to_ ≤ p.fin - p.text.size
      · have d2 : decide ((p.fin : Int) - (p.text.size : Int) ≥ (to_ : Int)) = true := decide_eq_true (by omega)
        have HZ := Lib.hid (show aroundP ps to_ = some b by rw [HA.out, HD.out, boxGo_break hbr])
        clear hbr
        have rd := HB.out.1.reads
        have ft := HB.out.1.thawed
        have lf := HB.out.1.lt
        go_wp2_with fail
        have hr := (Whole.setBox (a := .zero) (b := b) HB.out.1).old (.cells #[.string p.text, .int .i64 (p.fin : Int), .int .i64 p.box.x0.m, .int .i64 p.box.x0.s, .int .i64 p.box.y0.m, .int .i64 p.box.y0.s, .int .i64 p.box.x1.m, .int .i64 p.box.x1.s, .int .i64 p.box.y1.m, .int .i64 p.box.y1.s] 119)
        refine bodyPost_ret (v := .tuple #[.agg #[.int .i64 b.x0.m, .int .i64 b.x0.s, .int .i64 b.y0.m, .int .i64 b.y0.s, .int .i64 b.x1.m, .int .i64 b.x1.s, .int .i64 b.y1.m, .int .i64 b.y1.s], .int .i64 0]) (results_around _ _ w.heap.size b _ rfl rfl (bxw_facts hr).1) rfl ⟨by rw [HZ.out]; rfl, ?_⟩
        exact (below8 HB.out.2.2 (Nat.le_refl _)).alloc (by simp; omega) _
      · have d2 : decide ((p.fin : Int) - (p.text.size : Int) ≥ (to_ : Int)) = false := decide_eq_false (by omega)
        by_cases hz : p.text.size = 0
        · have HZ := Lib.hid (show aroundP ps to_ = boxGo to_ b (ps.drop (k + 1)) by rw [HA.out, HD.out, boxGo_skip hbr hz])
          have he := empty_text hz
          clear hbr hz
          go_wp2_with fail
          go_roundw
          case rel => exact ⟨k + 1, b, by go_num, by omega, HZ, HBA⟩
          case measure => simp [intOf]; omega
        · have he := full_text (s := p.text) (by omega)
          have lA := HBA.out.1.lt
          obtain ⟨⟨x0, x1, x2, x3, x4, x5, x6, x7⟩, -⟩ := bxw_facts HBA.out.2.1
          obtain ⟨wA, hwA⟩ : ∃ wA, wr.alloc (.cells #[.string p.text, .int .i64 (p.fin : Int), .int .i64 p.box.x0.m, .int .i64 p.box.x0.s, .int .i64 p.box.y0.m, .int .i64 p.box.y0.s, .int .i64 p.box.x1.m, .int .i64 p.box.x1.s, .int .i64 p.box.y1.m, .int .i64 p.box.y1.s] 119) = wA := ⟨_, rfl⟩
          have hp := Whole.made wr 119 #[.string p.text, .int .i64 (p.fin : Int), .int .i64 p.box.x0.m, .int .i64 p.box.x0.s, .int .i64 p.box.y0.m, .int .i64 p.box.y0.s, .int .i64 p.box.x1.m, .int .i64 p.box.x1.s, .int .i64 p.box.y1.m, .int .i64 p.box.y1.s]
          rw [hwA] at HBA hp x0 x1 x2 x3 x4 x5 x6 x7 lA
          have y0 : wA.cell? ⟨wr.heap.size, 0, none⟩ = some (.string p.text) := hp.reads 0
          have y1 : wA.cell? ⟨wr.heap.size, 1, none⟩ = some (.int .i64 (p.fin : Int)) := hp.reads 1
          have y2 : wA.cell? ⟨wr.heap.size, 2, none⟩ = some (.int .i64 p.box.x0.m) := hp.reads 2
          have y3 : wA.cell? ⟨wr.heap.size, 3, none⟩ = some (.int .i64 p.box.x0.s) := hp.reads 3
          have y4 : wA.cell? ⟨wr.heap.size, 4, none⟩ = some (.int .i64 p.box.y0.m) := hp.reads 4
          have y5 : wA.cell? ⟨wr.heap.size, 5, none⟩ = some (.int .i64 p.box.y0.s) := hp.reads 5
          have y6 : wA.cell? ⟨wr.heap.size, 6, none⟩ = some (.int .i64 p.box.x1.m) := hp.reads 6
          have y7 : wA.cell? ⟨wr.heap.size, 7, none⟩ = some (.int .i64 p.box.x1.s) := hp.reads 7
          have y8 : wA.cell? ⟨wr.heap.size, 8, none⟩ = some (.int .i64 p.box.y1.m) := hp.reads 8
          have y9 : wA.cell? ⟨wr.heap.size, 9, none⟩ = some (.int .i64 p.box.y1.s) := hp.reads 9
          have lp := hp.lt
          clear hp q0 q1 q2 q3 q4 q5 q6 q7
          by_cases ho : b.Ok ∧ p.box.Ok
          · have HZ := Lib.hid (show aroundP ps to_ = boxGo to_ (joinB b p.box) (ps.drop (k + 1)) by rw [HA.out, HD.out, boxGo_join hbr hz ho])
            have HBO := Lib.hid (fun w => both_any b p.box (joinB b p.box) 0 w (.inl ⟨ho.1, ho.2, rfl, rfl⟩))
            obtain ⟨jb, hjb⟩ : ∃ jb, joinB b p.box = jb := ⟨_, rfl⟩
            rw [hjb] at HZ HBO
            unfold BV.val at HBO
            clear hbr hz ho hjb
            go_wp2_with fail
            refine (HBO.out _).mono ?_
            rintro e w2 ⟨rfl, hb⟩
            have hE := (HBA.out.1.here hb).old (.cells #[.int .i64 jb.x0.m, .int .i64 jb.x0.s, .int .i64 jb.y0.m, .int .i64 jb.y0.s, .int .i64 jb.x1.m, .int .i64 jb.x1.s, .int .i64 jb.y1.m, .int .i64 jb.y1.s] 49)
            have hF := (HBA.out.2.1.here hb).old (.cells #[.int .i64 jb.x0.m, .int .i64 jb.x0.s, .int .i64 jb.y0.m, .int .i64 jb.y0.s, .int .i64 jb.x1.m, .int .i64 jb.x1.s, .int .i64 jb.y1.m, .int .i64 jb.y1.s] 49)
            have hG := Whole.made w2 49 #[.int .i64 jb.x0.m, .int .i64 jb.x0.s, .int .i64 jb.y0.m, .int .i64 jb.y0.s, .int .i64 jb.x1.m, .int .i64 jb.x1.s, .int .i64 jb.y1.m, .int .i64 jb.y1.s]
            have hbx := HBA.out.2.2.trans (hb.mono HBA.out.2.2.size)
            have hbz := hbx.alloc hbx.size (.cells #[.int .i64 jb.x0.m, .int .i64 jb.x0.s, .int .i64 jb.y0.m, .int .i64 jb.y0.s, .int .i64 jb.x1.m, .int .i64 jb.x1.s, .int .i64 jb.y1.m, .int .i64 jb.y1.s] 49)
            have hs2 := hb.size
            have rd := (HBA.out.2.1.here hb).reads
            have ft := (HBA.out.2.1.here hb).thawed
            have lf := (HBA.out.2.1.here hb).lt
            have H2 := Lib.hid (And.intro ((HBA.out.1.here hb)) (And.intro (HBA.out.2.1.here hb) hbx))
            clear hb hE hF hG hbx hbz x0 x1 x2 x3 x4 x5 x6 x7 y0 y1 y2 y3 y4 y5 y6 y7 y8 y9
            go_wp2_with fail
            go_roundw
            case rel => exact ⟨k + 1, jb, by go_num, by omega, HZ, Lib.hid ⟨(H2.out.1.far8 (by omega)).old _, (Whole.setBox (a := b) (b := jb) H2.out.2.1).old _, (below8 H2.out.2.2 (by omega)).alloc (by simp; omega) _⟩⟩
            case measure => simp [intOf]; omega
          · have HZ := Lib.hid (show aroundP ps to_ = none by rw [HA.out, HD.out, boxGo_fail hbr hz ho])
            have HBO := Lib.hid (fun w => both_any b p.box .zero 1 w (.inr ⟨ho, rfl, rfl⟩))
            unfold BV.val at HBO
            clear hbr hz ho
            go_wp2_with fail
            refine (HBO.out _).mono ?_
            rintro e w2 ⟨rfl, hb⟩
            have hbx := HBA.out.2.2.trans (hb.mono HBA.out.2.2.size)
            have H2 := Lib.hid (And.intro (HBA.out.1.here hb) hbx)
            have rd := (HBA.out.1.here hb).reads
            have ft := (HBA.out.1.here hb).thawed
            have lf := (HBA.out.1.here hb).lt
            clear hb hbx x0 x1 x2 x3 x4 x5 x6 x7 y0 y1 y2 y3 y4 y5 y6 y7 y8 y9
            go_wp2_with fail
            have hr := (Whole.setBox (a := .zero) (b := .zero) H2.out.1).old (.cells #[.int .i64 0, .int .i64 0, .int .i64 0, .int .i64 0, .int .i64 0, .int .i64 0, .int .i64 0, .int .i64 0] 49)
            refine bodyPost_ret (v := .tuple #[.agg #[.int .i64 0, .int .i64 0, .int .i64 0, .int .i64 0, .int .i64 0, .int .i64 0, .int .i64 0, .int .i64 0], .int .i64 1]) (results_around _ _ w.heap.size .zero _ rfl rfl (bxw_facts hr).1) rfl ⟨by rw [HZ.out]; rfl, ?_⟩
            exact (below8 H2.out.2 (Nat.le_refl _)).alloc (by simp; omega) _
    · obtain rfl : k = n := by omega
      have d1 : decide ((k : Int) < (k : Int)) = false := by simp
      have HZ := Lib.hid (show aroundP ps to_ = some b by rw [HA.out, List.drop_of_length_le (by rw [HL.out]; exact Nat.le_refl _)]; rfl)
      have rd := HB.out.1.reads
      have ft := HB.out.1.thawed
      have lf := HB.out.1.lt
      clear hW
      go_wp2_with fail
      have hr := Whole.setBox (a := .zero) (b := b) HB.out.1
      refine bodyPost_ret (v := .tuple #[.agg #[.int .i64 b.x0.m, .int .i64 b.x0.s, .int .i64 b.y0.m, .int .i64 b.y0.s, .int .i64 b.x1.m, .int .i64 b.x1.s, .int .i64 b.y1.m, .int .i64 b.y1.s], .int .i64 0]) (results_around _ _ w.heap.size b _ rfl rfl (bxw_facts hr).1) rfl ⟨by rw [HZ.out]; rfl, ?_⟩
      exact below8 HB.out.2.2 (Nat.le_refl _)
end Go.Proofs.YtdlmhienolmncaaGreat
/- cut: Text; where a text stands: what Find walks (pure). -/
namespace Go.Proofs.YtdlmhienolmncaaGreat
open Go.RowKit Dec

theorem index_room {s t : List UInt8} (ht : t ≠ []) : ∀ (i : Nat), Lib.index s t = (i : Int) → i + t.length ≤ s.length := by
  induction s with
  | nil =>
    intro i h
    unfold Lib.index at h
    cases t with
    | nil => exact absurd rfl ht
    | cons a t => simp at h <;> omega
  | cons b s ih =>
    intro i h
    unfold Lib.index at h
    split at h
    · rename_i hp
      have := (List.isPrefixOf_iff_prefix.1 hp).length_le
      omega
    · split at h
      · omega
      · rename_i h1
        have hne : Lib.index s t ≠ -1 := by simpa using h1
        have hg := Lib.index_ge s t
        have := ih (i - 1) (by omega)
        simp only [List.length_cons]
        omega
theorem pcsFrom_has : ∀ (l : List (ByteArray × BV)) (e k : Nat), k < e + totT l → k < e ∨ ∃ p ∈ pcsFrom e l, k < p.fin
  | [], e, k, h => .inl (by unfold totT at h; simpa using h)
  | (t, b) :: l, e, k, h => by
    have hs : totT ((t, b) :: l) = t.size + totT l := by unfold totT; simp
    rcases pcsFrom_has l (e + t.size) k (by omega) with h1 | ⟨p, hp, h2⟩
    · exact .inr ⟨_, by rw [pcsFrom]; exact List.mem_cons_self .., h1⟩
    · exact .inr ⟨p, by rw [pcsFrom]; exact List.mem_cons_of_mem _ hp, h2⟩
theorem allT_from : ∀ (l : List (ByteArray × BV)) (e : Nat), (allT (pcsFrom e l)).length = totT l
  | [], e => rfl
  | (t, b) :: l, e => by
    have ih := allT_from l (e + t.size)
    unfold allT at ih ⊢
    rw [pcsFrom, List.map_cons, List.flatten_cons, List.length_append, ih]
    have e2 : t.data.toList.length = t.size := Array.length_toList
    show t.data.toList.length + _ = _
    rw [e2]
    unfold totT
    simp
theorem pcs_has {fs : List Nm} {l : List Mk} {k : Nat} (h : k < (allT (pcs fs l)).length) : ∃ p ∈ pcs fs l, k < p.fin := by
  unfold pcs at h ⊢
  rw [allT_from] at h
  rcases pcsFrom_has (txOf fs l) 0 k (by omega) with h1 | h1
  · omega
  · exact h1
theorem behind_pos {p : Pc} {ps : List Pc} {k : Nat} (h : p.fin ≤ k) : behindP (p :: ps) k = behindP ps k := by
  unfold behindP
  rw [List.dropWhile_cons_of_pos (by simpa using h)]
theorem behind_neg {p : Pc} {ps : List Pc} {k : Nat} (h : k < p.fin) : behindP (p :: ps) k = p :: ps := by
  unfold behindP
  rw [List.dropWhile_cons_of_neg (by simp; omega)]
theorem dropWhile_more (ps : List Pc) {a b : Nat} (h : a ≤ b) : behindP ps b = behindP (behindP ps a) b := by
  induction ps with
  | nil => rfl
  | cons p ps ih =>
    by_cases hp : p.fin ≤ a
    · rw [behind_pos hp, behind_pos (by omega), ih]
    · rw [behind_neg (k := a) (by omega)]
theorem behind_has : ∀ (ps : List Pc) (k : Nat), behindP ps k ≠ [] ↔ ∃ p ∈ ps, k < p.fin
  | [], k => by simp [behindP]
  | p :: ps, k => by
    by_cases hp : p.fin ≤ k
    · rw [behind_pos hp, behind_has ps k]
      constructor
      · rintro ⟨q, hq, h⟩; exact ⟨q, List.mem_cons_of_mem _ hq, h⟩
      · rintro ⟨q, hq, h⟩
        rcases List.mem_cons.1 hq with rfl | hq
        · omega
        · exact ⟨q, hq, h⟩
    · rw [behind_neg (by omega)]
      exact ⟨fun _ => ⟨p, List.mem_cons_self .., by omega⟩, fun _ => by simp⟩
theorem behind_some {ps qs : List Pc} {k : Nat} (he : behindP ps k = behindP qs k) (h : ∃ p ∈ ps, k < p.fin) : ∃ p ∈ qs, k < p.fin := by
  rw [← behind_has] at h ⊢
  rwa [← he]
theorem findP_none {ps : List Pc} {t : List UInt8} {f a : Nat} (h : Lib.index ((allT ps).drop a) t < 0) : findP ps t (f + 1) a = some [] := by rw [findP, if_pos h]
theorem findP_bad {ps : List Pc} {t : List UInt8} {f a i : Nat} (h : Lib.index ((allT ps).drop a) t = (i : Int)) (hb : aroundP (behindP ps (a + i)) (a + i + t.length) = none) : findP ps t (f + 1) a = none := by
  rw [findP, if_neg (by omega), h, Int.toNat_natCast, hb]
theorem findP_step {ps : List Pc} {t : List UInt8} {f a i : Nat} {b : BV} (h : Lib.index ((allT ps).drop a) t = (i : Int)) (hb : aroundP (behindP ps (a + i)) (a + i + t.length) = some b) : findP ps t (f + 1) a = (findP ps t f (a + i + t.length)).map (b :: ·) := by
  rw [findP, if_neg (by omega), h, Int.toNat_natCast, hb]
def MX (w : World) : Prop := 0 < w.heap.size ∧ ∃ m, w.cell? ⟨0, 0, none⟩ = some (.int .i64 m)
theorem MX.below {w w' : World} {B : Nat} (h : MX w) (hb : Below B w w') (hB : 0 < B) : MX w' := by
  obtain ⟨h0, m, hm⟩ := h
  exact ⟨Nat.lt_of_lt_of_le h0 hb.size, m, (hb.cell (p := ⟨0, 0, none⟩) hB).trans hm⟩
theorem MX.later {w w' : World} (h : MX w) (hb : Below w.heap.size w w') : MX w' := h.below hb h.1
set_option maxRecDepth 100000 in
set_option maxHeartbeats 4000000 in
theorem textC_any (A : Option Addr) (n c : Nat) (l : List Mk) (A2 : Option Addr) (n2 c2 : Nat) (fs : List Nm) (w : World) (h : MarksAt w A n c l) (hn : n ≤ 1000000) (h2 : NmsAt w A2 n2 c2 fs) (h60 : ∀ f ∈ fs, f.s.n ≤ 1000000) :
    Calls Tryz.prog 16 #[.slice A n c, .slice A2 n2 c2] w fun e w' => e = .returned (.tuple #[.string ⟨(textR fs l).toArray⟩, .int .i64 (readE fs l)]) ∧ Below w.heap.size w w' := by
  have HR := Lib.hid (read_any A n c l A2 n2 c2 fs w h hn h2 h60)
  have HLL := Lib.hid (show (readL fs l).length ≤ 1000000 by
    unfold readL
    split
    · exact Nat.le_trans (pcs_len _ _) (by rw [h.len]; exact hn)
    · simp)
  obtain ⟨q, hq⟩ : ∃ q, readE fs l = q := ⟨_, rfl⟩
  have HT := Lib.hid (show textR fs l = if q = 0 then allT (readL fs l) else [] by unfold textR readL; rw [hq]; split <;> rfl)
  have hq3 : q = 0 ∨ q = 1 ∨ q = 4 := by
    rw [← hq]
    unfold readE
    split
    · split
      · exact .inl rfl
      · exact .inr (.inr rfl)
    · exact .inr (.inl rfl)
  unfold ReadSaid at HR
  rw [hq] at HR ⊢
  clear h h2 h60 hq
  by_cases h0 : q = 0
  · subst h0
    rw [if_pos rfl] at HT
    clear hq3
    go_enter Tryz.func16, Tryz.ntmps16
    go_wp2_with fail
    refine HR.out.mono ?_
    rintro e w1 ⟨A', c', rfl, hp, hb⟩
    have HB := Lib.hid hb
    have HJ := Lib.hid (join_any A' _ c' _ w1 hp HLL.out)
    clear hp hb
    go_wp2_with fail
    refine HJ.out.mono ?_
    rintro e w2 ⟨rfl, hb⟩
    have HB2 := Lib.hid (HB.out.trans (hb.mono HB.out.size))
    clear hb
    go_wp2_with fail
    go_ret2
    exact ⟨by rw [HT.out]; rfl, HB2.out⟩
  · rw [if_neg h0] at HT
    have d0 : (q != 0) = true := by simp [h0]
    rcases hq3 with h | rfl | rfl
    · exact absurd h h0
    all_goals
      clear h0 d0
      go_enter Tryz.func16, Tryz.ntmps16
      go_wp2_with fail
      refine HR.out.mono ?_
      rintro e w1 ⟨A', c', rfl, hp, hb⟩
      have HB := Lib.hid hb
      clear hp hb
      go_wp2_with fail
      go_ret2
      exact ⟨by rw [HT.out]; rfl, HB.out⟩
end Go.Proofs.YtdlmhienolmncaaGreat
/- The program's own variable that a search looks at (the cut seat): every world that is shaped has it. -/
namespace Go.Proofs.YtdlmhienolmncaaGreat
open Go.RowKit

theorem mx_of {W : World} (h : W.ShapedOpen Tryz.prog) : MX W := by
  obtain ⟨m, hm⟩ := Tryz.laysM143.s1_3 W h
  exact ⟨World.block_lt_of_cell? _ _ hm, m, hm⟩
end Go.Proofs.YtdlmhienolmncaaGreat
