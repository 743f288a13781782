/- cut: around: the least box around some pieces. -/
import Derived.Test.YtdlmhienolmncaaCutP
import Derived.Test.YtdlmhienolmncaaCutB
namespace Go.Proofs.Ytdlmhienolmncaa
open Go.RowKit Dec

def boxR (o : Option BV) : BV := o.getD .zero
def boxE (o : Option BV) : Int := if o.isSome then 0 else 1
theorem boxGo_end (t_ : Nat) (b : BV) : boxGo t_ b [] = some b := rfl
theorem boxGo_break {t_ : Nat} {b : BV} {p : Pc} {ps : List Pc} (h : t_ ≤ p.fin - p.text.size) : boxGo t_ b (p :: ps) = some b := by rw [boxGo, if_pos h]
theorem boxGo_skip {t_ : Nat} {b : BV} {p : Pc} {ps : List Pc} (h : ¬ t_ ≤ p.fin - p.text.size) (hz : p.text.size = 0) : boxGo t_ b (p :: ps) = boxGo t_ b ps := by rw [boxGo, if_neg h, if_pos hz]
theorem boxGo_join {t_ : Nat} {b : BV} {p : Pc} {ps : List Pc} (h : ¬ t_ ≤ p.fin - p.text.size) (hz : ¬ p.text.size = 0) (ho : b.Ok ∧ p.box.Ok) : boxGo t_ b (p :: ps) = boxGo t_ (joinB b p.box) ps := by rw [boxGo, if_neg h, if_neg hz, if_pos (decide_eq_true ho)]
theorem boxGo_fail {t_ : Nat} {b : BV} {p : Pc} {ps : List Pc} (h : ¬ t_ ≤ p.fin - p.text.size) (hz : ¬ p.text.size = 0) (ho : ¬ (b.Ok ∧ p.box.Ok)) : boxGo t_ b (p :: ps) = none := by rw [boxGo, if_neg h, if_neg hz, if_neg (by simpa using ho)]
theorem results_around (tmps : Array Value) (w : World) (g : Nat) (b : BV) (v : Value) (hp : tmps.getD 4 undef = .pointer (some ⟨g, 0, none⟩)) (hv : tmps.getD 5 undef = v) (h : (w.cell? ⟨g, 0, none⟩ = some (.int .i64 b.x0.m) ∧ w.cell? ⟨g, 1, none⟩ = some (.int .i64 b.x0.s) ∧ w.cell? ⟨g, 2, none⟩ = some (.int .i64 b.y0.m) ∧ w.cell? ⟨g, 3, none⟩ = some (.int .i64 b.y0.s) ∧ w.cell? ⟨g, 4, none⟩ = some (.int .i64 b.x1.m) ∧ w.cell? ⟨g, 5, none⟩ = some (.int .i64 b.x1.s) ∧ w.cell? ⟨g, 6, none⟩ = some (.int .i64 b.y1.m) ∧ w.cell? ⟨g, 7, none⟩ = some (.int .i64 b.y1.s))) :
    (results Try.f37 tmps).run Try.prog w = .ok (.tuple #[.agg #[.int .i64 b.x0.m, .int .i64 b.x0.s, .int .i64 b.y0.m, .int .i64 b.y0.s, .int .i64 b.x1.m, .int .i64 b.x1.s, .int .i64 b.y1.m, .int .i64 b.y1.s], v]) w := by
  have hp' : tmps[4]?.getD undef = .pointer (some ⟨g, 0, none⟩) := by simpa using hp
  have hv' : tmps[5]?.getD undef = v := by simpa using hv
  obtain ⟨h0, h1, h2, h3, h4, h5, h6, h7⟩ := h
  simp [results, Try.results37, hp', hv', asAddr, go_sem, h0, h1, h2, h3, h4, h5, h6, h7]
set_option maxHeartbeats 1000000 in
theorem Whole.setBox {w : World} {g : Nat} {T : TypeId} {a b : BV} (h : Whole w g T #[.int .i64 a.x0.m, .int .i64 a.x0.s, .int .i64 a.y0.m, .int .i64 a.y0.s, .int .i64 a.x1.m, .int .i64 a.x1.s, .int .i64 a.y1.m, .int .i64 a.y1.s]) : Whole ((((((((w.setCell ⟨g, 0, none⟩ (.int .i64 b.x0.m)).setCell ⟨g, 1, none⟩ (.int .i64 b.x0.s)).setCell ⟨g, 2, none⟩ (.int .i64 b.y0.m)).setCell ⟨g, 3, none⟩ (.int .i64 b.y0.s)).setCell ⟨g, 4, none⟩ (.int .i64 b.x1.m)).setCell ⟨g, 5, none⟩ (.int .i64 b.x1.s)).setCell ⟨g, 6, none⟩ (.int .i64 b.y1.m)).setCell ⟨g, 7, none⟩ (.int .i64 b.y1.s)) g T #[.int .i64 b.x0.m, .int .i64 b.x0.s, .int .i64 b.y0.m, .int .i64 b.y0.s, .int .i64 b.x1.m, .int .i64 b.x1.s, .int .i64 b.y1.m, .int .i64 b.y1.s] := by
  have h' := (((((((h.set 0 (.int .i64 b.x0.m)).set 1 (.int .i64 b.x0.s)).set 2 (.int .i64 b.y0.m)).set 3 (.int .i64 b.y0.s)).set 4 (.int .i64 b.x1.m)).set 5 (.int .i64 b.x1.s)).set 6 (.int .i64 b.y1.m)).set 7 (.int .i64 b.y1.s)
  simpa using h'
theorem below8 {B : Nat} {a w : World} {g : Nat} {v0 v1 v2 v3 v4 v5 v6 v7 : Value} (h : Below B a w) (hg : B ≤ g) : Below B a ((((((((w.setCell ⟨g, 0, none⟩ v0).setCell ⟨g, 1, none⟩ v1).setCell ⟨g, 2, none⟩ v2).setCell ⟨g, 3, none⟩ v3).setCell ⟨g, 4, none⟩ v4).setCell ⟨g, 5, none⟩ v5).setCell ⟨g, 6, none⟩ v6).setCell ⟨g, 7, none⟩ v7) :=
  (((((((h.setCell hg _).setCell hg _).setCell hg _).setCell hg _).setCell hg _).setCell hg _).setCell hg _).setCell hg _
theorem Whole.far8 {w : World} {G g : Nat} {T : TypeId} {cs : Array Value} {v0 v1 v2 v3 v4 v5 v6 v7 : Value} (h : Whole w G T cs) (hn : G ≠ g) : Whole ((((((((w.setCell ⟨g, 0, none⟩ v0).setCell ⟨g, 1, none⟩ v1).setCell ⟨g, 2, none⟩ v2).setCell ⟨g, 3, none⟩ v3).setCell ⟨g, 4, none⟩ v4).setCell ⟨g, 5, none⟩ v5).setCell ⟨g, 6, none⟩ v6).setCell ⟨g, 7, none⟩ v7) G T cs :=
  (((((((h.away (p := ⟨g, 0, none⟩) hn _).away (p := ⟨g, 1, none⟩) hn _).away (p := ⟨g, 2, none⟩) hn _).away (p := ⟨g, 3, none⟩) hn _).away (p := ⟨g, 4, none⟩) hn _).away (p := ⟨g, 5, none⟩) hn _).away (p := ⟨g, 6, none⟩) hn _).away (p := ⟨g, 7, none⟩) hn _
set_option maxRecDepth 100000 in
set_option maxHeartbeats 8000000 in
theorem around_any (R o n c : Nat) (ps : List Pc) (to_ : Nat) (w : World) (h : PcsAt w (some ⟨R, o, none⟩) n c ps) (hn : n ≤ 1000000) (h0 : 0 < n) :
    Calls Try.prog 37 #[.slice (some ⟨R, o, none⟩) n c, .int .i64 (to_ : Int)] w fun e w' => e = .returned (.tuple #[.agg #[.int .i64 (boxR (aroundP ps to_)).x0.m, .int .i64 (boxR (aroundP ps to_)).x0.s, .int .i64 (boxR (aroundP ps to_)).y0.m, .int .i64 (boxR (aroundP ps to_)).y0.s, .int .i64 (boxR (aroundP ps to_)).x1.m, .int .i64 (boxR (aroundP ps to_)).x1.s, .int .i64 (boxR (aroundP ps to_)).y1.m, .int .i64 (boxR (aroundP ps to_)).y1.s], .int .i64 (boxE (aroundP ps to_))]) ∧ Below w.heap.size w w' := by
  have hcap := h.row.cap
  have htop := h.row.top
  have HL := Lib.hid h.len
  have H := Lib.hid h
  obtain ⟨p0, hp0⟩ : ∃ p, ps[0]? = some p := ⟨_, List.getElem?_eq_getElem (by rw [HL.out]; exact h0)⟩
  obtain ⟨R', o', e1, hR, ⟨-, -, g2, g3, g4, g5, g6, g7, g8, g9⟩, -⟩ := h.get hp0
  injection e1 with e1
  injection e1 with e1 e2
  subst e1 e2
  rw [Nat.zero_mul, Nat.add_zero] at g2 g3 g4 g5 g6 g7 g8 g9
  have HG := Lib.hid (show aroundP ps to_ = boxGo to_ p0.box (ps.drop 0) by
    rw [List.drop_zero]
    cases ps with
    | nil => simp at hp0
    | cons a ps => simp at hp0; subst hp0; rfl)
  have b0 : (0 : Int) < (n : Int) := by omega
  have hr0 := Whole.made w 39 #[.int .i64 0, .int .i64 0, .int .i64 0, .int .i64 0, .int .i64 0, .int .i64 0, .int .i64 0, .int .i64 0]
  have hb0 := Whole.made (w.alloc (.cells #[.int .i64 0, .int .i64 0, .int .i64 0, .int .i64 0, .int .i64 0, .int .i64 0, .int .i64 0, .int .i64 0] 39)) 39 #[.int .i64 p0.box.x0.m, .int .i64 p0.box.x0.s, .int .i64 p0.box.y0.m, .int .i64 p0.box.y0.s, .int .i64 p0.box.x1.m, .int .i64 p0.box.x1.s, .int .i64 p0.box.y1.m, .int .i64 p0.box.y1.s]
  simp only [World.size_alloc] at hb0
  have HS := Lib.hid (And.intro (hr0.old (.cells #[.int .i64 p0.box.x0.m, .int .i64 p0.box.x0.s, .int .i64 p0.box.y0.m, .int .i64 p0.box.y0.s, .int .i64 p0.box.x1.m, .int .i64 p0.box.x1.s, .int .i64 p0.box.y1.m, .int .i64 p0.box.y1.s] 39)) (And.intro hb0 (show Below w.heap.size w ((w.alloc (.cells #[.int .i64 0, .int .i64 0, .int .i64 0, .int .i64 0, .int .i64 0, .int .i64 0, .int .i64 0, .int .i64 0] 39)).alloc (.cells #[.int .i64 p0.box.x0.m, .int .i64 p0.box.x0.s, .int .i64 p0.box.y0.m, .int .i64 p0.box.y0.s, .int .i64 p0.box.x1.m, .int .i64 p0.box.x1.s, .int .i64 p0.box.y1.m, .int .i64 p0.box.y1.s] 39)) from by (repeat (first | with_reducible exact Below.refl _ _ | with_reducible refine Below.drew ?_ | with_reducible refine bdrewN ?_ _ | (with_reducible refine Below.setCell ?_ ?_ _; rotate_left; focus (first | exact Nat.le_refl _ | omega | (simp; omega) | (simp; done))) | (with_reducible refine Below.alloc ?_ ?_ _; rotate_left; focus (first | exact Nat.le_refl _ | omega | (simp; omega) | (simp; done))) | (with_reducible refine Below.trans ?_ (Below.mono (by assumption) ?_); rotate_left; focus (first | exact Nat.le_refl _ | omega | (simp; omega) | (simp; done))))))))
  clear h hp0 hr0 hb0
  go_enter Try.func37, Try.ntmps37
  go_wp2_with fail
  go_loopw [17] (fun i wr => ∃ (k : Nat) (b : BV), i = .int .i64 (k : Int) ∧ k ≤ n ∧ Hid (aroundP ps to_ = boxGo to_ b (ps.drop k)) ∧ Hid (Whole wr w.heap.size 39 #[.int .i64 0, .int .i64 0, .int .i64 0, .int .i64 0, .int .i64 0, .int .i64 0, .int .i64 0, .int .i64 0] ∧ Whole wr (w.heap.size + 1) 39 #[.int .i64 b.x0.m, .int .i64 b.x0.s, .int .i64 b.y0.m, .int .i64 b.y0.s, .int .i64 b.x1.m, .int .i64 b.x1.s, .int .i64 b.y1.m, .int .i64 b.y1.s] ∧ Below w.heap.size w wr)) (fun i _ => n - (intOf i).toNat)
  case atStart => exact ⟨0, p0.box, rfl, by omega, HG, HS⟩
  case round =>
    clear HS HG g2 g3 g4 g5 g6 g7 g8 g9
    obtain ⟨k, b, rfl, hk, HA, HB⟩ := hrel
    have hsz := HB.out.2.1.lt
    obtain ⟨⟨q0, q1, q2, q3, q4, q5, q6, q7⟩, -⟩ := bxw_facts HB.out.2.1
    have hW := HB.out.1
    by_cases hlt : k < n
    · have d1 : decide ((k : Int) < (n : Int)) = true := decide_eq_true (by omega)
      obtain ⟨p, hp⟩ : ∃ p, ps[k]? = some p := ⟨_, List.getElem?_eq_getElem (by rw [HL.out]; exact hlt)⟩
      obtain ⟨R', o', e1, hR2, ⟨g0, g1, g2, g3, g4, g5, g6, g7, g8, g9⟩, h32, hfin, hle⟩ := (H.out.below HB.out.2.2).get hp
      injection e1 with e1
      injection e1 with e1 e2
      subst e1 e2
      have hdr : ps.drop k = p :: ps.drop (k + 1) := by
        rw [List.drop_eq_getElem_cons (by rw [HL.out]; exact hlt)]
        congr 1
        have := (List.getElem?_eq_some_iff.1 hp).2
        exact this
      have HD := Lib.hid hdr
      have ew : IntKind.i64.wrap ((p.fin : Int) - (p.text.size : Int)) = (p.fin : Int) - (p.text.size : Int) := by rw [IntKind.wrap_i64]; omega
      have hbA := HB.out.2.2.alloc HB.out.2.2.size (.cells #[.string p.text, .int .i64 (p.fin : Int), .int .i64 p.box.x0.m, .int .i64 p.box.x0.s, .int .i64 p.box.y0.m, .int .i64 p.box.y0.s, .int .i64 p.box.x1.m, .int .i64 p.box.x1.s, .int .i64 p.box.y1.m, .int .i64 p.box.y1.s] 111)
      have HBA := Lib.hid (And.intro (HB.out.1.old (.cells #[.string p.text, .int .i64 (p.fin : Int), .int .i64 p.box.x0.m, .int .i64 p.box.x0.s, .int .i64 p.box.y0.m, .int .i64 p.box.y0.s, .int .i64 p.box.x1.m, .int .i64 p.box.x1.s, .int .i64 p.box.y1.m, .int .i64 p.box.y1.s] 111)) (And.intro (HB.out.2.1.old (.cells #[.string p.text, .int .i64 (p.fin : Int), .int .i64 p.box.x0.m, .int .i64 p.box.x0.s, .int .i64 p.box.y0.m, .int .i64 p.box.y0.s, .int .i64 p.box.x1.m, .int .i64 p.box.x1.s, .int .i64 p.box.y1.m, .int .i64 p.box.y1.s] 111)) hbA))
      clear hp hdr hbA hW
      by_cases hbr : to_ ≤ p.fin - p.text.size
      · have d2 : decide ((p.fin : Int) - (p.text.size : Int) ≥ (to_ : Int)) = true := decide_eq_true (by omega)
        have HZ := Lib.hid (show aroundP ps to_ = some b by rw [HA.out, HD.out, boxGo_break hbr])
        clear hbr
        have rd := HB.out.1.reads
        have ft := HB.out.1.thawed
        have lf := HB.out.1.lt
        go_wp2_with fail
        have hr := (Whole.setBox (a := .zero) (b := b) HB.out.1).old (.cells #[.string p.text, .int .i64 (p.fin : Int), .int .i64 p.box.x0.m, .int .i64 p.box.x0.s, .int .i64 p.box.y0.m, .int .i64 p.box.y0.s, .int .i64 p.box.x1.m, .int .i64 p.box.x1.s, .int .i64 p.box.y1.m, .int .i64 p.box.y1.s] 111)
        refine bodyPost_ret (v := .tuple #[.agg #[.int .i64 b.x0.m, .int .i64 b.x0.s, .int .i64 b.y0.m, .int .i64 b.y0.s, .int .i64 b.x1.m, .int .i64 b.x1.s, .int .i64 b.y1.m, .int .i64 b.y1.s], .int .i64 0]) (results_around _ _ w.heap.size b _ rfl rfl (bxw_facts hr).1) rfl ⟨by rw [HZ.out]; rfl, ?_⟩
        exact (below8 HB.out.2.2 (Nat.le_refl _)).alloc (by simp; omega) _
      · have d2 : decide ((p.fin : Int) - (p.text.size : Int) ≥ (to_ : Int)) = false := decide_eq_false (by omega)
        by_cases hz : p.text.size = 0
        · have HZ := Lib.hid (show aroundP ps to_ = boxGo to_ b (ps.drop (k + 1)) by rw [HA.out, HD.out, boxGo_skip hbr hz])
          have he := empty_text hz
          clear hbr hz
          go_wp2_with fail
          go_roundw
          case rel => exact ⟨k + 1, b, by go_num, by omega, HZ, HBA⟩
          case measure => simp [intOf]; omega
        · have he := full_text (s := p.text) (by omega)
          have lA := HBA.out.1.lt
          obtain ⟨⟨x0, x1, x2, x3, x4, x5, x6, x7⟩, -⟩ := bxw_facts HBA.out.2.1
          obtain ⟨wA, hwA⟩ : ∃ wA, wr.alloc (.cells #[.string p.text, .int .i64 (p.fin : Int), .int .i64 p.box.x0.m, .int .i64 p.box.x0.s, .int .i64 p.box.y0.m, .int .i64 p.box.y0.s, .int .i64 p.box.x1.m, .int .i64 p.box.x1.s, .int .i64 p.box.y1.m, .int .i64 p.box.y1.s] 111) = wA := ⟨_, rfl⟩
          have hp := Whole.made wr 111 #[.string p.text, .int .i64 (p.fin : Int), .int .i64 p.box.x0.m, .int .i64 p.box.x0.s, .int .i64 p.box.y0.m, .int .i64 p.box.y0.s, .int .i64 p.box.x1.m, .int .i64 p.box.x1.s, .int .i64 p.box.y1.m, .int .i64 p.box.y1.s]
          rw [hwA] at HBA hp x0 x1 x2 x3 x4 x5 x6 x7 lA
          have y0 : wA.cell? ⟨wr.heap.size, 0, none⟩ = some (.string p.text) := hp.reads 0
          have y1 : wA.cell? ⟨wr.heap.size, 1, none⟩ = some (.int .i64 (p.fin : Int)) := hp.reads 1
          have y2 : wA.cell? ⟨wr.heap.size, 2, none⟩ = some (.int .i64 p.box.x0.m) := hp.reads 2
          have y3 : wA.cell? ⟨wr.heap.size, 3, none⟩ = some (.int .i64 p.box.x0.s) := hp.reads 3
          have y4 : wA.cell? ⟨wr.heap.size, 4, none⟩ = some (.int .i64 p.box.y0.m) := hp.reads 4
          have y5 : wA.cell? ⟨wr.heap.size, 5, none⟩ = some (.int .i64 p.box.y0.s) := hp.reads 5
          have y6 : wA.cell? ⟨wr.heap.size, 6, none⟩ = some (.int .i64 p.box.x1.m) := hp.reads 6
          have y7 : wA.cell? ⟨wr.heap.size, 7, none⟩ = some (.int .i64 p.box.x1.s) := hp.reads 7
          have y8 : wA.cell? ⟨wr.heap.size, 8, none⟩ = some (.int .i64 p.box.y1.m) := hp.reads 8
          have y9 : wA.cell? ⟨wr.heap.size, 9, none⟩ = some (.int .i64 p.box.y1.s) := hp.reads 9
          have lp := hp.lt
          clear hp q0 q1 q2 q3 q4 q5 q6 q7
          by_cases ho : b.Ok ∧ p.box.Ok
          · have HZ := Lib.hid (show aroundP ps to_ = boxGo to_ (joinB b p.box) (ps.drop (k + 1)) by rw [HA.out, HD.out, boxGo_join hbr hz ho])
            have HBO := Lib.hid (fun w => both_any b p.box (joinB b p.box) 0 w (.inl ⟨ho.1, ho.2, rfl, rfl⟩))
            obtain ⟨jb, hjb⟩ : ∃ jb, joinB b p.box = jb := ⟨_, rfl⟩
            rw [hjb] at HZ HBO
            unfold BV.val at HBO
            clear hbr hz ho hjb
            go_wp2_with fail
            refine (HBO.out _).mono ?_
            rintro e w2 ⟨rfl, hb⟩
            have hE := (HBA.out.1.here hb).old (.cells #[.int .i64 jb.x0.m, .int .i64 jb.x0.s, .int .i64 jb.y0.m, .int .i64 jb.y0.s, .int .i64 jb.x1.m, .int .i64 jb.x1.s, .int .i64 jb.y1.m, .int .i64 jb.y1.s] 39)
            have hF := (HBA.out.2.1.here hb).old (.cells #[.int .i64 jb.x0.m, .int .i64 jb.x0.s, .int .i64 jb.y0.m, .int .i64 jb.y0.s, .int .i64 jb.x1.m, .int .i64 jb.x1.s, .int .i64 jb.y1.m, .int .i64 jb.y1.s] 39)
            have hG := Whole.made w2 39 #[.int .i64 jb.x0.m, .int .i64 jb.x0.s, .int .i64 jb.y0.m, .int .i64 jb.y0.s, .int .i64 jb.x1.m, .int .i64 jb.x1.s, .int .i64 jb.y1.m, .int .i64 jb.y1.s]
            have hbx := HBA.out.2.2.trans (hb.mono HBA.out.2.2.size)
            have hbz := hbx.alloc hbx.size (.cells #[.int .i64 jb.x0.m, .int .i64 jb.x0.s, .int .i64 jb.y0.m, .int .i64 jb.y0.s, .int .i64 jb.x1.m, .int .i64 jb.x1.s, .int .i64 jb.y1.m, .int .i64 jb.y1.s] 39)
            have hs2 := hb.size
            have rd := (HBA.out.2.1.here hb).reads
            have ft := (HBA.out.2.1.here hb).thawed
            have lf := (HBA.out.2.1.here hb).lt
            have H2 := Lib.hid (And.intro ((HBA.out.1.here hb)) (And.intro (HBA.out.2.1.here hb) hbx))
            clear hb hE hF hG hbx hbz x0 x1 x2 x3 x4 x5 x6 x7 y0 y1 y2 y3 y4 y5 y6 y7 y8 y9
            go_wp2_with fail
            go_roundw
            case rel => exact ⟨k + 1, jb, by go_num, by omega, HZ, Lib.hid ⟨(H2.out.1.far8 (by omega)).old _, (Whole.setBox (a := b) (b := jb) H2.out.2.1).old _, (below8 H2.out.2.2 (by omega)).alloc (by simp; omega) _⟩⟩
            case measure => simp [intOf]; omega
          · have HZ := Lib.hid (show aroundP ps to_ = none by rw [HA.out, HD.out, boxGo_fail hbr hz ho])
            have HBO := Lib.hid (fun w => both_any b p.box .zero 1 w (.inr ⟨ho, rfl, rfl⟩))
            unfold BV.val at HBO
            clear hbr hz ho
            go_wp2_with fail
            refine (HBO.out _).mono ?_
            rintro e w2 ⟨rfl, hb⟩
            have hbx := HBA.out.2.2.trans (hb.mono HBA.out.2.2.size)
            have H2 := Lib.hid (And.intro (HBA.out.1.here hb) hbx)
            have rd := (HBA.out.1.here hb).reads
            have ft := (HBA.out.1.here hb).thawed
            have lf := (HBA.out.1.here hb).lt
            clear hb hbx x0 x1 x2 x3 x4 x5 x6 x7 y0 y1 y2 y3 y4 y5 y6 y7 y8 y9
            go_wp2_with fail
            have hr := (Whole.setBox (a := .zero) (b := .zero) H2.out.1).old (.cells #[.int .i64 0, .int .i64 0, .int .i64 0, .int .i64 0, .int .i64 0, .int .i64 0, .int .i64 0, .int .i64 0] 39)
            refine bodyPost_ret (v := .tuple #[.agg #[.int .i64 0, .int .i64 0, .int .i64 0, .int .i64 0, .int .i64 0, .int .i64 0, .int .i64 0, .int .i64 0], .int .i64 1]) (results_around _ _ w.heap.size .zero _ rfl rfl (bxw_facts hr).1) rfl ⟨by rw [HZ.out]; rfl, ?_⟩
            exact (below8 H2.out.2 (Nat.le_refl _)).alloc (by simp; omega) _
    · obtain rfl : k = n := by omega
      have d1 : decide ((k : Int) < (k : Int)) = false := by simp
      have HZ := Lib.hid (show aroundP ps to_ = some b by rw [HA.out, List.drop_of_length_le (by rw [HL.out]; exact Nat.le_refl _)]; rfl)
      have rd := HB.out.1.reads
      have ft := HB.out.1.thawed
      have lf := HB.out.1.lt
      clear hW
      go_wp2_with fail
      have hr := Whole.setBox (a := .zero) (b := b) HB.out.1
      refine bodyPost_ret (v := .tuple #[.agg #[.int .i64 b.x0.m, .int .i64 b.x0.s, .int .i64 b.y0.m, .int .i64 b.y0.s, .int .i64 b.x1.m, .int .i64 b.x1.s, .int .i64 b.y1.m, .int .i64 b.y1.s], .int .i64 0]) (results_around _ _ w.heap.size b _ rfl rfl (bxw_facts hr).1) rfl ⟨by rw [HZ.out]; rfl, ?_⟩
      exact below8 HB.out.2.2 (Nat.le_refl _)
end Go.Proofs.Ytdlmhienolmncaa
