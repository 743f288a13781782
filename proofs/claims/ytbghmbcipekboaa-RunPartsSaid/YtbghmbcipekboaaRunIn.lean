/- run's partsIn: the iterator over the parts of some bytes. -/
import Derived.Test.YtbghmbcipekboaaRunC
import Derived.Test.YtbghmbcipekboaaIter
import Derived.Test.YtbghmbcipekboaaStillIn
import Derived.Shelf.Abstract
import Derived.OwnWalkIn
import Derived.TacticsInMore
import Derived.LoopNIn
import Derived.LoopIn
import Derived.Sort.LoopGhostIn
import Derived.Sort.QuietIn
namespace Go.Proofs.Ytbghmbcipekboaa
open Go.RowKit
attribute [local go_sem] Oper.semAt_some

theorem Bytes.fr {w w' : World} {A : Option Addr} {n c : Nat} {bs : List Nat} {S : Nat → Prop} (h : Bytes w A n c bs) (hf : Fr S w w') (hn : 0 < n → ∀ R o, A = some ⟨R, o, none⟩ → R < w.heap.size → ¬ S R) : Bytes w' A n c bs :=
  ⟨h.len, h.cap, h.top, h.byte, fun h0 => by
    obtain ⟨R, o, e, hR, hc⟩ := h.at_ h0
    exact ⟨R, o, e, Nat.lt_of_lt_of_le hR hf.size, fun i b hb => (World.cell?_of_block (w := w) (hf.block R hR (hn h0 R o e hR))).trans (hc i b hb)⟩⟩
theorem Bytes.putObj {w : World} {A : Option Addr} {n c l : Nat} {bs : List Nat} {o : Obj} (o' : Obj) (h : Bytes w A n c bs) (hl : w.heap[l]? = some o) (ho : o.isCells = false) : Bytes (w.putObj l o') A n c bs :=
  ⟨h.len, h.cap, h.top, h.byte, fun h0 => by
    obtain ⟨R, k, e, hR, hc⟩ := h.at_ h0
    refine ⟨R, k, e, by simpa using hR, fun i b hb => ?_⟩
    have := hc i b hb
    rw [← this]
    refine World.cell?_of_block (World.putObj_heap_other (fun e => ?_))
    have e : R = l := e
    subst e
    unfold World.cell? at this
    rw [hl] at this
    cases o <;> simp_all [Obj.isCells]⟩
/-- A slice cut at k, wherever it ends. -/
theorem Bytes.cut {w : World} {A : Option Addr} {n c k : Nat} {bs : List Nat} (h : Bytes w A n c bs) (hk : k ≤ n) {A' : Option Addr} (hA : ∀ R o, A = some ⟨R, o, none⟩ → k < n → A' = some ⟨R, o + k, none⟩) : Bytes w A' (n - k) (c - k) (bs.drop k) := by
  have hl := h.len
  have hcap := h.cap
  have htop := h.top
  refine ⟨by rw [List.length_drop, hl], by omega, by omega, fun b hb => h.byte b (List.mem_of_mem_drop hb), fun hn => ?_⟩
  obtain ⟨R, o, e, hR, hc⟩ := h.at_ (by omega)
  refine ⟨R, o + k, hA R o e (by omega), hR, fun i b hb => ?_⟩
  rw [List.getElem?_drop] at hb
  rw [show o + k + i = o + (k + i) by omega]
  exact hc _ _ hb
/-- A slice that lies below block n₀ or in no block. -/
def LowA (n₀ : Nat) (A : Option Addr) : Prop := ∀ R o, A = some ⟨R, o, none⟩ → R < n₀
/-- The box B holds the bytes that are left, which lie below block n₀. -/
def BoxIn (B n₀ : Nat) (s : List Nat) (W : World) : Prop := ∃ A n c, Boxed W B 22 (.slice A n c) ∧ Bytes W A n c s ∧ (0 < n → LowA n₀ A)
theorem BoxIn.fr {B n₀ : Nat} {s : List Nat} {W W' : World} {S : Nat → Prop} (h : BoxIn B n₀ s W) (hf : Fr S W W') (hB : ¬ S B) (hS : ∀ k, k < n₀ → ¬ S k) : BoxIn B n₀ s W' := by
  obtain ⟨A, n, c, hb, hs, hl⟩ := h
  exact ⟨A, n, c, (hf.block B hb.lt hB).trans hb, hs.fr hf (fun h0 R o e _ => hS R (hl h0 R o e)), hl⟩
/-- What a round keeps. -/
def KpIn (B n₀ : Nat) (W W' : World) : Prop := Fr (fun k => n₀ ≤ k ∧ k ≠ B) W W'
theorem KpIn.trans {B n₀ : Nat} {a b c : World} (h : KpIn B n₀ a b) (k : KpIn B n₀ b c) : KpIn B n₀ a c := Fr.trans h k (fun _ _ e => e)
theorem cutPart_none {A : Option Addr} {n c : Nat} {bs : List Nat} {w : World} (h : Bytes w A n c bs) (hc : cut1 bs = none) :
    Calls Try.prog 20 #[.slice A n c] w fun e w' => e = .returned (.tuple #[.slice none 0 0, .int .i64 0]) ∧ Below w.heap.size w w' :=
  (cutPart_any A n c bs w h).mono fun e w' ⟨v, t, he, hb, ho⟩ => by
    rcases ho with ⟨_, rfl, rfl⟩ | ⟨p, A', c', hp, _⟩
    · exact ⟨he, hb⟩
    · rw [hc] at hp; cases hp
theorem cutPart_some {A : Option Addr} {n c k : Nat} {bs p : List Nat} {w : World} (h : Bytes w A n c bs) (hc : cut1 bs = some (p, k)) :
    Calls Try.prog 20 #[.slice A n c] w fun e w' => ∃ A' c', e = .returned (.tuple #[.slice A' p.length c', .int .i64 k]) ∧ 2 ≤ k ∧ k ≤ bs.length ∧ 1 ≤ p.length ∧ Bytes w' A' p.length c' p ∧ Below w.heap.size w w' :=
  (cutPart_any A n c bs w h).mono fun e w' ⟨v, t, he, hb, ho⟩ => by
    rcases ho with ⟨hp, _⟩ | ⟨p', A', c', hp, h1, h2, h3, rfl, h4⟩
    · rw [hc] at hp; cases hp
    · rw [hc] at hp
      injection hp with hp
      injection hp with e1 e2
      subst e1 e2
      exact ⟨A', c', he, h1, h2, h3, h4, hb⟩
/-- How yield is called. -/
def YIn (s : List Nat × Nat) (vs : Array Value) (t : List Nat × Nat) (W : World) : Prop :=
  s.2 = 0 ∧ s.1[0]? ≠ some 128 ∧ ((cut1 s.1 = none ∧ vs = #[.slice none 0 0, .int .i64 6] ∧ t = (s.1, 6)) ∨
    ∃ p k A c, cut1 s.1 = some (p, k) ∧ 1 ≤ p.length ∧ vs = #[.slice A p.length c, .int .i64 0] ∧ Bytes W A p.length c p ∧ t = (s.1.drop k, 0))
def TIn (B n₀ : Nat) (s : List Nat × Nat) (W : World) : Prop := BoxIn B n₀ s.1 W
def DoneIn (s : List Nat × Nat) : Prop := s.2 = 6 ∨ s.1[0]? = some 128

set_option maxRecDepth 100000 in
set_option maxHeartbeats 4000000 in
theorem partsIn_iter (B n₀ n : Nat) (hn : 1 ≤ n) (hB : n₀ ≤ B) (b : List Nat) :
    Iter Fence.wide n Try.prog 19 #[.pointer (some ⟨B, 0, none⟩)] (fun k => k = B) (TIn B n₀) YIn DoneIn (KpIn B n₀) (b, 0) := by
  intro l I Ix W hI hIx hY hI0 hT0
  refine callsIn_of_wp Try.func19 rfl trivial ?_ rfl
  simp only [Try.ntmps19, List.size_toArray, List.length_cons, List.length_nil, Nat.reduceAdd, Nat.reduceSub, Array.replicate_succ, Array.replicate_zero, List.push_toArray, List.append_toArray, List.nil_append, List.cons_append]
  gi_wp2
  gi_loopg [3] b.length (fun g _ wr => ∃ s : List Nat, s.length = g ∧ I (s, 0) wr ∧ TIn B n₀ (s, 0) wr)
  case atStart => exact ⟨b, rfl, hI0, hT0⟩
  case round =>
    obtain ⟨s, hsl, hi, ht⟩ := hrel
    have HI := Lib.hid hi
    have HT := Lib.hid ht
    have HL := Lib.hid hsl
    obtain ⟨A, m, c, hbx, hby, hlow⟩ := ht
    have cB := hbx.cell
    have hsl2 := hby.len
    have hcap := hby.cap
    have htop := hby.top
    obtain rfl := hsl2
    have HB := Lib.hid hby
    clear hsl hi hby
    by_cases h128 : s[0]? = some 128
    · obtain ⟨x, r, rfl⟩ : ∃ x r, s = x :: r := by
        cases s with
        | nil => simp at h128
        | cons x r => exact ⟨x, r, rfl⟩
      obtain rfl : x = 128 := by simpa using h128
      obtain ⟨R, o, hA, hR, hcell⟩ := HB.out.at_ (by simp)
      have c0 := hcell 0 128 rfl
      rw [Nat.add_zero] at c0
      have HA := Lib.hid hA
      clear hcell hA
      obtain rfl := HA.out
      gi_wp2
      go_end0
      exact ⟨⟨_, rfl⟩, .inl ⟨(128 :: r, 0), .inr rfl, HI.out⟩⟩
    · have H128 := Lib.hid h128
      have hne : s ≠ [] → ∃ R o x, A = some ⟨R, o, none⟩ ∧ wr.cell? ⟨R, o, none⟩ = some (.int .u8 (x : Nat)) ∧ ((x : Int) != 128) = true ∧ ((x : Int) == 128) = false ∧ (0 : Int) < (s.length : Int) ∧ ((s.length : Int) == 0) = false := by
        intro hs
        obtain ⟨x, r, rfl⟩ : ∃ x r, s = x :: r := by
          cases s with
          | nil => exact absurd rfl hs
          | cons x r => exact ⟨x, r, rfl⟩
        have hx : x ≠ 128 := fun e => h128 (by simp [e])
        obtain ⟨R, o, hA, hR, hcell⟩ := HB.out.at_ (by simp)
        have c0 := hcell 0 x rfl
        rw [Nat.add_zero] at c0
        exact ⟨R, o, x, hA, c0, by simp; omega, by simp; omega, by simp, by simp; omega⟩
      clear h128
      cases hcut : cut1 s with
      | none =>
        have HC := Lib.hid hcut
        clear hcut
        have fin : ∀ w1, Below wr.heap.size wr w1 → I (s, 0) w1 ∧ TIn B n₀ (s, 0) w1 := fun w1 hb =>
          have hf : Fr (fun k => k = B) wr w1 := (Fr.of_below hb).more (fun j hj e => by omega)
          have hBw := hbx.lt
          ⟨hI _ _ _ HI.out hf ⟨_, HT.out⟩, BoxIn.fr HT.out (Fr.of_below hb) (by omega) (fun k hk => by omega)⟩
        by_cases hs : s = []
        · subst hs
          clear hne
          gi_wp2_with fail
          refine ⟨trivial, (callsIn_wide.2 (cutPart_none HB.out HC.out)).mono ?_⟩
          rintro e w1 ⟨rfl, hb1⟩
          obtain ⟨hi1, ht1⟩ := fin w1 hb1
          obtain ⟨fn, tmps, assign, body, hy, hR⟩ := hY _ _ _ w1 hi1 ht1 ⟨rfl, H128.out, .inl ⟨HC.out, rfl, rfl⟩⟩
          clear fin
          gi_wp2
          refine hR.mono ?_
          rintro e W3 (⟨rfl, hJ3, -⟩ | ⟨rfl, hJx3⟩)
          · gi_wp2
            refine bodyPost_ret (results_none rfl _ _ _) rfl ?_
            exact ⟨⟨_, rfl⟩, .inl ⟨_, .inl rfl, hJ3⟩⟩
          · gi_wp2
            refine bodyPost_ret (results_none rfl _ _ _) rfl ?_
            exact ⟨⟨_, rfl⟩, .inr ⟨_, hJx3⟩⟩
        · obtain ⟨R, o, x, hA, c0, e1, e2, e3, e4⟩ := hne hs
          have HA := Lib.hid hA
          clear hA hne
          obtain rfl := HA.out
          gi_wp2_with fail
          refine ⟨trivial, (callsIn_wide.2 (cutPart_none HB.out HC.out)).mono ?_⟩
          rintro e w1 ⟨rfl, hb1⟩
          obtain ⟨hi1, ht1⟩ := fin w1 hb1
          obtain ⟨fn, tmps, assign, body, hy, hR⟩ := hY _ _ _ w1 hi1 ht1 ⟨rfl, H128.out, .inl ⟨HC.out, rfl, rfl⟩⟩
          clear fin
          gi_wp2
          refine hR.mono ?_
          rintro e W3 (⟨rfl, hJ3, -⟩ | ⟨rfl, hJx3⟩)
          · gi_wp2
            refine bodyPost_ret (results_none rfl _ _ _) rfl ?_
            exact ⟨⟨_, rfl⟩, .inl ⟨_, .inl rfl, hJ3⟩⟩
          · gi_wp2
            refine bodyPost_ret (results_none rfl _ _ _) rfl ?_
            exact ⟨⟨_, rfl⟩, .inr ⟨_, hJx3⟩⟩
      | some pk =>
        obtain ⟨p, k⟩ := pk
        have HC := Lib.hid hcut
        have fin : ∀ w1, Below wr.heap.size wr w1 → I (s, 0) w1 ∧ TIn B n₀ (s, 0) w1 := fun w1 hb =>
          have hf : Fr (fun k => k = B) wr w1 := (Fr.of_below hb).more (fun j hj e => by omega)
          have hBw := hbx.lt
          ⟨hI _ _ _ HI.out hf ⟨_, HT.out⟩, BoxIn.fr HT.out (Fr.of_below hb) (by omega) (fun k hk => by omega)⟩
        have hs : s ≠ [] := fun e => by rw [e] at hcut; cases hcut
        clear hcut
        obtain ⟨R, o, x, hA, c0, e1, e2, e3, e4⟩ := hne hs
        have HA := Lib.hid hA
        have hlow1 := hlow (List.length_pos_iff.2 hs)
        have HLO := Lib.hid hlow1
        clear hlow1
        clear hA hne hs hlow
        obtain rfl := HA.out
        gi_wp2_with fail
        refine ⟨trivial, (callsIn_wide.2 (cutPart_some HB.out HC.out)).mono ?_⟩
        rintro e w1 ⟨A', c', rfl, hk1, hk2, hp1, hbp, hb1⟩
        obtain ⟨hi1, ht1⟩ := fin w1 hb1
        obtain ⟨fn, tmps, assign, body, hy, hR⟩ := hY _ _ _ w1 hi1 ht1 ⟨rfl, H128.out, .inr ⟨p, k, A', c', HC.out, hp1, rfl, hbp, rfl⟩⟩
        have hk0 : ((k : Int) == 0) = false := by simp; omega
        have hbx1 : Boxed w1 B 22 (.slice (some ⟨R, o, none⟩) s.length c) := (hb1.block B hbx.lt).trans hbx
        have HBX := Lib.hid hbx1
        have HB1 := Lib.hid hb1
        clear fin hi1 ht1 hbx1 hb1
        gi_wp2
        refine hR.mono ?_
        rintro e W3 (⟨rfl, hJ3, hK3⟩ | ⟨rfl, hJx3⟩)
        · have hbx3 : Boxed W3 B 22 (.slice (some ⟨R, o, none⟩) s.length c) := (hK3.block B HBX.out.lt (fun e => e.2 rfl)).trans HBX.out
          have cB3 := hbx3.cell
          have fB3 := hbx3.frozen
          have hby3 : Bytes W3 (some ⟨R, o, none⟩) s.length c s := (HB.out.fr (Fr.of_below HB1.out) (fun _ R' o' e hR' e2 => by omega)).fr hK3 (fun _ R' o' e _ e2 => by have := HLO.out R' o' e; omega)
          have HJ := Lib.hid hJ3
          have HX3 := Lib.hid hbx3
          have HY3 := Lib.hid hby3
          have hlo := HLO.out R o rfl
          have nxt : ∀ (A2 : Option Addr) (c2 : Nat), c2 = c - k → (k < s.length → A2 = some ⟨R, o + k, none⟩) → LowA n₀ A2 →
              I (s.drop k, 0) (W3.setCell ⟨B, 0, none⟩ (.slice A2 (s.length - k) c2)) ∧ TIn B n₀ (s.drop k, 0) (W3.setCell ⟨B, 0, none⟩ (.slice A2 (s.length - k) c2)) := by
            intro A2 c2 hc2 hA2 hl2
            subst hc2
            have hf : Fr (fun j => j = B) W3 (W3.setCell ⟨B, 0, none⟩ (.slice A2 (s.length - k) (c - k))) := (Fr.refl _ W3).setB 0 _
            refine ⟨hI _ _ _ HJ.out hf ⟨(s, 0), _, _, _, HX3.out, HY3.out, fun _ => HLO.out⟩, A2, s.length - k, c - k, HX3.out.set _, (HY3.out.cut hk2 ?_).fr hf ?_, fun _ => hl2⟩
            · intro R' o' e hk
              injection e with e
              injection e with e1 e2
              subst e1 e2
              exact hA2 hk
            · intro _ R' o' e hR' e2
              have := hl2 R' o' e
              omega
          have HN := Lib.hid nxt
          clear hJ3 hK3 hbx3 hby3 nxt
          by_cases hck : c = k
          · have hsk : k = s.length := by omega
            have hln := HN.out (some ⟨R, o, none⟩) 0 (by omega) (fun h => by omega) (fun R' o' e => by injection e with e; injection e with e1 e2; omega)
            have HLN := Lib.hid hln
            have HSK := Lib.hid hsk
            clear hln hsk
            gi_wp2
            gi_roundg (s.length - k)
            case measure => have := HL.out; omega
            case rel => exact ⟨s.drop k, by rw [List.length_drop], HLN.out.1, HLN.out.2⟩
          · have hln := HN.out (some ⟨R, o + k, none⟩) (c - k) rfl (fun h => rfl) (fun R' o' e => by injection e with e; injection e with e1 e2; omega)
            have HLN := Lib.hid hln
            clear hln
            gi_wp2
            gi_roundg (s.length - k)
            case measure => have := HL.out; omega
            case rel => exact ⟨s.drop k, by rw [List.length_drop], HLN.out.1, HLN.out.2⟩
        · gi_wp2
          refine bodyPost_ret (results_none rfl _ _ _) rfl ?_
          exact ⟨⟨_, rfl⟩, .inr ⟨_, hJx3⟩⟩
end Go.Proofs.Ytbghmbcipekboaa
