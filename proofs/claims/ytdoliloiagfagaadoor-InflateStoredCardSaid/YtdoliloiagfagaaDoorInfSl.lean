/- InflateStored, walked. -/
import Derived.Test.YtdoliloiagfagaaDoorInfY
import Derived.Test.YtdoliloiagfagaaDoorInfSt
import Derived.Test.YtdoliloiagfagaaDoorLaidRN
import Derived.Laws.AppendOwnNone
import Derived.Maps.AppendAt
namespace Go.Proofs.YtdoliloiagfagaaDoor
open Go.RowKit

/-- Two rows that do not share a block. -/
def Apt (u v : Value) : Prop := ∀ g, u.ownBlock = some g → v.ownBlock ≠ some g
theorem Apt.symm {u v : Value} (h : Apt u v) : Apt v u := fun g hv hu => h g hu hv
theorem Apt.next {w : World} {base size n : Nat} {e : TypeId} {xs : List Value} {u u' v : Value} (h : Apt u v) {k : Nat} (hu : u'.ownBlock = u.ownBlock ∨ u'.ownBlock = some k) (hk : w.heap.size ≤ k) (hv : w.ownsRow base e size v n xs) : Apt u' v := by
  intro g hg hvg
  rcases hu with e | e
  · exact h g (e.symm.trans hg) hvg
  · rw [e] at hg
    injection hg with hg
    have := (hv.lt _ hvg).2
    omega
theorem Apt.keep {w w' : World} {base size n : Nat} {e : TypeId} {xs : List Value} {u v : Value} (h : Apt u v) (hv : w.ownsRow base e size v n xs) (hg : w.grownBy w' u.ownBlock) : w'.ownsRow base e size v n xs := by
  refine hv.kept hg ?_
  cases hq : v.ownBlock with
  | none => exact .inl rfl
  | some g => exact .inr (fun e => h g e.symm hq)
set_option maxRecDepth 100000 in
/-- Bytes appended to a row of one's own. -/
theorem app_bytes2 {w : World} {ops : Array Oper} {rest : List Oper} {o : Oper} {a : Act} {Q : Exit → Act → World → Prop} (hgd : o.guard = none) (s x : Operand)
    (ho : o.op = .call { callee := .builtin .append, args := #[s, x], argTypes := #[23, 23] }) (base : Nat)
    (v : Value) (n : Nat) (xs : List Value) (hs : a.eval s = v) (hown : w.ownsRow base 5 1 v n xs) (A : Option Addr) (m c : Nat) (bs : List Nat) (hx : a.eval x = .slice A m c) (hb : Bytes w A m c bs) (hnil : A = none → c = 0)
    (h63 : n + m ≤ 1000000) (hbase : base ≤ w.heap.size)
    (h : ∀ v' w', w'.ownsRow base 5 1 v' (n + m) (xs ++ bvs bs) → w.grownBy w' v.ownBlock → (v'.ownBlock = v.ownBlock ∨ v'.ownBlock = some w.heap.size) → wpList Tryd.prog ops Q rest (a.put o.dst v') w') : wpList Tryd.prog ops Q (o :: rest) a w := by
  obtain ⟨i0, hi, hz0, hz1, hz2⟩ := info_u8
  cases A with
  | none =>
    obtain rfl := hnil rfl
    obtain rfl : m = 0 := by have := hb.cap; omega
    obtain rfl : bs = [] := List.eq_nil_of_length_eq_zero hb.len
    refine wpList_append_own_none hgd s x 23 ho base 5 i0 1 Tryd.underlying23 hi v n xs hs hown hx (h v w ?_ ⟨rfl, rfl, rfl, Nat.le_refl _, fun _ _ _ => rfl⟩ (.inl rfl))
    simpa [bvs] using hown
  | some ad =>
    refine wpList_append_own_at w hgd s x 23 ho base 5 i0 (.int .u8 0) 1 1 Tryd.underlying23 hi hz0 hz1 hz2 rfl (by decide) v n xs hs hown ad m c (bvs bs) hx (by rw [bvs_length, hb.len]; omega) ?_ (bvs_one bs) (by unfold maxLen; omega) (by omega) hbase (fun v' w' h1 h2 _ h4 => h v' w' h1 h2 h4)
    intro j u hj
    by_cases hm : m = 0
    · have : bs = [] := List.eq_nil_of_length_eq_zero (by rw [hb.len, hm])
      rw [this] at hj
      simp [bvs] at hj
    · obtain ⟨R, o', e, hR, hc⟩ := hb.at_ (by omega)
      injection e with e
      subst e
      obtain ⟨b, hbj, rfl⟩ := bvs_at hj
      rw [gaddr_add (a := ⟨R, o', none⟩) rfl]
      exact hc j b hbj
theorem str_same4 (s : ByteArray) : (s.toList == s.toList) = true := by simp
theorem drop_step {l : List (List Nat)} {i : Nat} {r : List Nat} (h : l[i]? = some r) : l.drop i = r :: l.drop (i + 1) := by
  have hi := (List.getElem?_eq_some_iff.1 h).1
  have he := (List.getElem?_eq_some_iff.1 h).2
  rw [List.drop_eq_getElem_cons hi, he]
theorem next_enc {l : List (List Nat)} {i : Nat} {r b : List Nat} {fl : Nat} (hr : l[i]? = some r) (h : b ++ encS (l.drop i) = encS l) (hf : fl = if i + 1 = l.length then 1 else 0) : (b ++ blkS fl r) ++ encS (l.drop (i + 1)) = encS l := by
  have hi := (List.getElem?_eq_some_iff.1 hr).1
  rw [drop_step hr, encS] at h
  rw [← h, List.append_assoc, hf]
  by_cases e : i + 1 = l.length
  · rw [if_pos e, if_pos (List.drop_of_length_le (by omega))]
  · rw [if_neg e, if_neg (fun h => by have := List.drop_eq_nil_iff.1 h; omega)]
theorem next_flat {l : List (List Nat)} {i : Nat} {r x : List Nat} (hr : l[i]? = some r) (h : x ++ (l.drop i).flatten = l.flatten) : (x ++ r) ++ (l.drop (i + 1)).flatten = l.flatten := by
  rw [drop_step hr, List.flatten_cons] at h
  rw [← h, List.append_assoc]
theorem next_all {l : List (List Nat)} {i : Nat} {r : List Nat} {P : List Nat → Prop} (hr : l[i]? = some r) (h : ∀ q ∈ l.take i, P q) (hp : P r) : ∀ q ∈ l.take (i + 1), P q := by
  intro q hq
  rw [List.take_add_one, hr] at hq
  rcases List.mem_append.1 hq with hq | hq
  · exact h q hq
  · simp at hq
    rw [hq]
    exact hp
theorem five_bvs (fl m : Nat) (hm : m ≤ 300) : bvs [fl, m % 256, m / 256, 255 - m % 256, 255 - m / 256] = [.int .u8 (fl : Int), .int .u8 ((m : Int) % 256), .int .u8 ((m : Int) / 256), .int .u8 (255 - (m : Int) % 256), .int .u8 (255 - (m : Int) / 256)] := by
  unfold bvs
  simp
  omega
theorem blk_bvs (fl : Nat) (b r : List Nat) : bvs (b ++ blkS fl r) = (bvs b ++ bvs [fl, r.length % 256, r.length / 256, 255 - r.length % 256, 255 - r.length / 256]) ++ bvs r := by
  rw [← bvs_append, ← bvs_append, List.append_assoc]
  rfl
theorem blk_byte {fl : Nat} {r : List Nat} (hf : fl < 2) (hr : ∀ y ∈ r, y < 256) (hl : r.length ≤ 300) : ∀ y ∈ blkS fl r, y < 256 := by
  intro y hy
  unfold blkS at hy
  simp only [List.mem_cons] at hy
  rcases hy with rfl | rfl | rfl | rfl | rfl | hy
  · omega
  · omega
  · omega
  · omega
  · omega
  · exact hr y hy
set_option maxRecDepth 100000 in
set_option maxHeartbeats 4000000 in
theorem stored_law (A : Option Addr) (n c : Nat) (l : List (List Nat)) (w : World) (h : RowsN w A n c l) (hE : Env w) :
    Calls Tryd.prog 5 #[.slice A n c] w (True_ w) := by
  obtain ⟨i0, hi0, hz0, hz1, hz2⟩ := info_u8
  have HI0 := Lib.hid (And.intro hi0 (And.intro hz0 (And.intro hz1 hz2)))
  clear hi0 hz0 hz1 hz2
  have hl := h.len
  have hcap := h.cap
  have htop := h.top
  have H0 := Lib.hid h
  have HE := Lib.hid hE
  clear h hE
  go_enter Tryd.func5, Tryd.ntmps5
  by_cases g1 : 20 < n
  · have d1 : decide ((n : Int) > 20) = true := decide_eq_true (by omega)
    go_wp2_with fail
    go_ret
    exact ⟨rfl, Below.refl _ _⟩
  have d1 : decide ((n : Int) > 20) = false := decide_eq_false (by omega)
  go_wp2_with fail
  clear d1
  go_loopw [3, 4, 5] (fun s3 s4 s5 wr => ∃ (i : Nat) (b x : List Nat), s5 = .int .i64 (i : Int) ∧ i ≤ n ∧ b.length ≤ 305 * i ∧ x.length ≤ 300 * i ∧ Hid (b ++ encS (l.drop i) = encS l ∧ x ++ (l.drop i).flatten = l.flatten ∧ (∀ r ∈ l.take i, (∀ b ∈ r, b < 256) ∧ r.length ≤ 300) ∧ (∀ y ∈ b, y < 256) ∧ ∀ y ∈ x, y < 256) ∧ Hid (wr.ownsRow w.heap.size 5 1 s3 b.length (bvs b) ∧ wr.ownsRow w.heap.size 5 1 s4 x.length (bvs x) ∧ Apt s3 s4 ∧ Below w.heap.size w wr)) (fun _ _ s5 _ => n - (intOf s5).toNat)
  case atStart => exact ⟨0, [], [], rfl, by omega, by simp, by simp, Lib.hid ⟨rfl, rfl, by simp, by simp, by simp⟩, Lib.hid ⟨World.ownsRow_nil _ _ _ _, World.ownsRow_nil _ _ _ _, fun g h => by (cases h), Below.refl _ _⟩⟩
  case round =>
    obtain ⟨i, b, x, rfl, hi, hbl, hxl, HP, HR⟩ := hrel
    rename World => wo
    obtain ⟨a0, cc, rfl⟩ := own_slM HR.out.1
    obtain ⟨a1, cc1, rfl⟩ := own_slM HR.out.2.1
    have hszo := HR.out.2.2.2.size
    by_cases hlt : i < n
    · have d1 : decide ((i : Int) < (n : Int)) = true := decide_eq_true (by omega)
      obtain ⟨r, hr⟩ : ∃ r, l[i]? = some r := ⟨_, List.getElem?_eq_getElem (by omega)⟩
      obtain ⟨R, o, rfl, hR, hk⟩ := H0.out.at_ (by omega)
      obtain ⟨A1, m, c1, k0w, hby, hnil⟩ := hk i r hr
      have hrl := hby.len
      have HK := Lib.hid (And.intro k0w (And.intro hby hnil))
      have k0 := (HR.out.2.2.2.cell (p := ⟨R, o + i, none⟩) hR).trans k0w
      have HG := Lib.hid hr
      have b1 : (0 : Int) ≤ (i : Int) := by omega
      have b2 : (i : Int) < (n : Int) := by omega
      have ewn : IntKind.i64.wrap ((n : Int) - 1) = (n : Int) - 1 := by rw [IntKind.wrap_i64]; omega
      clear hr hk hby hnil k0w
      by_cases hbig : 300 < m
      · have d2 : decide ((m : Int) > 300) = true := decide_eq_true (by omega)
        go_wp2_with fail
        go_ret
        exact ⟨rfl, HR.out.2.2.2⟩
      · have d2 : decide ((m : Int) > 300) = false := decide_eq_false (by omega)
        by_cases hlast : i + 1 = n
        · have d3 : ((i : Int) == (n : Int) - 1) = true := by simp; omega
          have HFV := Lib.hid (five_bvs 1 m (by omega))
          go_wp2_with (at_builtin; refine wpList_append_own_at _ rfl _ _ 23 rfl w.heap.size 5 i0 (.int .u8 0) 1 1 Tryd.underlying23 HI0.out.1 HI0.out.2.1 HI0.out.2.2.1 HI0.out.2.2.2 rfl (by decide) _ _ _ rfl (HR.out.1.alloc _) ⟨wo.heap.size, 0, none⟩ 5 5 [.int .u8 1, .int .u8 ((m : Int) % 256), .int .u8 ((m : Int) / 256), .int .u8 (255 - (m : Int) % 256), .int .u8 (255 - (m : Int) / 256)] rfl rfl (World.news_of_block (cs := #[.int .u8 1, .int .u8 ((m : Int) % 256), .int .u8 ((m : Int) / 256), .int .u8 (255 - (m : Int) % 256), .int .u8 (255 - (m : Int) / 256)]) (t := 5) (fr := (0, 0)) (heap_alloc_new _ _)) ?p1 ?p2 ?p3 ?p4 ?_)
          case p1 => simp [Value.oneCell']
          case p2 => unfold maxLen; omega
          case p3 => first | omega | (simp; omega)
          case p4 => first | omega | (simp; omega)
          intro v2 w2 hown2 hgrow2 _ hat2
          have hsz2 := hgrow2.size
          simp only [World.size_alloc] at hsz2
          have hx2 := HR.out.2.2.1.keep (HR.out.2.1.alloc _) hgrow2
          have hap2 := HR.out.2.2.1.next hat2 (by omega) HR.out.2.1
          have hb2 := (HR.out.2.2.2.alloc (by omega) (.cells #[.int .u8 1, .int .u8 ((m : Int) % 256), .int .u8 ((m : Int) / 256), .int .u8 (255 - (m : Int) % 256), .int .u8 (255 - (m : Int) / 256)] 5)).grown hgrow2 (by simp; omega) (fun j e => (own_lt HR.out.1 e).1)
          have HQ2 := Lib.hid (And.intro hown2 (And.intro hx2 (And.intro hap2 hb2)))
          have k2 := (hb2.cell (p := ⟨R, o + i, none⟩) hR).trans HK.out.1
          clear hown2 hgrow2 hat2 hx2 hap2 hb2 k0
          go_wp2_with (at_builtin; refine app_bytes2 rfl _ _ rfl w.heap.size v2 (b.length + 5) _ rfl HQ2.out.1 A1 m c1 r rfl (HK.out.2.1.below HQ2.out.2.2.2) HK.out.2.2 (by omega) (by omega) ?_)
          intro v3 w3 hown3 hgrow3 hat3
          have hsz3 := hgrow3.size
          have hx3 := HQ2.out.2.2.1.keep HQ2.out.2.1 hgrow3
          have hap3 := HQ2.out.2.2.1.next hat3 (Nat.le_refl _) HQ2.out.2.1
          have hb3 := HQ2.out.2.2.2.grown hgrow3 (by omega) (fun j e => (own_lt HQ2.out.1 e).1)
          have HQ3 := Lib.hid (And.intro hown3 (And.intro hx3 (And.intro hap3 hb3)))
          have k3 := (hb3.cell (p := ⟨R, o + i, none⟩) hR).trans HK.out.1
          clear hown3 hgrow3 hat3 hx3 hap3 hb3 k2
          go_wp2_with (at_builtin; refine app_bytes2 rfl _ _ rfl w.heap.size _ x.length (bvs x) rfl HQ3.out.2.1 A1 m c1 r rfl (HK.out.2.1.below HQ3.out.2.2.2) HK.out.2.2 (by omega) (by omega) ?_)
          intro v4 w4 hown4 hgrow4 hat4
          have hb4 := HQ3.out.2.2.2.grown hgrow4 (by omega) (fun j e => (own_lt HQ3.out.2.1 e).1)
          have hy4 := HQ3.out.2.2.1.symm.keep HQ3.out.1 hgrow4
          have hap4 := (HQ3.out.2.2.1.symm.next hat4 (Nat.le_refl _) HQ3.out.1).symm
          have HX1 := Lib.hid (show w4.ownsRow w.heap.size 5 1 v3 (b ++ blkS 1 r).length (bvs (b ++ blkS 1 r)) by
            have e1 : (b ++ blkS 1 r).length = b.length + 5 + m := by rw [List.length_append, ← hrl]; unfold blkS; simp; omega
            rw [blk_bvs, hrl, HFV.out, e1, List.append_assoc]
            exact hy4)
          have HX2 := Lib.hid (show w4.ownsRow w.heap.size 5 1 v4 (x ++ r).length (bvs (x ++ r)) by
            rw [bvs_append, List.length_append, hrl]
            exact hown4)
          have HX3 := Lib.hid (And.intro hap4 hb4)
          clear hown4 hgrow4 hat4 hb4 hy4 hap4 k3
          go_wp2_with fail
          go_roundw
          case rel =>
            refine ⟨i + 1, b ++ blkS 1 r, x ++ r, by go_num, by omega, ?_, ?_, Lib.hid ⟨next_enc HG.out HP.out.1 (by rw [if_pos (by omega)]), next_flat HG.out HP.out.2.1, next_all HG.out HP.out.2.2.1 ⟨HK.out.2.1.byte, by omega⟩, ?_, ?_⟩, Lib.hid ⟨HX1.out, HX2.out, HX3.out.1, HX3.out.2⟩⟩
            · rw [List.length_append]; unfold blkS; simp; omega
            · rw [List.length_append]; omega
            · intro y hy
              rcases List.mem_append.1 hy with hy | hy
              · exact HP.out.2.2.2.1 y hy
              · exact blk_byte (by omega) HK.out.2.1.byte (by omega) y hy
            · intro y hy
              rcases List.mem_append.1 hy with hy | hy
              · exact HP.out.2.2.2.2 y hy
              · exact HK.out.2.1.byte y hy
          case measure => simp [intOf]; omega
        · have d3 : ((i : Int) == (n : Int) - 1) = false := by simp; omega
          have HFV := Lib.hid (five_bvs 0 m (by omega))
          go_wp2_with (at_builtin; refine wpList_append_own_at _ rfl _ _ 23 rfl w.heap.size 5 i0 (.int .u8 0) 1 1 Tryd.underlying23 HI0.out.1 HI0.out.2.1 HI0.out.2.2.1 HI0.out.2.2.2 rfl (by decide) _ _ _ rfl (HR.out.1.alloc _) ⟨wo.heap.size, 0, none⟩ 5 5 [.int .u8 0, .int .u8 ((m : Int) % 256), .int .u8 ((m : Int) / 256), .int .u8 (255 - (m : Int) % 256), .int .u8 (255 - (m : Int) / 256)] rfl rfl (World.news_of_block (cs := #[.int .u8 0, .int .u8 ((m : Int) % 256), .int .u8 ((m : Int) / 256), .int .u8 (255 - (m : Int) % 256), .int .u8 (255 - (m : Int) / 256)]) (t := 5) (fr := (0, 0)) (heap_alloc_new _ _)) ?p1 ?p2 ?p3 ?p4 ?_)
          case p1 => simp [Value.oneCell']
          case p2 => unfold maxLen; omega
          case p3 => first | omega | (simp; omega)
          case p4 => first | omega | (simp; omega)
          intro v2 w2 hown2 hgrow2 _ hat2
          have hsz2 := hgrow2.size
          simp only [World.size_alloc] at hsz2
          have hx2 := HR.out.2.2.1.keep (HR.out.2.1.alloc _) hgrow2
          have hap2 := HR.out.2.2.1.next hat2 (by omega) HR.out.2.1
          have hb2 := (HR.out.2.2.2.alloc (by omega) (.cells #[.int .u8 0, .int .u8 ((m : Int) % 256), .int .u8 ((m : Int) / 256), .int .u8 (255 - (m : Int) % 256), .int .u8 (255 - (m : Int) / 256)] 5)).grown hgrow2 (by simp; omega) (fun j e => (own_lt HR.out.1 e).1)
          have HQ2 := Lib.hid (And.intro hown2 (And.intro hx2 (And.intro hap2 hb2)))
          have k2 := (hb2.cell (p := ⟨R, o + i, none⟩) hR).trans HK.out.1
          clear hown2 hgrow2 hat2 hx2 hap2 hb2 k0
          go_wp2_with (at_builtin; refine app_bytes2 rfl _ _ rfl w.heap.size v2 (b.length + 5) _ rfl HQ2.out.1 A1 m c1 r rfl (HK.out.2.1.below HQ2.out.2.2.2) HK.out.2.2 (by omega) (by omega) ?_)
          intro v3 w3 hown3 hgrow3 hat3
          have hsz3 := hgrow3.size
          have hx3 := HQ2.out.2.2.1.keep HQ2.out.2.1 hgrow3
          have hap3 := HQ2.out.2.2.1.next hat3 (Nat.le_refl _) HQ2.out.2.1
          have hb3 := HQ2.out.2.2.2.grown hgrow3 (by omega) (fun j e => (own_lt HQ2.out.1 e).1)
          have HQ3 := Lib.hid (And.intro hown3 (And.intro hx3 (And.intro hap3 hb3)))
          have k3 := (hb3.cell (p := ⟨R, o + i, none⟩) hR).trans HK.out.1
          clear hown3 hgrow3 hat3 hx3 hap3 hb3 k2
          go_wp2_with (at_builtin; refine app_bytes2 rfl _ _ rfl w.heap.size _ x.length (bvs x) rfl HQ3.out.2.1 A1 m c1 r rfl (HK.out.2.1.below HQ3.out.2.2.2) HK.out.2.2 (by omega) (by omega) ?_)
          intro v4 w4 hown4 hgrow4 hat4
          have hb4 := HQ3.out.2.2.2.grown hgrow4 (by omega) (fun j e => (own_lt HQ3.out.2.1 e).1)
          have hy4 := HQ3.out.2.2.1.symm.keep HQ3.out.1 hgrow4
          have hap4 := (HQ3.out.2.2.1.symm.next hat4 (Nat.le_refl _) HQ3.out.1).symm
          have HX1 := Lib.hid (show w4.ownsRow w.heap.size 5 1 v3 (b ++ blkS 0 r).length (bvs (b ++ blkS 0 r)) by
            have e1 : (b ++ blkS 0 r).length = b.length + 5 + m := by rw [List.length_append, ← hrl]; unfold blkS; simp; omega
            rw [blk_bvs, hrl, HFV.out, e1, List.append_assoc]
            exact hy4)
          have HX2 := Lib.hid (show w4.ownsRow w.heap.size 5 1 v4 (x ++ r).length (bvs (x ++ r)) by
            rw [bvs_append, List.length_append, hrl]
            exact hown4)
          have HX3 := Lib.hid (And.intro hap4 hb4)
          clear hown4 hgrow4 hat4 hb4 hy4 hap4 k3
          go_wp2_with fail
          go_roundw
          case rel =>
            refine ⟨i + 1, b ++ blkS 0 r, x ++ r, by go_num, by omega, ?_, ?_, Lib.hid ⟨next_enc HG.out HP.out.1 (by rw [if_neg (by omega)]), next_flat HG.out HP.out.2.1, next_all HG.out HP.out.2.2.1 ⟨HK.out.2.1.byte, by omega⟩, ?_, ?_⟩, Lib.hid ⟨HX1.out, HX2.out, HX3.out.1, HX3.out.2⟩⟩
            · rw [List.length_append]; unfold blkS; simp; omega
            · rw [List.length_append]; omega
            · intro y hy
              rcases List.mem_append.1 hy with hy | hy
              · exact HP.out.2.2.2.1 y hy
              · exact blk_byte (by omega) HK.out.2.1.byte (by omega) y hy
            · intro y hy
              rcases List.mem_append.1 hy with hy | hy
              · exact HP.out.2.2.2.2 y hy
              · exact HK.out.2.1.byte y hy
          case measure => simp [intOf]; omega
    · obtain rfl : i = n := by omega
      have d1 : decide ((i : Int) < (i : Int)) = false := by simp
      obtain ⟨A3, c3, R3, e3, -, -, h8⟩ := Row8.of_own HR.out.1 HP.out.2.2.2.1
      obtain ⟨A4, c4, R4, e4, -, -, k8⟩ := Row8.of_own HR.out.2.1 HP.out.2.2.2.2
      injection e3 with e3a e3b e3c
      injection e4 with e4a e4b e4c
      subst e3a e3c e4a e4c
      have HB := Lib.hid (And.intro h8.bytes (And.intro k8.bytes HR.out.2.2.2))
      have HIN := Lib.hid (inflate_any a0 b.length cc b 6000 wo h8.bytes (by omega) (HE.out.here HR.out.2.2.2))
      clear h8 k8
      by_cases h0 : i = 0
      · have hle : l = [] := List.eq_nil_of_length_eq_zero (by omega)
        have HN := Lib.hid (show b = [] by have := HP.out.1; rw [hle] at this; simpa [encS] using this)
        have d4 : ((i : Int) == 0) = true := by simp [h0]
        have d5 : decide ((i : Int) = 0) = true := by simp [h0]
        clear hle
        go_wp2_with fail
        refine HIN.out.mono ?_
        rintro e w5 (⟨y, used, A5, c5, hp, rfl, hby, -, -, hb⟩ | ⟨E, hp, hE, rfl, hb⟩)
        · rw [HN.out, stored_none 6000 (by decide) (by decide)] at hp; cases hp
        rw [HN.out, stored_none 6000 (by decide) (by decide)] at hp
        injection hp with hp
        subst hp
        have H5 := Lib.hid (HB.out.2.2.trans (hb.mono HB.out.2.2.size))
        clear hb
        go_wp2_with fail
        refine (awake06 _ (HE.out.here H5.out)).mono ?_
        rintro e w6 ⟨rfl, hb⟩
        have HB6 := Lib.hid (H5.out.trans (hb.mono H5.out.size))
        clear hb
        go_wp2_with fail
        go_ret
        exact ⟨rfl, HB6.out⟩
      · have hdr : l.drop i = [] := List.drop_of_length_le (by omega)
        have htk : l.take i = l := List.take_of_length_le (by omega)
        have hbe : b = encS l := by have := HP.out.1; rw [hdr] at this; simpa [encS] using this
        have hxe : x = l.flatten := by have := HP.out.2.1; rw [hdr] at this; simpa using this
        have hok := stored_rows (most := 6000) l (fun e => h0 (by rw [e] at hl; simpa using hl.symm)) (by omega) (fun r hr => by
          have := HP.out.2.2.1 r (by rw [htk]; exact hr)
          exact ⟨this.1, by omega⟩) (by rw [← hxe]; omega) (by decide)
        rw [← hbe, ← hxe] at hok
        have HOK := Lib.hid hok
        have d4 : ((i : Int) == 0) = false := by simp [h0]
        have d5 : decide ((i : Int) = 0) = false := by simp [h0]
        clear hok hbe hxe hdr htk
        go_wp2_with fail
        refine HIN.out.mono ?_
        rintro e w5 (⟨y, used, A5, c5, hp, rfl, hby, -, -, hb⟩ | ⟨E, hp, hE, rfl, hb⟩)
        rotate_left
        · rw [HOK.out] at hp; cases hp
        rw [HOK.out] at hp
        injection hp with hp
        injection hp with hp1 hp2
        subst hp1 hp2
        have H5 := Lib.hid (And.intro hby (And.intro (HB.out.2.1.below hb) (HB.out.2.2.trans (hb.mono HB.out.2.2.size))))
        clear hb hby
        go_wp2_with fail
        refine (awake06 _ (HE.out.here H5.out.2.2)).mono ?_
        rintro e w6 ⟨rfl, hb⟩
        have HB6 := Lib.hid (H5.out.2.2.trans (hb.mono H5.out.2.2.size))
        have hs1 := (H5.out.1.below hb).str
        have hs2 := (H5.out.2.1.below hb).str
        have e1 := str_same4 (strB x)
        have e2 : ((b.length : Int) == (b.length : Int)) = true := by simp
        clear hb
        go_wp2_with fail
        go_ret
        exact ⟨rfl, HB6.out⟩
end Go.Proofs.YtdoliloiagfagaaDoor
