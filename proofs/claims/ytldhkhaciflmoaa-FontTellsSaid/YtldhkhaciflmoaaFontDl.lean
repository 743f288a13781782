/- font's reference: Bytes, of every font and codes. -/
import Derived.Test.YtldhkhaciflmoaaFontDk
import Derived.Test.YtldhkhaciflmoaaFontDb
namespace Go.Proofs.Ytldhkhaciflmoaa
open Go.RowKit

theorem byte_conv (w : World) (b : Int) (h0 : 0 ≤ b) (h1 : b < 256) : (convert 46 9 (.slice (some ⟨w.heap.size, 0, none⟩) 1 1)).run Try.prog (w.alloc (.cells #[.int .u8 b] 5)) = .ok (.string (strB [b.toNat])) (w.alloc (.cells #[.int .u8 b] 5)) := by
  have h := (bytes_cells w [b.toNat] (by simp; omega) (by simp)).str
  simp only [bvs, List.map_cons, List.map_nil, List.length_cons, List.length_nil, Nat.zero_add] at h
  rwa [show ((b.toNat : Nat) : Int) = b by omega] at h
set_option maxRecDepth 100000 in
set_option maxHeartbeats 4000000 in
theorem rbytes_good (wd : Bool) (A : Option Addr) (n c : Nat) (ot : Int) (gs : List Gl) (A2 : Option Addr) (n2 c2 : Nat) (l : List Int) (w : World) (h : Glyphs w A n c gs) (h2 : IntsAt w A2 n2 c2 l) (hn : n ≤ 1000000) (hn2 : n2 ≤ 1000000)
    (hk : chkB wd ot gs = true) (hl : ∀ x ∈ l, codeB wd x = true) :
    Calls Try.prog 10 #[.agg #[.bool wd, .slice A n c, .int .i64 ot], .slice A2 n2 c2] w (BytesSaid (strB (bytesOf wd l)) w) := by
  have hl2 := h2.len
  subst hl2
  have hcap := h2.cap
  have htop := h2.top
  have hb0 := ((Below.refl w.heap.size w).alloc (Nat.le_refl _) (.cells #[.bool wd, .slice A n c, .int .i64 ot] 24))
  have H := Lib.hid (And.intro (h.below hb0) (And.intro (h2.below hb0) (And.intro hb0 (FB.made w wd A n c ot))))
  have H2 := Lib.hid h2
  have HL := Lib.hid hl
  have HK : Hid ((chkB wd ot gs && l.all (codeB wd)) = true) := Lib.hid (by rw [hk]; simpa using hl)
  clear h h2 hb0 hk hl
  go_enter Try.func10, Try.ntmps10
  go_wp2_with fail
  refine (rall_any wd A n c ot gs A2 l.length c2 l _ H.out.1 H.out.2.1 hn hn2).mono ?_
  rw [HK.out]
  rintro e w1 ⟨rfl, hb⟩
  have H1 := Lib.hid (And.intro (H.out.2.2.2.here hb) (H.out.2.2.1.trans (hb.mono H.out.2.2.1.size)))
  clear hb
  go_wp2_with fail
  go_loopw [6, 7] (fun s6 s7 wx => ∃ k : Nat, k ≤ l.length ∧ s7 = .int .i64 k ∧ s6 = .string (strB (bytesOf wd (l.take k))) ∧ Hid (FB wx w.heap.size wd A n c ot ∧ Below w.heap.size w wx)) (fun _ s7 _ => l.length - (intOf s7).toNat)
  case atStart => exact ⟨0, by omega, rfl, by simp [bytesOf, strB], H1⟩
  case round =>
    obtain ⟨k, hk, rfl, rfl, hS⟩ := hrel
    obtain ⟨f0, f1, f2⟩ := hS.out.1.cells
    have lF := Whole.lt hS.out.1
    have hsz := strB_size (bytesOf wd (l.take k))
    rw [bytesOf_length, List.length_take] at hsz
    have hsz2 : (strB (bytesOf wd (l.take k))).size ≤ 2000000 := by
      have : min k l.length ≤ 1000000 := by omega
      rcases sz_two wd with e | e <;> rw [e] at hsz <;> omega
    clear hsz
    by_cases hlt : k < l.length
    · obtain ⟨x, hx⟩ : ∃ x, l[k]? = some x := ⟨_, List.getElem?_eq_getElem hlt⟩
      obtain ⟨R, o, rfl, hR, hc0⟩ := (H2.out.below hS.out.2).at_ (by omega)
      have g0 := hc0 k x hx
      clear hc0
      obtain ⟨x0, x1, x2⟩ := codeB_in (HL.out x (List.mem_of_getElem? hx))
      have HX := Lib.hid (bytesOf_take (wd := wd) hx)
      have d1 : decide ((k : Int) < (l.length : Int)) = true := by simp; omega
      have d2 : decide (k < l.length) = true := by simp; omega
      clear hx
      generalize bytesOf wd (l.take k) = acc at *
      cases wd
      · have x3 := x2 rfl
        clear x2
        have cv := byte_conv wr (x % 256) (by omega) (by omega)
        have z1 := strB_size [(x % 256).toNat]
        have z2 : (strB [(x % 256).toNat]).size ≤ 1 := by rw [z1]; simp
        clear z1
        go_wp2_with fail
        go_roundw
        case rel => exact ⟨k + 1, by omega, by go_num, by rw [HX.out, strB_append]; rfl, Lib.hid ⟨Whole.old hS.out.1 _, hS.out.2.alloc hS.out.2.size _⟩⟩
        case measure => simp [intOf]; omega
      · clear x2
        have cv := byte_conv wr (x / 256) (by omega) (by omega)
        have cv2 := byte_conv (wr.alloc (.cells #[.int .u8 (x / 256)] 5)) (x % 256) (by omega) (by omega)
        simp only [World.size_alloc] at cv2
        have z1 := strB_size [(x % 256).toNat]
        have z2 : (strB [(x % 256).toNat]).size ≤ 1 := by rw [z1]; simp
        have z3 := strB_size [(x / 256).toNat]
        have z4 : (strB [(x / 256).toNat]).size ≤ 1 := by rw [z3]; simp
        have z5 : (strB acc ++ strB [(x / 256).toNat]).size ≤ 2000001 := by rw [strB_append, strB_size, List.length_append]; rw [strB_size] at hsz2; simp; omega
        clear z1 z3
        go_wp2_with fail
        go_roundw
        case rel => exact ⟨k + 1, by omega, by go_num, by rw [HX.out, strB_append, strB_append, List.append_assoc]; rfl, Lib.hid ⟨Whole.old (Whole.old hS.out.1 _) _, (hS.out.2.alloc hS.out.2.size _).alloc (by have := hS.out.2.size; simp; omega) _⟩⟩
        case measure => simp [intOf]; omega
    · obtain rfl : k = l.length := by omega
      have d1 : decide ((l.length : Int) < (l.length : Int)) = false := by simp
      have d2 : decide (l.length < l.length) = false := by simp
      rw [List.take_length]
      go_wp2_with fail
      refine bodyPost_ret (v := .tuple #[.string (strB (bytesOf wd l)), .int .i64 0]) (by simp [results, Try.results10, go_sem]) rfl ⟨rfl, hS.out.2⟩
theorem rbytes_any (wd : Bool) (A : Option Addr) (n c : Nat) (ot : Int) (gs : List Gl) (A2 : Option Addr) (n2 c2 : Nat) (l : List Int) (w : World) (h : Glyphs w A n c gs) (h2 : IntsAt w A2 n2 c2 l) (hn : n ≤ 1000000) (hn2 : n2 ≤ 1000000) :
    Calls Try.prog 10 #[.agg #[.bool wd, .slice A n c, .int .i64 ot], .slice A2 n2 c2] w fun e w' => e = .returned (.tuple #[.string (bytesS wd ot gs l), .int .i64 (chkC wd ot gs l)]) ∧ Below w.heap.size w w' := by
  by_cases h0 : chkC wd ot gs l = 0
  · obtain ⟨h1, h3⟩ := chkC_zero.1 h0
    refine (rbytes_good wd A n c ot gs A2 n2 c2 l w h h2 hn hn2 h1 h3).mono fun e w' ⟨he, hb⟩ => ⟨?_, hb⟩
    rw [he, h0]
    unfold bytesS
    rw [if_pos h0]
  · have hk : ¬ (chkB wd ot gs = true ∧ ∀ x ∈ l, codeB wd x = true) := fun e => h0 (chkC_zero.2 e)
    refine (rbytes_bad wd A n c ot gs A2 n2 c2 l w h h2 hn hn2 ?_).mono fun e w' ⟨he, hb⟩ => ⟨?_, hb⟩
    · first | exact hk | (cases hb : (chkB wd ot gs && l.all (codeB wd)) with
        | false => rfl
        | true => exact absurd (by simpa using hb) hk)
    · rw [he, chkC_f hk]
      unfold bytesS
      rw [if_neg h0]
end Go.Proofs.Ytldhkhaciflmoaa
