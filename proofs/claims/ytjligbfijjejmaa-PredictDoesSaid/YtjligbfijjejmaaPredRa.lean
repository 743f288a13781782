/- What a tag foretells, as the document says; a byte of a row: the reference's own. -/
import Derived.Test.YtjligbfijjejmaaPredD
import Derived.Test.YtjligbfijjejmaaByteStr
import Derived.Test.YtjligbfijjejmaaLaidGen
namespace Go.Proofs.Ytjligbfijjejmaa
open Go.RowKit

theorem near3 (a b c : Nat) :
    (decide (farM ((a : Int) + b - c) a ≤ farM ((a : Int) + b - c) b) = true ∧ decide (farM ((a : Int) + b - c) a ≤ farM ((a : Int) + b - c) c) = true ∧ nearM a b c = a) ∨
    (decide (farM ((a : Int) + b - c) a ≤ farM ((a : Int) + b - c) b) = true ∧ decide (farM ((a : Int) + b - c) a ≤ farM ((a : Int) + b - c) c) = false ∧ decide (farM ((a : Int) + b - c) b ≤ farM ((a : Int) + b - c) c) = true ∧ nearM a b c = b) ∨
    (decide (farM ((a : Int) + b - c) a ≤ farM ((a : Int) + b - c) b) = true ∧ decide (farM ((a : Int) + b - c) a ≤ farM ((a : Int) + b - c) c) = false ∧ decide (farM ((a : Int) + b - c) b ≤ farM ((a : Int) + b - c) c) = false ∧ nearM a b c = c) ∨
    (decide (farM ((a : Int) + b - c) a ≤ farM ((a : Int) + b - c) b) = false ∧ decide (farM ((a : Int) + b - c) b ≤ farM ((a : Int) + b - c) c) = true ∧ nearM a b c = b) ∨
    (decide (farM ((a : Int) + b - c) a ≤ farM ((a : Int) + b - c) b) = false ∧ decide (farM ((a : Int) + b - c) b ≤ farM ((a : Int) + b - c) c) = false ∧ nearM a b c = c) := by
  unfold nearM
  generalize farM ((a : Int) + b - c) a = A
  generalize farM ((a : Int) + b - c) b = B
  generalize farM ((a : Int) + b - c) c = C
  by_cases h1 : A ≤ B <;> by_cases h2 : A ≤ C <;> by_cases h3 : B ≤ C <;> simp [h1, h2, h3]
theorem tells_any (tag a b c : Nat) (w : World) (ht : tag ≤ 4) (ha : a < 256) (hb : b < 256) (hc : c < 256) :
    Calls Try.prog 20 #[.int .i64 tag, .int .i64 a, .int .i64 b, .int .i64 c] w fun e w' => e = .returned (.int .i64 (foreM tag a b c : Nat)) ∧ w = w' := by
  rcases (by omega : tag = 0 ∨ tag = 1 ∨ tag = 2 ∨ tag = 3 ∨ tag = 4) with rfl | rfl | rfl | rfl | rfl
  · go_enter Try.func20, Try.ntmps20
    go_wp2
    go_ret
    exact ⟨rfl, rfl⟩
  · go_enter Try.func20, Try.ntmps20
    go_wp2
    go_ret
    exact ⟨rfl, rfl⟩
  · go_enter Try.func20, Try.ntmps20
    go_wp2
    go_ret
    exact ⟨rfl, rfl⟩
  · have hF : ((foreM 3 a b c : Nat) : Int) = ((a : Int) + b) / 2 := by show (((a + b) / 2 : Nat) : Int) = _; omega
    have HF := Lib.hid hF
    clear hF
    go_enter Try.func20, Try.ntmps20
    go_wp2
    go_ret
    exact ⟨by rw [HF.out]; rfl, rfl⟩
  · have k := near3 a b c
    rcases k with ⟨h1, h2, h3⟩ | ⟨h1, h2, h4, h3⟩ | ⟨h1, h2, h4, h3⟩ | ⟨h1, h2, h3⟩ | ⟨h1, h2, h3⟩
    all_goals
      have H3 := Lib.hid (show foreM 4 a b c = _ from h3)
      clear h3
      go_enter Try.func20, Try.ntmps20
      go_wp2_with (go_at_call 29; refine (far_any _ _ _ (by omega) (by omega) (by omega) (by omega)).mono ?_; rintro e w' ⟨rfl, rfl⟩)
      go_ret
      exact ⟨by rw [H3.out]; rfl, rfl⟩
/-- A byte of a row; 0: there is none. -/
def atM (bs : List Nat) (k : Int) : Nat := if k < 0 then 0 else bs.getD k.toNat 0
theorem atM_back (bs : List Nat) (k s : Nat) : atM bs ((k : Int) - s) = backM bs k s := by
  unfold atM backM
  by_cases h : k < s
  · rw [if_pos h, if_pos (by omega)]
  · rw [if_neg h, if_neg (by omega)]
    congr 1
    omega
theorem atM_nat (bs : List Nat) (k : Nat) : atM bs (k : Int) = bs.getD k 0 := by
  unfold atM
  rw [if_neg (by omega), Int.toNat_natCast]
theorem at_any (A : Option Addr) (n c : Nat) (bs : List Nat) (k : Int) (w : World) (h : Bytes w A n c bs) :
    Calls Try.prog 21 #[.slice A n c, .int .i64 k] w fun e w' => e = .returned (.int .i64 (atM bs k : Nat)) ∧ w = w' := by
  have hl := h.len
  subst hl
  by_cases h1 : k < 0
  · have hF : atM bs k = 0 := if_pos h1
    have h2 : decide (k < 0) = true := decide_eq_true h1
    rw [hF]
    go_enter Try.func21, Try.ntmps21
    go_wp2
    go_ret
    exact ⟨rfl, rfl⟩
  · obtain ⟨K, rfl⟩ : ∃ K : Nat, k = K := ⟨k.toNat, by omega⟩
    rw [atM_nat]
    by_cases h2 : K < bs.length
    · obtain ⟨R, o, rfl, hR, hc⟩ := h.at_ (by omega)
      have g := hc K (bs.getD K 0) (by rw [List.getD_eq_getElem?_getD, List.getElem?_eq_getElem h2]; rfl)
      have hlt : bs.getD K 0 < 256 := getD_lt h.byte K
      generalize bs.getD K 0 = x at *
      clear hc h h1
      go_enter Try.func21, Try.ntmps21
      go_wp2
      go_ret
      exact ⟨rfl, rfl⟩
    · have e : bs.getD K 0 = 0 := by rw [List.getD_eq_getElem?_getD, List.getElem?_eq_none (by omega)]; rfl
      rw [e]
      clear e h
      go_enter Try.func21, Try.ntmps21
      go_wp2
      go_ret
      exact ⟨rfl, rfl⟩
theorem own_bytes {W : World} {base : Nat} {v : Value} {n : Nat} {bs : List Nat} (h : W.ownsRow base 5 1 v n (bvs bs)) (hb : ∀ b ∈ bs, b < 256) : ∃ A c, v = .slice A n c ∧ Bytes W A n c bs := by
  obtain ⟨A, c, R, e, _, _, hr⟩ := Row8.of_own h hb
  exact ⟨A, c, e, hr.bytes⟩
theorem own_any (bs : List Nat) (n c : Nat) (A : Option Addr) (w : World) (h : Bytes w A n c bs) (hn : n ≤ 100000) :
    Calls Try.prog 7 #[.slice A n c] w fun e w' => ∃ A' c', e = .returned (.slice A' n c') ∧ Bytes w' A' n c' bs ∧ Below w.heap.size w w' := by
  have hl := h.len
  have hby := h.byte
  have H := Lib.hid h
  have HB := Lib.hid hby
  clear h hby
  go_enter Try.func7, Try.ntmps7
  go_wp2_with (refine wpList_app (o := ⟨some 6, _, _, _, _, _⟩) rfl (.tmp 4) (.tmp 5) rfl w.heap.size 0 n c (.slice none 0 0) [] bs A ?h1 ?h2 ?h3 ?h4 ?h5 ?h6 ?h7)
  case h1 => rfl
  case h2 => rfl
  case h3 => exact ⟨rfl, .inl ⟨rfl, rfl⟩⟩
  case h4 => exact H.out
  case h5 => omega
  case h6 => exact Nat.le_refl _
  intro v4 w4 hown4 hgrow4
  have hb4 : Below w.heap.size w w4 := (Below.refl _ _).grown hgrow4 (Nat.le_refl _) (fun j e => by cases e)
  obtain ⟨A4, c4, rfl, hy4⟩ := own_bytes hown4 (fun x hx => HB.out x (by simpa using hx))
  have H4 := Lib.hid (And.intro hy4 hb4)
  clear hown4 hgrow4 hy4 hb4
  go_wp2
  go_ret
  exact ⟨A4, c4, by simp, by simpa using H4.out.1, H4.out.2⟩
end Go.Proofs.Ytjligbfijjejmaa
