/- The document's examples: awake answers true. -/
import Derived.Test.YtbdnefmkbamdpaaDoorDecPrint
import Derived.Test.YtbdnefmkbamdpaaDoorDecCmp
namespace Go.Proofs.YtbdnefmkbamdpaaDoor
open Go.RowKit Dec

/-- The two cells of a decimal in memory. -/
def Cells2 (w : World) (B : Nat) (x y : Int) : Prop := w.cell? ⟨B, 0, none⟩ = some (.int .i64 x) ∧ w.cell? ⟨B, 1, none⟩ = some (.int .i64 y)
theorem Cells2.later {w w' : World} {B : Nat} {x y : Int} (h : Cells2 w B x y) (hb : Below w.heap.size w w') : Cells2 w' B x y := ⟨cell_later hb h.1, cell_later hb h.2⟩
theorem Cells2.new (w : World) (x y : Int) (T : Nat) : Cells2 (w.alloc (.cells #[.int .i64 x, .int .i64 y] T)) w.heap.size x y := ⟨by rw [World.cell?_alloc_new]; rfl, by rw [World.cell?_alloc_new]; rfl⟩
theorem Cells2.old {w : World} {B : Nat} {x y : Int} (h : Cells2 w B x y) (o : Obj) : Cells2 (w.alloc o) B x y := h.later ((Below.refl _ _).alloc (Nat.le_refl _) o)
theorem Cells2.lt {w : World} {B : Nat} {x y : Int} (h : Cells2 w B x y) : B < w.heap.size := World.block_lt_of_cell? _ _ h.1

theorem c_parse1 : parseL [45, 48, 48, 46, 53, 48] = (-5, 1, 0) := by decide
theorem c_parse2 : parseL [46] = (0, 0, 4) := by decide
theorem c_parse3 : parseL [49, 46, 48, 48, 48, 48, 48, 48, 48, 48, 48, 49] = (0, 0, 5) := by decide
theorem c_print : printL (-5) 1 = [45, 48, 46, 53] := by
  have h : Lib.decDigits (-5 : Int).natAbs = [53] := by
    rw [show (-5 : Int).natAbs = 5 from rfl, Lib.decDigits, dif_pos (by decide)]; rfl
  unfold printL rowL
  rw [h]; decide

/-- What the library's variables hold, as far as dec's calls look into them. -/
def Ready (w : World) : Prop := MaxLen w ∧ Lib.TabIs Tryd.prog w "internal/strconv.uint64pow10" .u64 Lib.pow10Tab
theorem Ready.later {w w' : World} (h : Ready w) (hb : Below w.heap.size w w') : Ready w' := ⟨maxLen_below hb h.1, Lib.tabBelow_of_tabIs h.2 w' hb⟩
theorem Ready.alloc {w : World} (h : Ready w) (o : Obj) : Ready (w.alloc o) := h.later ((Below.refl _ _).alloc (Nat.le_refl _) o)

theorem parse_is (t : ByteArray) (w : World) (h : Ready w) (hs : t.size ≤ 9223372036854775807) (M S E : Int) (hp : parseL t.data.toList = (M, S, E)) :
    Calls Tryd.prog 5 #[.string t] w (IsDec M S E w) := by
  have := parse_any t w h.1 hs
  rwa [hp] at this
theorem print_is (m : Int) (s : Nat) (w : World) (h : Ready w) (hv : Valid m s) (l : List UInt8) (hp : printL m s = l) :
    Calls Tryd.prog 10 #[.agg #[.int .i64 m, .int .i64 s]] w (IsText l w) := by
  have := print_ok m s w hv h.2
  rwa [hp] at this
theorem add_is (m s m' s' : Int) (w : World) (hv : Valid m s) (hv' : Valid m' s') (M S E : Int) (hd : Denotes (val9 m s + val9 m' s') 9 M S E) :
    Calls Tryd.prog 12 #[.agg #[.int .i64 m, .int .i64 s], .agg #[.int .i64 m', .int .i64 s']] w (IsDec M S E w) := by
  refine (add_ok m m' s s' w hv hv').mono ?_
  rintro e w' ⟨M', S', E', he, hd', hb⟩
  obtain ⟨rfl, rfl, rfl⟩ := hd.unique hd'
  exact ⟨he, hb⟩
theorem mul_is (m s m' s' : Int) (w : World) (hv : Valid m s) (hv' : Valid m' s') (M S E : Int) (hd : Denotes (val9 m s * val9 m' s') 18 M S E) :
    Calls Tryd.prog 14 #[.agg #[.int .i64 m, .int .i64 s], .agg #[.int .i64 m', .int .i64 s']] w (IsDec M S E w) := by
  refine (mul_ok m m' s s' w hv hv').mono ?_
  rintro e w' ⟨M', S', E', he, hd', hb⟩
  obtain ⟨rfl, rfl, rfl⟩ := hd.unique hd'
  exact ⟨he, hb⟩
theorem c_add : Denotes (val9 5 1 + val9 5 1) 9 1 0 0 := den_ok (by decide) (by decide)
theorem c_mul : Denotes (val9 1 5 * val9 1 5) 18 0 0 5 := by
  have h : Denotes 1 10 0 0 5 := den_over (n := 1) rfl (.inr (by decide))
  exact h.scale (by decide)

set_option maxHeartbeats 1000000 in
theorem awake_any (w : World) (h : Ready w) :
    Calls Tryd.prog 9 #[] w fun e w' => e = .returned (.bool true) ∧ Below w.heap.size w w' := by
  have HR := Lib.hid h
  clear h
  go_enter Tryd.func9, Tryd.ntmps9
  go_wp2_with fail
  refine (parse_is _ _ HR.out (by decide) (-5) 1 0 c_parse1).mono ?_
  rintro e w1 ⟨rfl, b1⟩
  have R1 := Lib.hid (HR.out.later b1)
  go_wp2_with fail
  refine (print_is (-5) 1 _ (R1.out.alloc _) (by decide) _ c_print).mono ?_
  rintro e w2 ⟨r2, rfl, ht, b2⟩
  obtain rfl : r2 = ⟨#[45, 48, 46, 53]⟩ := ByteArray.ext (Array.toList_inj.1 ht)
  have R2 := Lib.hid ((R1.out.alloc _).later b2)
  clear ht
  have ca := (Cells2.new w1 (-5) 1 23).later b2
  go_wp2_with fail
  refine (parse_is _ _ R2.out (by decide) 0 0 4 c_parse2).mono ?_
  rintro e w3 ⟨rfl, b3⟩
  have R3 := Lib.hid (R2.out.later b3)
  have ca := ca.later b3
  go_wp2_with fail
  refine (parse_is _ _ (R3.out.alloc _) (by decide) 0 0 5 c_parse3).mono ?_
  rintro e w4 ⟨rfl, b4⟩
  have R4 := Lib.hid ((R3.out.alloc _).later b4)
  have ca := (ca.old _).later b4
  go_wp2_with fail
  refine (add_is 5 1 5 1 _ (by decide) (by decide) 1 0 0 c_add).mono ?_
  rintro e w5 ⟨rfl, b5⟩
  have ca := ((ca.old _).old _).later b5
  go_wp2_with fail
  refine (mul_is 1 5 1 5 _ (by decide) (by decide) 0 0 5 c_mul).mono ?_
  rintro e w6 ⟨rfl, b6⟩
  have cb := ((Cells2.new w5 1 0 23).old _).later b6
  have ca := ((ca.old _).old _).later b6
  have hall : Below w.heap.size w w6 := by
    have s1 := b1.size
    have s2 := b2.size
    have s3 := b3.size
    have s4 := b4.size
    have s5 := b5.size
    simp at s2 s4 s5
    refine b1.trans (Below.trans (((Below.refl _ _).alloc s1 _).trans (b2.mono (by simp; omega))) ?_)
    refine Below.trans (b3.mono (by omega)) ?_
    refine Below.trans (((Below.refl _ _).alloc (by omega) _).trans (b4.mono (by simp; omega))) ?_
    refine Below.trans ((((Below.refl _ _).alloc (by omega) _).alloc (by simp; omega) _).trans (b5.mono (by simp; omega))) ?_
    exact (((Below.refl _ _).alloc (by omega) _).alloc (by simp; omega) _).trans (b6.mono (by simp; omega))
  have HA := Lib.hid hall
  have la := ca.lt
  have lb := cb.lt
  obtain ⟨ca0, ca1⟩ := ca
  obtain ⟨cb0, cb1⟩ := cb
  clear hall b1 b2 b3 b4 b5 b6
  go_wp2
  go_ret
  exact ⟨rfl, HA.out.alloc HA.out.size _⟩
end Go.Proofs.YtbdnefmkbamdpaaDoor
