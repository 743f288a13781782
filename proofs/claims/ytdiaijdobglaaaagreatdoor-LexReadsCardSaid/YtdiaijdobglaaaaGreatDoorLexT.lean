/- The document's examples of tokens: the law's awake answers true. Written by gen_lext.py. -/
import Derived.Test.YtdiaijdobglaaaaGreatDoorLexS
import Derived.Lib.SlBytesConst
namespace Go.Proofs.YtdiaijdobglaaaaGreatDoor
open Go.RowKit

def True_ (w : World) (e : Ending) (w' : World) : Prop := e = .returned (.bool true) ∧ Below w.heap.size w w'
def exB : List Nat := [49, 50, 32, 47, 65, 35, 52, 50, 32, 40, 97, 92, 40, 98, 92, 53, 49, 41, 32, 60, 52, 32, 49, 62, 32, 91, 120]
def exW : Array Value := #[.int .i64 1, .int .i64 12, .int .i64 0, .string ⟨#[]⟩, .int .i64 2, .int .i64 0, .int .i64 0, .string ⟨#[65, 66]⟩, .int .i64 3, .int .i64 0, .int .i64 0, .string ⟨#[97, 40, 98, 41]⟩, .int .i64 3, .int .i64 0, .int .i64 0, .string ⟨#[65]⟩, .int .i64 5, .int .i64 0, .int .i64 0, .string ⟨#[]⟩, .int .i64 4, .int .i64 0, .int .i64 0, .string ⟨#[120]⟩, .int .i64 0, .int .i64 0, .int .i64 0, .string ⟨#[]⟩]
theorem ex_0 : nextI exB 0 = (0, ⟨1, 12, 0, []⟩, 2) := by kernel_rfl
theorem ex_1 : nextI exB 2 = (0, ⟨2, 0, 0, [65, 66]⟩, 8) := by kernel_rfl
theorem ex_2 : nextI exB 8 = (0, ⟨3, 0, 0, [97, 40, 98, 41]⟩, 18) := by kernel_rfl
theorem ex_3 : nextI exB 18 = (0, ⟨3, 0, 0, [65]⟩, 24) := by kernel_rfl
theorem ex_4 : nextI exB 24 = (0, ⟨5, 0, 0, []⟩, 26) := by kernel_rfl
theorem ex_5 : nextI exB 26 = (0, ⟨4, 0, 0, [120]⟩, 27) := by kernel_rfl
theorem ex_6 : nextI exB 27 = (0, ⟨0, 0, 0, []⟩, 27) := by kernel_rfl
theorem ex_p : printI ⟨2, 0, 0, [65, 66]⟩ = (0, [47, 65, 66]) := by kernel_rfl
theorem next_ex {a n : Int} {t : TokV} (h : nextI exB a = (0, t, n)) {v : Value} (hv : tokV t = v) (A : Option Addr) (w : World) (hb : Bytes w A 27 27 exB) (hm : MaxLen w) :
    Calls Tryz.prog 6 #[.slice A 27 27, .int .i64 a] w fun e w' => e = .returned (.tuple #[v, .int .i64 n, .int .i64 0]) ∧ Below w.heap.size w w' := by
  subst hv
  have := Next_any A 27 27 exB a w hb (by decide) hm
  rw [h] at this
  exact this
theorem print_ex (w : World) (hE : Env w) : Calls Tryz.prog 9 #[.agg #[.int .i64 2, .int .i64 0, .int .i64 0, .string ⟨#[65, 66]⟩]] w fun e w' => e = .returned (.tuple #[.string ⟨#[47, 65, 66]⟩, .int .i64 0]) ∧ Below w.heap.size w w' := by
  have := Print_any 2 0 0 ⟨#[65, 66]⟩ w (by decide) hE
  rw [show natsOf ⟨#[65, 66]⟩ = [65, 66] by decide, ex_p] at this
  exact this
theorem ex_keep {w w1 : World} {A : Option Addr} {g : Nat} (h : Bytes w1 A 27 27 exB ∧ Whole w1 g 27 exW ∧ Below w.heap.size w w1 ∧ Env w1) (o : Obj) :
    Bytes (w1.alloc o).drew A 27 27 exB ∧ Whole (w1.alloc o).drew g 27 exW ∧ Below w.heap.size w (w1.alloc o).drew ∧ Env (w1.alloc o).drew := by
  have hb : Below w1.heap.size w1 (w1.alloc o).drew := ((Below.refl _ _).alloc (Nat.le_refl _) o).drew
  exact ⟨h.1.below hb, h.2.1.here hb, h.2.2.1.trans (hb.mono h.2.2.1.size), h.2.2.2.below hb⟩
def exAt (i : Nat) : Int := [0, 2, 8, 18, 24, 26, 27, 27].getD i 0
set_option maxRecDepth 100000 in
set_option maxHeartbeats 16000000 in
theorem awake_any (w : World) (hE : Env w) : Calls Tryz.prog 8 #[] w (True_ w) := by
  have h1 := bytes_marked w exB (27, 28) (by decide) (by decide)
  have h2 := Whole.made (w.alloc (.cells (bvs exB).toArray 5 (27, 28))) 27 exW
  simp only [World.size_alloc] at h2
  have hb1 := ((Below.refl w.heap.size w).alloc (Nat.le_refl _) (.cells (bvs exB).toArray 5 (27, 28)))
  have hb2 := hb1.alloc (by simp) (.cells exW 27)
  have HS := Lib.hid (And.intro (h1.below ((Below.refl _ _).alloc (Nat.le_refl _) (.cells exW 27))) (And.intro h2 (And.intro hb2 (hE.below hb2))))
  clear h1 h2 hb1 hb2 hE
  have kc := fun (w : World) (C : Array Value) (n c : Nat) => Lib.run_convert_bytes_const (P := Tryz.prog) w 22 5 C n c Tryz.underlying22 Tryz.underlying5
  go_enter Tryz.func8, Tryz.ntmps8
  go_wp2_with fail
  go_loopg [3, 4] 7 (fun g u x wr => ∃ k : Nat, g + k = 7 ∧ x = .int .i64 (k : Int) ∧ u = .int .i64 (exAt k) ∧ Hid (Bytes wr (some ⟨w.heap.size, 0, none⟩) 27 27 exB ∧ Whole wr (w.heap.size + 1) 27 exW ∧ Below w.heap.size w wr ∧ Env wr))
  case atStart => exact ⟨0, by omega, rfl, rfl, HS⟩
  case round =>
    obtain ⟨k, hgk, rfl, rfl, HS⟩ := hrel
    by_cases hk : k < 7
    · rcases (by omega : k = 0 ∨ k = 1 ∨ k = 2 ∨ k = 3 ∨ k = 4 ∨ k = 5 ∨ k = 6) with rfl | rfl | rfl | rfl | rfl | rfl | rfl
      · have HN := Lib.hid (fun W => next_ex ex_0 (v := .agg #[.int .i64 1, .int .i64 12, .int .i64 0, .string ⟨#[]⟩]) (by rfl) (some ⟨w.heap.size, 0, none⟩) W)
        go_wp2_with fail
        refine (HN.out _ HS.out.1 HS.out.2.2.2.1).mono ?_
        rintro e w1 ⟨rfl, hb⟩
        have rd := (HS.out.2.1.here hb).reads
        have r0 : w1.cell? ⟨w.heap.size + 1, 0, none⟩ = some (.int .i64 1) := rd 0
        have r1 : w1.cell? ⟨w.heap.size + 1, 1, none⟩ = some (.int .i64 12) := rd 1
        have r2 : w1.cell? ⟨w.heap.size + 1, 2, none⟩ = some (.int .i64 0) := rd 2
        have r3 : w1.cell? ⟨w.heap.size + 1, 3, none⟩ = some (.string ⟨#[]⟩) := rd 3
        have lt := (HS.out.2.1.here hb).lt
        have HS2 := Lib.hid (And.intro (HS.out.1.below hb) (And.intro (HS.out.2.1.here hb) (And.intro (HS.out.2.2.1.trans (hb.mono HS.out.2.2.1.size)) (HS.out.2.2.2.below hb))))
        clear hb rd
        go_wp2_with fail
        go_region
        go_wp2_with fail
        go_roundg (6)
        case measure => omega
        case rel => exact ⟨1, by omega, rfl, rfl, Lib.hid (ex_keep HS2.out _)⟩
      · have HN := Lib.hid (fun W => next_ex ex_1 (v := .agg #[.int .i64 2, .int .i64 0, .int .i64 0, .string ⟨#[65, 66]⟩]) (by rfl) (some ⟨w.heap.size, 0, none⟩) W)
        go_wp2_with fail
        refine (HN.out _ HS.out.1 HS.out.2.2.2.1).mono ?_
        rintro e w1 ⟨rfl, hb⟩
        have rd := (HS.out.2.1.here hb).reads
        have r0 : w1.cell? ⟨w.heap.size + 1, 4, none⟩ = some (.int .i64 2) := rd 4
        have r1 : w1.cell? ⟨w.heap.size + 1, 5, none⟩ = some (.int .i64 0) := rd 5
        have r2 : w1.cell? ⟨w.heap.size + 1, 6, none⟩ = some (.int .i64 0) := rd 6
        have r3 : w1.cell? ⟨w.heap.size + 1, 7, none⟩ = some (.string ⟨#[65, 66]⟩) := rd 7
        have lt := (HS.out.2.1.here hb).lt
        have HS2 := Lib.hid (And.intro (HS.out.1.below hb) (And.intro (HS.out.2.1.here hb) (And.intro (HS.out.2.2.1.trans (hb.mono HS.out.2.2.1.size)) (HS.out.2.2.2.below hb))))
        clear hb rd
        go_wp2_with fail
        go_region
        go_wp2_with fail
        go_roundg (5)
        case measure => omega
        case rel => exact ⟨2, by omega, rfl, rfl, Lib.hid (ex_keep HS2.out _)⟩
      · have HN := Lib.hid (fun W => next_ex ex_2 (v := .agg #[.int .i64 3, .int .i64 0, .int .i64 0, .string ⟨#[97, 40, 98, 41]⟩]) (by rfl) (some ⟨w.heap.size, 0, none⟩) W)
        go_wp2_with fail
        refine (HN.out _ HS.out.1 HS.out.2.2.2.1).mono ?_
        rintro e w1 ⟨rfl, hb⟩
        have rd := (HS.out.2.1.here hb).reads
        have r0 : w1.cell? ⟨w.heap.size + 1, 8, none⟩ = some (.int .i64 3) := rd 8
        have r1 : w1.cell? ⟨w.heap.size + 1, 9, none⟩ = some (.int .i64 0) := rd 9
        have r2 : w1.cell? ⟨w.heap.size + 1, 10, none⟩ = some (.int .i64 0) := rd 10
        have r3 : w1.cell? ⟨w.heap.size + 1, 11, none⟩ = some (.string ⟨#[97, 40, 98, 41]⟩) := rd 11
        have lt := (HS.out.2.1.here hb).lt
        have HS2 := Lib.hid (And.intro (HS.out.1.below hb) (And.intro (HS.out.2.1.here hb) (And.intro (HS.out.2.2.1.trans (hb.mono HS.out.2.2.1.size)) (HS.out.2.2.2.below hb))))
        clear hb rd
        go_wp2_with fail
        go_region
        go_wp2_with fail
        go_roundg (4)
        case measure => omega
        case rel => exact ⟨3, by omega, rfl, rfl, Lib.hid (ex_keep HS2.out _)⟩
      · have HN := Lib.hid (fun W => next_ex ex_3 (v := .agg #[.int .i64 3, .int .i64 0, .int .i64 0, .string ⟨#[65]⟩]) (by rfl) (some ⟨w.heap.size, 0, none⟩) W)
        go_wp2_with fail
        refine (HN.out _ HS.out.1 HS.out.2.2.2.1).mono ?_
        rintro e w1 ⟨rfl, hb⟩
        have rd := (HS.out.2.1.here hb).reads
        have r0 : w1.cell? ⟨w.heap.size + 1, 12, none⟩ = some (.int .i64 3) := rd 12
        have r1 : w1.cell? ⟨w.heap.size + 1, 13, none⟩ = some (.int .i64 0) := rd 13
        have r2 : w1.cell? ⟨w.heap.size + 1, 14, none⟩ = some (.int .i64 0) := rd 14
        have r3 : w1.cell? ⟨w.heap.size + 1, 15, none⟩ = some (.string ⟨#[65]⟩) := rd 15
        have lt := (HS.out.2.1.here hb).lt
        have HS2 := Lib.hid (And.intro (HS.out.1.below hb) (And.intro (HS.out.2.1.here hb) (And.intro (HS.out.2.2.1.trans (hb.mono HS.out.2.2.1.size)) (HS.out.2.2.2.below hb))))
        clear hb rd
        go_wp2_with fail
        go_region
        go_wp2_with fail
        go_roundg (3)
        case measure => omega
        case rel => exact ⟨4, by omega, rfl, rfl, Lib.hid (ex_keep HS2.out _)⟩
      · have HN := Lib.hid (fun W => next_ex ex_4 (v := .agg #[.int .i64 5, .int .i64 0, .int .i64 0, .string ⟨#[]⟩]) (by rfl) (some ⟨w.heap.size, 0, none⟩) W)
        go_wp2_with fail
        refine (HN.out _ HS.out.1 HS.out.2.2.2.1).mono ?_
        rintro e w1 ⟨rfl, hb⟩
        have rd := (HS.out.2.1.here hb).reads
        have r0 : w1.cell? ⟨w.heap.size + 1, 16, none⟩ = some (.int .i64 5) := rd 16
        have r1 : w1.cell? ⟨w.heap.size + 1, 17, none⟩ = some (.int .i64 0) := rd 17
        have r2 : w1.cell? ⟨w.heap.size + 1, 18, none⟩ = some (.int .i64 0) := rd 18
        have r3 : w1.cell? ⟨w.heap.size + 1, 19, none⟩ = some (.string ⟨#[]⟩) := rd 19
        have lt := (HS.out.2.1.here hb).lt
        have HS2 := Lib.hid (And.intro (HS.out.1.below hb) (And.intro (HS.out.2.1.here hb) (And.intro (HS.out.2.2.1.trans (hb.mono HS.out.2.2.1.size)) (HS.out.2.2.2.below hb))))
        clear hb rd
        go_wp2_with fail
        go_region
        go_wp2_with fail
        go_roundg (2)
        case measure => omega
        case rel => exact ⟨5, by omega, rfl, rfl, Lib.hid (ex_keep HS2.out _)⟩
      · have HN := Lib.hid (fun W => next_ex ex_5 (v := .agg #[.int .i64 4, .int .i64 0, .int .i64 0, .string ⟨#[120]⟩]) (by rfl) (some ⟨w.heap.size, 0, none⟩) W)
        go_wp2_with fail
        refine (HN.out _ HS.out.1 HS.out.2.2.2.1).mono ?_
        rintro e w1 ⟨rfl, hb⟩
        have rd := (HS.out.2.1.here hb).reads
        have r0 : w1.cell? ⟨w.heap.size + 1, 20, none⟩ = some (.int .i64 4) := rd 20
        have r1 : w1.cell? ⟨w.heap.size + 1, 21, none⟩ = some (.int .i64 0) := rd 21
        have r2 : w1.cell? ⟨w.heap.size + 1, 22, none⟩ = some (.int .i64 0) := rd 22
        have r3 : w1.cell? ⟨w.heap.size + 1, 23, none⟩ = some (.string ⟨#[120]⟩) := rd 23
        have lt := (HS.out.2.1.here hb).lt
        have HS2 := Lib.hid (And.intro (HS.out.1.below hb) (And.intro (HS.out.2.1.here hb) (And.intro (HS.out.2.2.1.trans (hb.mono HS.out.2.2.1.size)) (HS.out.2.2.2.below hb))))
        clear hb rd
        go_wp2_with fail
        go_region
        go_wp2_with fail
        go_roundg (1)
        case measure => omega
        case rel => exact ⟨6, by omega, rfl, rfl, Lib.hid (ex_keep HS2.out _)⟩
      · have HN := Lib.hid (fun W => next_ex ex_6 (v := .agg #[.int .i64 0, .int .i64 0, .int .i64 0, .string ⟨#[]⟩]) (by rfl) (some ⟨w.heap.size, 0, none⟩) W)
        go_wp2_with fail
        refine (HN.out _ HS.out.1 HS.out.2.2.2.1).mono ?_
        rintro e w1 ⟨rfl, hb⟩
        have rd := (HS.out.2.1.here hb).reads
        have r0 : w1.cell? ⟨w.heap.size + 1, 24, none⟩ = some (.int .i64 0) := rd 24
        have r1 : w1.cell? ⟨w.heap.size + 1, 25, none⟩ = some (.int .i64 0) := rd 25
        have r2 : w1.cell? ⟨w.heap.size + 1, 26, none⟩ = some (.int .i64 0) := rd 26
        have r3 : w1.cell? ⟨w.heap.size + 1, 27, none⟩ = some (.string ⟨#[]⟩) := rd 27
        have lt := (HS.out.2.1.here hb).lt
        have HS2 := Lib.hid (And.intro (HS.out.1.below hb) (And.intro (HS.out.2.1.here hb) (And.intro (HS.out.2.2.1.trans (hb.mono HS.out.2.2.1.size)) (HS.out.2.2.2.below hb))))
        clear hb rd
        go_wp2_with fail
        go_region
        go_wp2_with fail
        go_roundg (0)
        case measure => omega
        case rel => exact ⟨7, by omega, rfl, rfl, Lib.hid (ex_keep HS2.out _)⟩
    · obtain rfl : k = 7 := by omega
      have rd := HS.out.2.1.reads
      have r0 : wr.cell? ⟨w.heap.size + 1, 4, none⟩ = some (.int .i64 2) := rd 4
      have r1 : wr.cell? ⟨w.heap.size + 1, 5, none⟩ = some (.int .i64 0) := rd 5
      have r2 : wr.cell? ⟨w.heap.size + 1, 6, none⟩ = some (.int .i64 0) := rd 6
      have r3 : wr.cell? ⟨w.heap.size + 1, 7, none⟩ = some (.string ⟨#[65, 66]⟩) := rd 7
      have lt := HS.out.2.1.lt
      have HE := Lib.hid HS.out.2.2.2
      have HB := Lib.hid HS.out.2.2.1
      clear rd
      go_wp2_with fail
      refine (print_ex _ HE.out).mono ?_
      rintro e w1 ⟨rfl, hb⟩
      have HB1 := Lib.hid (HB.out.trans (hb.mono HB.out.size))
      clear hb
      go_wp2_with fail
      go_ret
      exact ⟨rfl, HB1.out⟩
end Go.Proofs.YtdiaijdobglaaaaGreatDoor
