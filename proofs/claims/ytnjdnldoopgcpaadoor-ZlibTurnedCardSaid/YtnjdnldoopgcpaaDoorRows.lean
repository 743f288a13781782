/-
  NARROWER THAN 'FOR EVERY INPUT', by the rows' own cells (each row's printed sentence says how): DeflateBack: laid · DeflatePuts: laid · ZlibBack: laid · ZlibTurned: laid.
  DERIVED. THE GIVEN ROWS OF THIS SEAT. 4 by the template 'for every input the law returns true; each argument reads behind the call as it read before'; 0 by the template 'total and deterministic' (their statements: YtnjdnldoopgcpaaDoorTotals.lean).
  GIVEN WITH THE SEED: the statements are not yours to turn. If you find one false, say at which input.
  Laid BY PROGRAM, IN A SANDBOX (cutbox-rows.mjs): the forced cells as the released guide's own fill.sh prints them over the translation aa62d7348f316df2… (all of the seat's roots in one cut). By AI agents, Wed Nov 11 2026. No macro, syntax, notation, axiom, sorry.
-/
import Derived.Test.YtnjdnldoopgcpaaDoorChecked
import GoSem.Claim
import GoSem.ClaimJoined
import GoSem.ClaimMapViews
import Derived.JoinedTies
import Derived.KernelRfl
namespace Go.Proofs.YtnjdnldoopgcpaaDoor
/- THE CELL 'sum', in the pinned program and in every row, IS THE sha256 OF THE DUMP (.gsa) THAT YtnjdnldoopgcpaaDoorProg.lean LOADS. Nothing in Lean hashes anything: it is a label: what it is worth is what the hold of that sum in a sandbox is worth. -/
noncomputable def Tryd.pinned : Pinned := { name := "ytnjdnldoopgcpaadoor", sum := "aa62d7348f316df2e404eb431b7ab170bbb58fa85aab5e81f4d317afc2228984", checked := Tryd.checked }
namespace Rows
def none {H : Type} : Left H := { results := [], args := [] }

/- WHAT THE LISTED PACKAGE-LEVEL VARIABLES READ AS WHEN THE CALL BEGINS. Each datum BY PROGRAM (the guide's laid-datum.mjs) off the statement by which the dump's own 'gosem.cut.vars' lays the variable. In a bare row this is a premise. The card (YtnjdnldoopgcpaaDoorCards.lean) ties it to the program's text. -/
def laid_erasure_inflate_repeats {H : Type} : DataW H := .agg [.agg [.lit (.int .i64 2), .lit (.int .i64 3)], .agg [.lit (.int .i64 3), .lit (.int .i64 3)], .agg [.lit (.int .i64 7), .lit (.int .i64 11)]]
def laid_erasure_inflate_order {H : Type} : DataW H := .agg [.lit (.int .i64 16), .lit (.int .i64 17), .lit (.int .i64 18), .lit (.int .i64 0), .lit (.int .i64 8), .lit (.int .i64 7), .lit (.int .i64 9), .lit (.int .i64 6), .lit (.int .i64 10), .lit (.int .i64 5), .lit (.int .i64 11), .lit (.int .i64 4), .lit (.int .i64 12), .lit (.int .i64 3), .lit (.int .i64 13), .lit (.int .i64 2), .lit (.int .i64 14), .lit (.int .i64 1), .lit (.int .i64 15)]

/-- 'erasurelaw07.DeflateBack': WHATEVER THE INPUT: true; the input reads as it did. -/
def deflateBackSpec : ChangeSpec := { name := "deflateBack", fn := fun _ => fun
  | [d] => { results := [.lit (.bool true)], args := [d] }
  | _ => none }
def deflateBackRow : OpenClaim := { program := "ytnjdnldoopgcpaadoor", sum := "aa62d7348f316df2e404eb431b7ab170bbb58fa85aab5e81f4d317afc2228984", func := "erasure/erasurelaw07.DeflateBack", spec := "deflateBack", unfollowed := true, recurses := true, named := ["erasure/inflate.order", "erasure/inflate.repeats"], apart := false, laid := [("erasure/inflate.repeats", laid_erasure_inflate_repeats), ("erasure/inflate.order", laid_erasure_inflate_order)] }
def DeflateBackSaid : Prop := deflateBackRow.holds Tryd.pinned (OpenSpec.ofChange deflateBackSpec)

/-- ITS FALSE NEIGHBOUR: 'it returns false'. Refute it at one input. -/
def deflateBackWrong : ChangeSpec := { name := "deflateBack", fn := fun _ => fun
  | [d] => { results := [.lit (.bool false)], args := [d] }
  | _ => none }
def DeflateBackWrongFalsely : Prop := deflateBackRow.holds Tryd.pinned (OpenSpec.ofChange deflateBackWrong)

/-- 'erasurelaw07.DeflatePuts': WHATEVER THE INPUT: true; the input reads as it did. -/
def deflatePutsSpec : ChangeSpec := { name := "deflatePuts", fn := fun _ => fun
  | [d] => { results := [.lit (.bool true)], args := [d] }
  | _ => none }
def deflatePutsRow : OpenClaim := { program := "ytnjdnldoopgcpaadoor", sum := "aa62d7348f316df2e404eb431b7ab170bbb58fa85aab5e81f4d317afc2228984", func := "erasure/erasurelaw07.DeflatePuts", spec := "deflatePuts", unfollowed := true, recurses := true, named := ["erasure/inflate.order", "erasure/inflate.repeats"], apart := false, laid := [("erasure/inflate.repeats", laid_erasure_inflate_repeats), ("erasure/inflate.order", laid_erasure_inflate_order)] }
def DeflatePutsSaid : Prop := deflatePutsRow.holds Tryd.pinned (OpenSpec.ofChange deflatePutsSpec)

/-- ITS FALSE NEIGHBOUR: 'it returns false'. Refute it at one input. -/
def deflatePutsWrong : ChangeSpec := { name := "deflatePuts", fn := fun _ => fun
  | [d] => { results := [.lit (.bool false)], args := [d] }
  | _ => none }
def DeflatePutsWrongFalsely : Prop := deflatePutsRow.holds Tryd.pinned (OpenSpec.ofChange deflatePutsWrong)

/-- 'erasurelaw08.ZlibBack': WHATEVER THE INPUT: true; the input reads as it did. -/
def zlibBackSpec : ChangeSpec := { name := "zlibBack", fn := fun _ => fun
  | [d1, d2] => { results := [.lit (.bool true)], args := [d1, d2] }
  | _ => none }
def zlibBackRow : OpenClaim := { program := "ytnjdnldoopgcpaadoor", sum := "aa62d7348f316df2e404eb431b7ab170bbb58fa85aab5e81f4d317afc2228984", func := "erasure/erasurelaw08.ZlibBack", spec := "zlibBack", unfollowed := true, recurses := true, named := ["erasure/inflate.order", "erasure/inflate.repeats"], apart := false, laid := [("erasure/inflate.repeats", laid_erasure_inflate_repeats), ("erasure/inflate.order", laid_erasure_inflate_order)] }
def ZlibBackSaid : Prop := zlibBackRow.holds Tryd.pinned (OpenSpec.ofChange zlibBackSpec)

/-- ITS FALSE NEIGHBOUR: 'it returns false'. Refute it at one input. -/
def zlibBackWrong : ChangeSpec := { name := "zlibBack", fn := fun _ => fun
  | [d1, d2] => { results := [.lit (.bool false)], args := [d1, d2] }
  | _ => none }
def ZlibBackWrongFalsely : Prop := zlibBackRow.holds Tryd.pinned (OpenSpec.ofChange zlibBackWrong)

/-- 'erasurelaw08.ZlibTurned': WHATEVER THE INPUT: true; the input reads as it did. -/
def zlibTurnedSpec : ChangeSpec := { name := "zlibTurned", fn := fun _ => fun
  | [d1, d2, d3] => { results := [.lit (.bool true)], args := [d1, d2, d3] }
  | _ => none }
def zlibTurnedRow : OpenClaim := { program := "ytnjdnldoopgcpaadoor", sum := "aa62d7348f316df2e404eb431b7ab170bbb58fa85aab5e81f4d317afc2228984", func := "erasure/erasurelaw08.ZlibTurned", spec := "zlibTurned", unfollowed := true, recurses := true, named := ["erasure/inflate.order", "erasure/inflate.repeats"], apart := false, laid := [("erasure/inflate.repeats", laid_erasure_inflate_repeats), ("erasure/inflate.order", laid_erasure_inflate_order)] }
def ZlibTurnedSaid : Prop := zlibTurnedRow.holds Tryd.pinned (OpenSpec.ofChange zlibTurnedSpec)

/-- ITS FALSE NEIGHBOUR: 'it returns false'. Refute it at one input. -/
def zlibTurnedWrong : ChangeSpec := { name := "zlibTurned", fn := fun _ => fun
  | [d1, d2, d3] => { results := [.lit (.bool false)], args := [d1, d2, d3] }
  | _ => none }
def ZlibTurnedWrongFalsely : Prop := zlibTurnedRow.holds Tryd.pinned (OpenSpec.ofChange zlibTurnedWrong)

/- THE SECOND FORM. 'bulk': how many values and letters a reading holds, each counted each time it is reached (what is shared counts as often as it is met; a slice's spare places count too). A statement '..UptoSaid' is the law's where the arguments, and the package variables that the reading takes, are together of bulk at most 1048576: NARROWER than '..Said'. Prove '..Said' where nothing that the law and all that it calls make is longer than what came in: it says more and counts as full. Else prove '..UptoSaid'. A law counts once. -/
mutual
def uptoBulk {H : Type} : DataW H → Nat
  | .lit (.string bytes) => bytes.length + 1
  | .lit _ => 1
  | .nil => 1
  | .ptr d => uptoBulk d + 1
  | .slice elems spare => uptoBulkAll elems + uptoBulkAll spare + 1
  | .agg parts => uptoBulkAll parts + 1
  | .iface _ d => uptoBulk d + 1
  | .map entries => uptoBulkEntries entries + 1
  | .held _ => 1
def uptoBulkAll {H : Type} : List (DataW H) → Nat
  | [] => 0
  | d :: r => uptoBulk d + uptoBulkAll r
def uptoBulkEntries {H : Type} : List (Lit × DataW H) → Nat
  | [] => 0
  | x :: r => uptoBulkEntry x + uptoBulkEntries r
def uptoBulkEntry {H : Type} : Lit × DataW H → Nat
  | (.string bytes, d) => bytes.length + uptoBulk d + 1
  | (_, d) => uptoBulk d + 1
 end
def uptoSmall : (H : Type) → List (DataW H) → Bool := fun _ ds => decide (uptoBulkAll ds ≤ 1048576)
def OpenSpec.upto (s : _root_.Go.ChangeSpec) : _root_.Go.OpenSpec := { _root_.Go.OpenSpec.ofChange s with cond := some uptoSmall }

/-- 'erasurelaw07.DeflateBack', WHERE WHAT IT READS IS OF BULK AT MOST 1048576: true; the input reads as it did. -/
def deflateBackUptoRow : OpenClaim := { program := "ytnjdnldoopgcpaadoor", sum := "aa62d7348f316df2e404eb431b7ab170bbb58fa85aab5e81f4d317afc2228984", func := "erasure/erasurelaw07.DeflateBack", spec := "deflateBack", unfollowed := true, recurses := true, named := ["erasure/inflate.order", "erasure/inflate.repeats"], apart := false, laid := [("erasure/inflate.repeats", laid_erasure_inflate_repeats), ("erasure/inflate.order", laid_erasure_inflate_order)], narrowed := true }
def DeflateBackUptoSaid : Prop := deflateBackUptoRow.holds Tryd.pinned (OpenSpec.upto deflateBackSpec)

/-- 'erasurelaw07.DeflatePuts', WHERE WHAT IT READS IS OF BULK AT MOST 1048576: true; the input reads as it did. -/
def deflatePutsUptoRow : OpenClaim := { program := "ytnjdnldoopgcpaadoor", sum := "aa62d7348f316df2e404eb431b7ab170bbb58fa85aab5e81f4d317afc2228984", func := "erasure/erasurelaw07.DeflatePuts", spec := "deflatePuts", unfollowed := true, recurses := true, named := ["erasure/inflate.order", "erasure/inflate.repeats"], apart := false, laid := [("erasure/inflate.repeats", laid_erasure_inflate_repeats), ("erasure/inflate.order", laid_erasure_inflate_order)], narrowed := true }
def DeflatePutsUptoSaid : Prop := deflatePutsUptoRow.holds Tryd.pinned (OpenSpec.upto deflatePutsSpec)

/-- 'erasurelaw08.ZlibBack', WHERE WHAT IT READS IS OF BULK AT MOST 1048576: true; the input reads as it did. -/
def zlibBackUptoRow : OpenClaim := { program := "ytnjdnldoopgcpaadoor", sum := "aa62d7348f316df2e404eb431b7ab170bbb58fa85aab5e81f4d317afc2228984", func := "erasure/erasurelaw08.ZlibBack", spec := "zlibBack", unfollowed := true, recurses := true, named := ["erasure/inflate.order", "erasure/inflate.repeats"], apart := false, laid := [("erasure/inflate.repeats", laid_erasure_inflate_repeats), ("erasure/inflate.order", laid_erasure_inflate_order)], narrowed := true }
def ZlibBackUptoSaid : Prop := zlibBackUptoRow.holds Tryd.pinned (OpenSpec.upto zlibBackSpec)

/-- 'erasurelaw08.ZlibTurned', WHERE WHAT IT READS IS OF BULK AT MOST 1048576: true; the input reads as it did. -/
def zlibTurnedUptoRow : OpenClaim := { program := "ytnjdnldoopgcpaadoor", sum := "aa62d7348f316df2e404eb431b7ab170bbb58fa85aab5e81f4d317afc2228984", func := "erasure/erasurelaw08.ZlibTurned", spec := "zlibTurned", unfollowed := true, recurses := true, named := ["erasure/inflate.order", "erasure/inflate.repeats"], apart := false, laid := [("erasure/inflate.repeats", laid_erasure_inflate_repeats), ("erasure/inflate.order", laid_erasure_inflate_order)], narrowed := true }
def ZlibTurnedUptoSaid : Prop := zlibTurnedUptoRow.holds Tryd.pinned (OpenSpec.upto zlibTurnedSpec)

end Rows
end Go.Proofs.YtnjdnldoopgcpaaDoor
