/-
  No cell of these rows narrows 'for every input' (looked for: loops, veiled, ifaces, maps, wideKeys, modest, calm, conditions, laid).
  DERIVED. THE GIVEN ROWS OF THIS SEAT. 6 by the template 'for every input the law returns true; each argument reads behind the call as it read before'; 0 by the template 'total and deterministic' (their statements: YtmleoagdelgddaaTotals.lean).
  GIVEN WITH THE SEED: the statements are not yours to turn. If you find one false, say at which input.
  Laid BY PROGRAM, IN A SANDBOX (cutbox-rows.mjs): the forced cells as the released guide's own fill.sh prints them over the translation f7a32b22f8768d16… (all of the seat's roots in one cut). By AI agents, Wed Nov 11 2026. No macro, syntax, notation, axiom, sorry.
-/
import Derived.Test.YtmleoagdelgddaaChecked
import GoSem.Claim
import GoSem.ClaimJoined
import GoSem.ClaimMapViews
import Derived.JoinedTies
import Derived.KernelRfl
namespace Go.Proofs.Ytmleoagdelgddaa
/- THE CELL 'sum', in the pinned program and in every row, IS THE sha256 OF THE DUMP (.gsa) THAT YtmleoagdelgddaaProg.lean LOADS. Nothing in Lean hashes anything: it is a label: what it is worth is what the hold of that sum in a sandbox is worth. -/
noncomputable def Try.pinned : Pinned := { name := "ytmleoagdelgddaa", sum := "f7a32b22f8768d16da068c68d9406096f5a210aa23b65b594be082cb0c6ae1d5", checked := Try.checked }
namespace Rows
def none {H : Type} : Left H := { results := [], args := [] }

/-- 'erasurelaw22.RasterDoes': WHATEVER THE INPUT: true; the input reads as it did. -/
def rasterDoesSpec : ChangeSpec := { name := "rasterDoes", fn := fun _ => fun
  | [d1, d2, d3] => { results := [.lit (.bool true)], args := [d1, d2, d3] }
  | _ => none }
def rasterDoesRow : OpenClaim := { program := "ytmleoagdelgddaa", sum := "f7a32b22f8768d16da068c68d9406096f5a210aa23b65b594be082cb0c6ae1d5", func := "erasure/erasurelaw22.RasterDoes", spec := "rasterDoes", unfollowed := true, recurses := true, named := ["math/bits.divideError", "math/bits.overflowError"], apart := false }
def RasterDoesSaid : Prop := rasterDoesRow.holds Try.pinned (OpenSpec.ofChange rasterDoesSpec)

/-- ITS FALSE NEIGHBOUR: 'it returns false'. Refute it at one input. -/
def rasterDoesWrong : ChangeSpec := { name := "rasterDoes", fn := fun _ => fun
  | [d1, d2, d3] => { results := [.lit (.bool false)], args := [d1, d2, d3] }
  | _ => none }
def RasterDoesWrongFalsely : Prop := rasterDoesRow.holds Try.pinned (OpenSpec.ofChange rasterDoesWrong)

/-- 'erasurelaw22.RasterCovers': WHATEVER THE INPUT: true; the input reads as it did. -/
def rasterCoversSpec : ChangeSpec := { name := "rasterCovers", fn := fun _ => fun
  | [d1, d2, d3, d4] => { results := [.lit (.bool true)], args := [d1, d2, d3, d4] }
  | _ => none }
def rasterCoversRow : OpenClaim := { program := "ytmleoagdelgddaa", sum := "f7a32b22f8768d16da068c68d9406096f5a210aa23b65b594be082cb0c6ae1d5", func := "erasure/erasurelaw22.RasterCovers", spec := "rasterCovers", unfollowed := true, recurses := true, named := ["math/bits.divideError", "math/bits.overflowError"], apart := false }
def RasterCoversSaid : Prop := rasterCoversRow.holds Try.pinned (OpenSpec.ofChange rasterCoversSpec)

/-- ITS FALSE NEIGHBOUR: 'it returns false'. Refute it at one input. -/
def rasterCoversWrong : ChangeSpec := { name := "rasterCovers", fn := fun _ => fun
  | [d1, d2, d3, d4] => { results := [.lit (.bool false)], args := [d1, d2, d3, d4] }
  | _ => none }
def RasterCoversWrongFalsely : Prop := rasterCoversRow.holds Try.pinned (OpenSpec.ofChange rasterCoversWrong)

/-- 'erasurelaw22.RasterBack': WHATEVER THE INPUT: true; the input reads as it did. -/
def rasterBackSpec : ChangeSpec := { name := "rasterBack", fn := fun _ => fun
  | [d1, d2] => { results := [.lit (.bool true)], args := [d1, d2] }
  | _ => none }
def rasterBackRow : OpenClaim := { program := "ytmleoagdelgddaa", sum := "f7a32b22f8768d16da068c68d9406096f5a210aa23b65b594be082cb0c6ae1d5", func := "erasure/erasurelaw22.RasterBack", spec := "rasterBack", unfollowed := true, recurses := true, named := ["math/bits.divideError", "math/bits.overflowError"], apart := false }
def RasterBackSaid : Prop := rasterBackRow.holds Try.pinned (OpenSpec.ofChange rasterBackSpec)

/-- ITS FALSE NEIGHBOUR: 'it returns false'. Refute it at one input. -/
def rasterBackWrong : ChangeSpec := { name := "rasterBack", fn := fun _ => fun
  | [d1, d2] => { results := [.lit (.bool false)], args := [d1, d2] }
  | _ => none }
def RasterBackWrongFalsely : Prop := rasterBackRow.holds Try.pinned (OpenSpec.ofChange rasterBackWrong)

/-- 'erasurelaw22.RasterBlanks': WHATEVER THE INPUT: true; the input reads as it did. -/
def rasterBlanksSpec : ChangeSpec := { name := "rasterBlanks", fn := fun _ => fun
  | [d1, d2] => { results := [.lit (.bool true)], args := [d1, d2] }
  | _ => none }
def rasterBlanksRow : OpenClaim := { program := "ytmleoagdelgddaa", sum := "f7a32b22f8768d16da068c68d9406096f5a210aa23b65b594be082cb0c6ae1d5", func := "erasure/erasurelaw22.RasterBlanks", spec := "rasterBlanks", unfollowed := true, recurses := true, named := ["math/bits.divideError", "math/bits.overflowError"], apart := false }
def RasterBlanksSaid : Prop := rasterBlanksRow.holds Try.pinned (OpenSpec.ofChange rasterBlanksSpec)

/-- ITS FALSE NEIGHBOUR: 'it returns false'. Refute it at one input. -/
def rasterBlanksWrong : ChangeSpec := { name := "rasterBlanks", fn := fun _ => fun
  | [d1, d2] => { results := [.lit (.bool false)], args := [d1, d2] }
  | _ => none }
def RasterBlanksWrongFalsely : Prop := rasterBlanksRow.holds Try.pinned (OpenSpec.ofChange rasterBlanksWrong)

/-- 'erasurelaw22.RasterMore': WHATEVER THE INPUT: true; the input reads as it did. -/
def rasterMoreSpec : ChangeSpec := { name := "rasterMore", fn := fun _ => fun
  | [d1, d2, d3, d4, d5] => { results := [.lit (.bool true)], args := [d1, d2, d3, d4, d5] }
  | _ => none }
def rasterMoreRow : OpenClaim := { program := "ytmleoagdelgddaa", sum := "f7a32b22f8768d16da068c68d9406096f5a210aa23b65b594be082cb0c6ae1d5", func := "erasure/erasurelaw22.RasterMore", spec := "rasterMore", unfollowed := true, recurses := true, named := ["math/bits.divideError", "math/bits.overflowError"], apart := false }
def RasterMoreSaid : Prop := rasterMoreRow.holds Try.pinned (OpenSpec.ofChange rasterMoreSpec)

/-- ITS FALSE NEIGHBOUR: 'it returns false'. Refute it at one input. -/
def rasterMoreWrong : ChangeSpec := { name := "rasterMore", fn := fun _ => fun
  | [d1, d2, d3, d4, d5] => { results := [.lit (.bool false)], args := [d1, d2, d3, d4, d5] }
  | _ => none }
def RasterMoreWrongFalsely : Prop := rasterMoreRow.holds Try.pinned (OpenSpec.ofChange rasterMoreWrong)

/-- 'erasurelaw22.RasterAll': WHATEVER THE INPUT: true; the input reads as it did. -/
def rasterAllSpec : ChangeSpec := { name := "rasterAll", fn := fun _ => fun
  | [d1, d2, d3, d4, d5] => { results := [.lit (.bool true)], args := [d1, d2, d3, d4, d5] }
  | _ => none }
def rasterAllRow : OpenClaim := { program := "ytmleoagdelgddaa", sum := "f7a32b22f8768d16da068c68d9406096f5a210aa23b65b594be082cb0c6ae1d5", func := "erasure/erasurelaw22.RasterAll", spec := "rasterAll", unfollowed := true, recurses := true, named := ["math/bits.divideError", "math/bits.overflowError"], apart := false }
def RasterAllSaid : Prop := rasterAllRow.holds Try.pinned (OpenSpec.ofChange rasterAllSpec)

/-- ITS FALSE NEIGHBOUR: 'it returns false'. Refute it at one input. -/
def rasterAllWrong : ChangeSpec := { name := "rasterAll", fn := fun _ => fun
  | [d1, d2, d3, d4, d5] => { results := [.lit (.bool false)], args := [d1, d2, d3, d4, d5] }
  | _ => none }
def RasterAllWrongFalsely : Prop := rasterAllRow.holds Try.pinned (OpenSpec.ofChange rasterAllWrong)

/- THE SECOND FORM. 'bulk': how many values and letters a reading holds, each counted each time it is reached (what is shared counts as often as it is met; a slice's spare places count too). A statement '..UptoSaid' is the law's where the arguments, and the package variables that the reading takes, are together of bulk at most 1048576: NARROWER than '..Said'. Prove '..Said' where nothing that the law and all that it calls make is longer than what came in: it says more and counts as full. Else prove '..UptoSaid'. A law counts once. -/
mutual
def uptoBulk {H : Type} : DataW H → Nat
  | .lit (.string bytes) => bytes.length + 1
  | .lit _ => 1
  | .nil => 1
  | .ptr d => uptoBulk d + 1
  | .slice elems spare => uptoBulkAll elems + uptoBulkAll spare + 1
  | .agg parts => uptoBulkAll parts + 1
  | .iface _ d => uptoBulk d + 1
  | .map entries => uptoBulkEntries entries + 1
  | .held _ => 1
def uptoBulkAll {H : Type} : List (DataW H) → Nat
  | [] => 0
  | d :: r => uptoBulk d + uptoBulkAll r
def uptoBulkEntries {H : Type} : List (Lit × DataW H) → Nat
  | [] => 0
  | x :: r => uptoBulkEntry x + uptoBulkEntries r
def uptoBulkEntry {H : Type} : Lit × DataW H → Nat
  | (.string bytes, d) => bytes.length + uptoBulk d + 1
  | (_, d) => uptoBulk d + 1
 end
def uptoSmall : (H : Type) → List (DataW H) → Bool := fun _ ds => decide (uptoBulkAll ds ≤ 1048576)
def OpenSpec.upto (s : _root_.Go.ChangeSpec) : _root_.Go.OpenSpec := { _root_.Go.OpenSpec.ofChange s with cond := some uptoSmall }

/-- 'erasurelaw22.RasterDoes', WHERE WHAT IT READS IS OF BULK AT MOST 1048576: true; the input reads as it did. -/
def rasterDoesUptoRow : OpenClaim := { program := "ytmleoagdelgddaa", sum := "f7a32b22f8768d16da068c68d9406096f5a210aa23b65b594be082cb0c6ae1d5", func := "erasure/erasurelaw22.RasterDoes", spec := "rasterDoes", unfollowed := true, recurses := true, named := ["math/bits.divideError", "math/bits.overflowError"], apart := false, narrowed := true }
def RasterDoesUptoSaid : Prop := rasterDoesUptoRow.holds Try.pinned (OpenSpec.upto rasterDoesSpec)

/-- 'erasurelaw22.RasterCovers', WHERE WHAT IT READS IS OF BULK AT MOST 1048576: true; the input reads as it did. -/
def rasterCoversUptoRow : OpenClaim := { program := "ytmleoagdelgddaa", sum := "f7a32b22f8768d16da068c68d9406096f5a210aa23b65b594be082cb0c6ae1d5", func := "erasure/erasurelaw22.RasterCovers", spec := "rasterCovers", unfollowed := true, recurses := true, named := ["math/bits.divideError", "math/bits.overflowError"], apart := false, narrowed := true }
def RasterCoversUptoSaid : Prop := rasterCoversUptoRow.holds Try.pinned (OpenSpec.upto rasterCoversSpec)

/-- 'erasurelaw22.RasterBack', WHERE WHAT IT READS IS OF BULK AT MOST 1048576: true; the input reads as it did. -/
def rasterBackUptoRow : OpenClaim := { program := "ytmleoagdelgddaa", sum := "f7a32b22f8768d16da068c68d9406096f5a210aa23b65b594be082cb0c6ae1d5", func := "erasure/erasurelaw22.RasterBack", spec := "rasterBack", unfollowed := true, recurses := true, named := ["math/bits.divideError", "math/bits.overflowError"], apart := false, narrowed := true }
def RasterBackUptoSaid : Prop := rasterBackUptoRow.holds Try.pinned (OpenSpec.upto rasterBackSpec)

/-- 'erasurelaw22.RasterBlanks', WHERE WHAT IT READS IS OF BULK AT MOST 1048576: true; the input reads as it did. -/
def rasterBlanksUptoRow : OpenClaim := { program := "ytmleoagdelgddaa", sum := "f7a32b22f8768d16da068c68d9406096f5a210aa23b65b594be082cb0c6ae1d5", func := "erasure/erasurelaw22.RasterBlanks", spec := "rasterBlanks", unfollowed := true, recurses := true, named := ["math/bits.divideError", "math/bits.overflowError"], apart := false, narrowed := true }
def RasterBlanksUptoSaid : Prop := rasterBlanksUptoRow.holds Try.pinned (OpenSpec.upto rasterBlanksSpec)

/-- 'erasurelaw22.RasterMore', WHERE WHAT IT READS IS OF BULK AT MOST 1048576: true; the input reads as it did. -/
def rasterMoreUptoRow : OpenClaim := { program := "ytmleoagdelgddaa", sum := "f7a32b22f8768d16da068c68d9406096f5a210aa23b65b594be082cb0c6ae1d5", func := "erasure/erasurelaw22.RasterMore", spec := "rasterMore", unfollowed := true, recurses := true, named := ["math/bits.divideError", "math/bits.overflowError"], apart := false, narrowed := true }
def RasterMoreUptoSaid : Prop := rasterMoreUptoRow.holds Try.pinned (OpenSpec.upto rasterMoreSpec)

/-- 'erasurelaw22.RasterAll', WHERE WHAT IT READS IS OF BULK AT MOST 1048576: true; the input reads as it did. -/
def rasterAllUptoRow : OpenClaim := { program := "ytmleoagdelgddaa", sum := "f7a32b22f8768d16da068c68d9406096f5a210aa23b65b594be082cb0c6ae1d5", func := "erasure/erasurelaw22.RasterAll", spec := "rasterAll", unfollowed := true, recurses := true, named := ["math/bits.divideError", "math/bits.overflowError"], apart := false, narrowed := true }
def RasterAllUptoSaid : Prop := rasterAllUptoRow.holds Try.pinned (OpenSpec.upto rasterAllSpec)

end Rows
end Go.Proofs.Ytmleoagdelgddaa
