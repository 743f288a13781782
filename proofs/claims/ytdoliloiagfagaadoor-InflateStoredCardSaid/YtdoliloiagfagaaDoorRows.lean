/-
  NARROWER THAN 'FOR EVERY INPUT', by the rows' own cells (each row's printed sentence says how): InflateExpands: laid · InflateRest: laid · InflateStored: laid · InflateTokens: laid · DeflateBack: laid · DeflatePuts: laid.
  DERIVED. THE GIVEN ROWS OF THIS SEAT. 6 by the template 'for every input the law returns true; each argument reads behind the call as it read before'; 0 by the template 'total and deterministic' (their statements: YtdoliloiagfagaaDoorTotals.lean).
  GIVEN WITH THE SEED: the statements are not yours to turn. If you find one false, say at which input.
  Laid BY PROGRAM, IN A SANDBOX (cutbox-rows.mjs): the forced cells as the released guide's own fill.sh prints them over the translation c5f49309d0d00462… (all of the seat's roots in one cut). By AI agents, Wed Nov 11 2026. No macro, syntax, notation, axiom, sorry.
-/
import Derived.Test.YtdoliloiagfagaaDoorChecked
import GoSem.Claim
import GoSem.ClaimJoined
import GoSem.ClaimMapViews
import Derived.JoinedTies
import Derived.KernelRfl
namespace Go.Proofs.YtdoliloiagfagaaDoor
/- THE CELL 'sum', in the pinned program and in every row, IS THE sha256 OF THE DUMP (.gsa) THAT YtdoliloiagfagaaDoorProg.lean LOADS. Nothing in Lean hashes anything: it is a label: what it is worth is what the hold of that sum in a sandbox is worth. -/
noncomputable def Tryd.pinned : Pinned := { name := "ytdoliloiagfagaadoor", sum := "c5f49309d0d00462103d23a12c2fa02cccef25c7847761c7df691aaf81ef8f4f", checked := Tryd.checked }
namespace Rows
def none {H : Type} : Left H := { results := [], args := [] }

/- WHAT THE LISTED PACKAGE-LEVEL VARIABLES READ AS WHEN THE CALL BEGINS. Each datum BY PROGRAM (the guide's laid-datum.mjs) off the statement by which the dump's own 'gosem.cut.vars' lays the variable. In a bare row this is a premise. The card (YtdoliloiagfagaaDoorCards.lean) ties it to the program's text. -/
def laid_erasure_inflate_repeats {H : Type} : DataW H := .agg [.agg [.lit (.int .i64 2), .lit (.int .i64 3)], .agg [.lit (.int .i64 3), .lit (.int .i64 3)], .agg [.lit (.int .i64 7), .lit (.int .i64 11)]]
def laid_erasure_inflate_order {H : Type} : DataW H := .agg [.lit (.int .i64 16), .lit (.int .i64 17), .lit (.int .i64 18), .lit (.int .i64 0), .lit (.int .i64 8), .lit (.int .i64 7), .lit (.int .i64 9), .lit (.int .i64 6), .lit (.int .i64 10), .lit (.int .i64 5), .lit (.int .i64 11), .lit (.int .i64 4), .lit (.int .i64 12), .lit (.int .i64 3), .lit (.int .i64 13), .lit (.int .i64 2), .lit (.int .i64 14), .lit (.int .i64 1), .lit (.int .i64 15)]

/-- 'erasurelaw06.InflateExpands': WHATEVER THE INPUT: true; the input reads as it did. -/
def inflateExpandsSpec : ChangeSpec := { name := "inflateExpands", fn := fun _ => fun
  | [d1, d2] => { results := [.lit (.bool true)], args := [d1, d2] }
  | _ => none }
def inflateExpandsRow : OpenClaim := { program := "ytdoliloiagfagaadoor", sum := "c5f49309d0d00462103d23a12c2fa02cccef25c7847761c7df691aaf81ef8f4f", func := "erasure/erasurelaw06.InflateExpands", spec := "inflateExpands", unfollowed := true, recurses := true, named := ["erasure/inflate.order", "erasure/inflate.repeats"], apart := false, laid := [("erasure/inflate.repeats", laid_erasure_inflate_repeats), ("erasure/inflate.order", laid_erasure_inflate_order)] }
def InflateExpandsSaid : Prop := inflateExpandsRow.holds Tryd.pinned (OpenSpec.ofChange inflateExpandsSpec)

/-- ITS FALSE NEIGHBOUR: 'it returns false'. Refute it at one input. -/
def inflateExpandsWrong : ChangeSpec := { name := "inflateExpands", fn := fun _ => fun
  | [d1, d2] => { results := [.lit (.bool false)], args := [d1, d2] }
  | _ => none }
def InflateExpandsWrongFalsely : Prop := inflateExpandsRow.holds Tryd.pinned (OpenSpec.ofChange inflateExpandsWrong)

/-- 'erasurelaw06.InflateRest': WHATEVER THE INPUT: true; the input reads as it did. -/
def inflateRestSpec : ChangeSpec := { name := "inflateRest", fn := fun _ => fun
  | [d1, d2, d3, d4] => { results := [.lit (.bool true)], args := [d1, d2, d3, d4] }
  | _ => none }
def inflateRestRow : OpenClaim := { program := "ytdoliloiagfagaadoor", sum := "c5f49309d0d00462103d23a12c2fa02cccef25c7847761c7df691aaf81ef8f4f", func := "erasure/erasurelaw06.InflateRest", spec := "inflateRest", unfollowed := true, recurses := true, named := ["erasure/inflate.order", "erasure/inflate.repeats"], apart := false, laid := [("erasure/inflate.repeats", laid_erasure_inflate_repeats), ("erasure/inflate.order", laid_erasure_inflate_order)] }
def InflateRestSaid : Prop := inflateRestRow.holds Tryd.pinned (OpenSpec.ofChange inflateRestSpec)

/-- ITS FALSE NEIGHBOUR: 'it returns false'. Refute it at one input. -/
def inflateRestWrong : ChangeSpec := { name := "inflateRest", fn := fun _ => fun
  | [d1, d2, d3, d4] => { results := [.lit (.bool false)], args := [d1, d2, d3, d4] }
  | _ => none }
def InflateRestWrongFalsely : Prop := inflateRestRow.holds Tryd.pinned (OpenSpec.ofChange inflateRestWrong)

/-- 'erasurelaw06.InflateStored': WHATEVER THE INPUT: true; the input reads as it did. -/
def inflateStoredSpec : ChangeSpec := { name := "inflateStored", fn := fun _ => fun
  | [d] => { results := [.lit (.bool true)], args := [d] }
  | _ => none }
def inflateStoredRow : OpenClaim := { program := "ytdoliloiagfagaadoor", sum := "c5f49309d0d00462103d23a12c2fa02cccef25c7847761c7df691aaf81ef8f4f", func := "erasure/erasurelaw06.InflateStored", spec := "inflateStored", unfollowed := true, recurses := true, named := ["erasure/inflate.order", "erasure/inflate.repeats"], apart := false, laid := [("erasure/inflate.repeats", laid_erasure_inflate_repeats), ("erasure/inflate.order", laid_erasure_inflate_order)] }
def InflateStoredSaid : Prop := inflateStoredRow.holds Tryd.pinned (OpenSpec.ofChange inflateStoredSpec)

/-- ITS FALSE NEIGHBOUR: 'it returns false'. Refute it at one input. -/
def inflateStoredWrong : ChangeSpec := { name := "inflateStored", fn := fun _ => fun
  | [d] => { results := [.lit (.bool false)], args := [d] }
  | _ => none }
def InflateStoredWrongFalsely : Prop := inflateStoredRow.holds Tryd.pinned (OpenSpec.ofChange inflateStoredWrong)

/-- 'erasurelaw06.InflateTokens': WHATEVER THE INPUT: true; the input reads as it did. -/
def inflateTokensSpec : ChangeSpec := { name := "inflateTokens", fn := fun _ => fun
  | [d1, d2] => { results := [.lit (.bool true)], args := [d1, d2] }
  | _ => none }
def inflateTokensRow : OpenClaim := { program := "ytdoliloiagfagaadoor", sum := "c5f49309d0d00462103d23a12c2fa02cccef25c7847761c7df691aaf81ef8f4f", func := "erasure/erasurelaw06.InflateTokens", spec := "inflateTokens", unfollowed := true, recurses := true, named := ["erasure/inflate.order", "erasure/inflate.repeats"], apart := false, laid := [("erasure/inflate.repeats", laid_erasure_inflate_repeats), ("erasure/inflate.order", laid_erasure_inflate_order)] }
def InflateTokensSaid : Prop := inflateTokensRow.holds Tryd.pinned (OpenSpec.ofChange inflateTokensSpec)

/-- ITS FALSE NEIGHBOUR: 'it returns false'. Refute it at one input. -/
def inflateTokensWrong : ChangeSpec := { name := "inflateTokens", fn := fun _ => fun
  | [d1, d2] => { results := [.lit (.bool false)], args := [d1, d2] }
  | _ => none }
def InflateTokensWrongFalsely : Prop := inflateTokensRow.holds Tryd.pinned (OpenSpec.ofChange inflateTokensWrong)

/-- 'erasurelaw07.DeflateBack': WHATEVER THE INPUT: true; the input reads as it did. -/
def deflateBackSpec : ChangeSpec := { name := "deflateBack", fn := fun _ => fun
  | [d] => { results := [.lit (.bool true)], args := [d] }
  | _ => none }
def deflateBackRow : OpenClaim := { program := "ytdoliloiagfagaadoor", sum := "c5f49309d0d00462103d23a12c2fa02cccef25c7847761c7df691aaf81ef8f4f", func := "erasure/erasurelaw07.DeflateBack", spec := "deflateBack", unfollowed := true, recurses := true, named := ["erasure/inflate.order", "erasure/inflate.repeats"], apart := false, laid := [("erasure/inflate.repeats", laid_erasure_inflate_repeats), ("erasure/inflate.order", laid_erasure_inflate_order)] }
def DeflateBackSaid : Prop := deflateBackRow.holds Tryd.pinned (OpenSpec.ofChange deflateBackSpec)

/-- ITS FALSE NEIGHBOUR: 'it returns false'. Refute it at one input. -/
def deflateBackWrong : ChangeSpec := { name := "deflateBack", fn := fun _ => fun
  | [d] => { results := [.lit (.bool false)], args := [d] }
  | _ => none }
def DeflateBackWrongFalsely : Prop := deflateBackRow.holds Tryd.pinned (OpenSpec.ofChange deflateBackWrong)

/-- 'erasurelaw07.DeflatePuts': WHATEVER THE INPUT: true; the input reads as it did. -/
def deflatePutsSpec : ChangeSpec := { name := "deflatePuts", fn := fun _ => fun
  | [d] => { results := [.lit (.bool true)], args := [d] }
  | _ => none }
def deflatePutsRow : OpenClaim := { program := "ytdoliloiagfagaadoor", sum := "c5f49309d0d00462103d23a12c2fa02cccef25c7847761c7df691aaf81ef8f4f", func := "erasure/erasurelaw07.DeflatePuts", spec := "deflatePuts", unfollowed := true, recurses := true, named := ["erasure/inflate.order", "erasure/inflate.repeats"], apart := false, laid := [("erasure/inflate.repeats", laid_erasure_inflate_repeats), ("erasure/inflate.order", laid_erasure_inflate_order)] }
def DeflatePutsSaid : Prop := deflatePutsRow.holds Tryd.pinned (OpenSpec.ofChange deflatePutsSpec)

/-- ITS FALSE NEIGHBOUR: 'it returns false'. Refute it at one input. -/
def deflatePutsWrong : ChangeSpec := { name := "deflatePuts", fn := fun _ => fun
  | [d] => { results := [.lit (.bool false)], args := [d] }
  | _ => none }
def DeflatePutsWrongFalsely : Prop := deflatePutsRow.holds Tryd.pinned (OpenSpec.ofChange deflatePutsWrong)

/- THE SECOND FORM. 'bulk': how many values and letters a reading holds, each counted each time it is reached (what is shared counts as often as it is met; a slice's spare places count too). A statement '..UptoSaid' is the law's where the arguments, and the package variables that the reading takes, are together of bulk at most 1048576: NARROWER than '..Said'. Prove '..Said' where nothing that the law and all that it calls make is longer than what came in: it says more and counts as full. Else prove '..UptoSaid'. A law counts once. -/
mutual
def uptoBulk {H : Type} : DataW H → Nat
  | .lit (.string bytes) => bytes.length + 1
  | .lit _ => 1
  | .nil => 1
  | .ptr d => uptoBulk d + 1
  | .slice elems spare => uptoBulkAll elems + uptoBulkAll spare + 1
  | .agg parts => uptoBulkAll parts + 1
  | .iface _ d => uptoBulk d + 1
  | .map entries => uptoBulkEntries entries + 1
  | .held _ => 1
def uptoBulkAll {H : Type} : List (DataW H) → Nat
  | [] => 0
  | d :: r => uptoBulk d + uptoBulkAll r
def uptoBulkEntries {H : Type} : List (Lit × DataW H) → Nat
  | [] => 0
  | x :: r => uptoBulkEntry x + uptoBulkEntries r
def uptoBulkEntry {H : Type} : Lit × DataW H → Nat
  | (.string bytes, d) => bytes.length + uptoBulk d + 1
  | (_, d) => uptoBulk d + 1
 end
def uptoSmall : (H : Type) → List (DataW H) → Bool := fun _ ds => decide (uptoBulkAll ds ≤ 1048576)
def OpenSpec.upto (s : _root_.Go.ChangeSpec) : _root_.Go.OpenSpec := { _root_.Go.OpenSpec.ofChange s with cond := some uptoSmall }

/-- 'erasurelaw06.InflateExpands', WHERE WHAT IT READS IS OF BULK AT MOST 1048576: true; the input reads as it did. -/
def inflateExpandsUptoRow : OpenClaim := { program := "ytdoliloiagfagaadoor", sum := "c5f49309d0d00462103d23a12c2fa02cccef25c7847761c7df691aaf81ef8f4f", func := "erasure/erasurelaw06.InflateExpands", spec := "inflateExpands", unfollowed := true, recurses := true, named := ["erasure/inflate.order", "erasure/inflate.repeats"], apart := false, laid := [("erasure/inflate.repeats", laid_erasure_inflate_repeats), ("erasure/inflate.order", laid_erasure_inflate_order)], narrowed := true }
def InflateExpandsUptoSaid : Prop := inflateExpandsUptoRow.holds Tryd.pinned (OpenSpec.upto inflateExpandsSpec)

/-- 'erasurelaw06.InflateRest', WHERE WHAT IT READS IS OF BULK AT MOST 1048576: true; the input reads as it did. -/
def inflateRestUptoRow : OpenClaim := { program := "ytdoliloiagfagaadoor", sum := "c5f49309d0d00462103d23a12c2fa02cccef25c7847761c7df691aaf81ef8f4f", func := "erasure/erasurelaw06.InflateRest", spec := "inflateRest", unfollowed := true, recurses := true, named := ["erasure/inflate.order", "erasure/inflate.repeats"], apart := false, laid := [("erasure/inflate.repeats", laid_erasure_inflate_repeats), ("erasure/inflate.order", laid_erasure_inflate_order)], narrowed := true }
def InflateRestUptoSaid : Prop := inflateRestUptoRow.holds Tryd.pinned (OpenSpec.upto inflateRestSpec)

/-- 'erasurelaw06.InflateStored', WHERE WHAT IT READS IS OF BULK AT MOST 1048576: true; the input reads as it did. -/
def inflateStoredUptoRow : OpenClaim := { program := "ytdoliloiagfagaadoor", sum := "c5f49309d0d00462103d23a12c2fa02cccef25c7847761c7df691aaf81ef8f4f", func := "erasure/erasurelaw06.InflateStored", spec := "inflateStored", unfollowed := true, recurses := true, named := ["erasure/inflate.order", "erasure/inflate.repeats"], apart := false, laid := [("erasure/inflate.repeats", laid_erasure_inflate_repeats), ("erasure/inflate.order", laid_erasure_inflate_order)], narrowed := true }
def InflateStoredUptoSaid : Prop := inflateStoredUptoRow.holds Tryd.pinned (OpenSpec.upto inflateStoredSpec)

/-- 'erasurelaw06.InflateTokens', WHERE WHAT IT READS IS OF BULK AT MOST 1048576: true; the input reads as it did. -/
def inflateTokensUptoRow : OpenClaim := { program := "ytdoliloiagfagaadoor", sum := "c5f49309d0d00462103d23a12c2fa02cccef25c7847761c7df691aaf81ef8f4f", func := "erasure/erasurelaw06.InflateTokens", spec := "inflateTokens", unfollowed := true, recurses := true, named := ["erasure/inflate.order", "erasure/inflate.repeats"], apart := false, laid := [("erasure/inflate.repeats", laid_erasure_inflate_repeats), ("erasure/inflate.order", laid_erasure_inflate_order)], narrowed := true }
def InflateTokensUptoSaid : Prop := inflateTokensUptoRow.holds Tryd.pinned (OpenSpec.upto inflateTokensSpec)

/-- 'erasurelaw07.DeflateBack', WHERE WHAT IT READS IS OF BULK AT MOST 1048576: true; the input reads as it did. -/
def deflateBackUptoRow : OpenClaim := { program := "ytdoliloiagfagaadoor", sum := "c5f49309d0d00462103d23a12c2fa02cccef25c7847761c7df691aaf81ef8f4f", func := "erasure/erasurelaw07.DeflateBack", spec := "deflateBack", unfollowed := true, recurses := true, named := ["erasure/inflate.order", "erasure/inflate.repeats"], apart := false, laid := [("erasure/inflate.repeats", laid_erasure_inflate_repeats), ("erasure/inflate.order", laid_erasure_inflate_order)], narrowed := true }
def DeflateBackUptoSaid : Prop := deflateBackUptoRow.holds Tryd.pinned (OpenSpec.upto deflateBackSpec)

/-- 'erasurelaw07.DeflatePuts', WHERE WHAT IT READS IS OF BULK AT MOST 1048576: true; the input reads as it did. -/
def deflatePutsUptoRow : OpenClaim := { program := "ytdoliloiagfagaadoor", sum := "c5f49309d0d00462103d23a12c2fa02cccef25c7847761c7df691aaf81ef8f4f", func := "erasure/erasurelaw07.DeflatePuts", spec := "deflatePuts", unfollowed := true, recurses := true, named := ["erasure/inflate.order", "erasure/inflate.repeats"], apart := false, laid := [("erasure/inflate.repeats", laid_erasure_inflate_repeats), ("erasure/inflate.order", laid_erasure_inflate_order)], narrowed := true }
def DeflatePutsUptoSaid : Prop := deflatePutsUptoRow.holds Tryd.pinned (OpenSpec.upto deflatePutsSpec)

end Rows
end Go.Proofs.YtdoliloiagfagaaDoor
