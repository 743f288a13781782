/-
  NARROWER THAN 'FOR EVERY INPUT', by the rows' own cells (each row's printed sentence says how): CutTwice: loops · CutClear: loops · CutSame: loops · CutFound: loops.
  DERIVED. THE GIVEN ROWS OF THIS SEAT. 4 by the template 'for every input the law returns true; each argument reads behind the call as it read before'; 0 by the template 'total and deterministic' (their statements: YtdlmhienolmncaaTotals.lean).
  GIVEN WITH THE SEED: the statements are not yours to turn. If you find one false, say at which input.
  Laid BY PROGRAM, IN A SANDBOX (cutbox-rows.mjs): the forced cells as the released guide's own fill.sh prints them over the translation be6e314cf27b501d… (all of the seat's roots in one cut). By AI agents, Wed Nov 11 2026. No macro, syntax, notation, axiom, sorry.
-/
import Derived.Test.YtdlmhienolmncaaChecked
import GoSem.Claim
import GoSem.ClaimJoined
import GoSem.ClaimMapViews
import Derived.JoinedTies
import Derived.KernelRfl
namespace Go.Proofs.Ytdlmhienolmncaa
/- THE CELL 'sum', in the pinned program and in every row, IS THE sha256 OF THE DUMP (.gsa) THAT YtdlmhienolmncaaProg.lean LOADS. Nothing in Lean hashes anything: it is a label: what it is worth is what the hold of that sum in a sandbox is worth. -/
noncomputable def Try.pinned : Pinned := { name := "ytdlmhienolmncaa", sum := "be6e314cf27b501dcd9e209e69f637272c26ea2f893139f44eafe075f3f616b3", checked := Try.checked }
namespace Rows
def none {H : Type} : Left H := { results := [], args := [] }

/-- 'erasurelaw23.CutTwice': WHATEVER THE INPUT: true; the input reads as it did. -/
def cutTwiceSpec : ChangeSpec := { name := "cutTwice", fn := fun _ => fun
  | [d1, d2, d3] => { results := [.lit (.bool true)], args := [d1, d2, d3] }
  | _ => none }
def cutTwiceRow : OpenClaim := { program := "ytdlmhienolmncaa", sum := "be6e314cf27b501dcd9e209e69f637272c26ea2f893139f44eafe075f3f616b3", func := "erasure/erasurelaw23.CutTwice", spec := "cutTwice", inPlace := ["internal/abi.NoEscape", "internal/bytealg.IndexByteString", "internal/bytealg.IndexString"], unfollowed := true, recurses := true, named := ["internal/bytealg.MaxLen"], loops := true, apart := false }
def CutTwiceSaid : Prop := cutTwiceRow.holds Try.pinned (OpenSpec.ofChange cutTwiceSpec)

/-- ITS FALSE NEIGHBOUR: 'it returns false'. Refute it at one input. -/
def cutTwiceWrong : ChangeSpec := { name := "cutTwice", fn := fun _ => fun
  | [d1, d2, d3] => { results := [.lit (.bool false)], args := [d1, d2, d3] }
  | _ => none }
def CutTwiceWrongFalsely : Prop := cutTwiceRow.holds Try.pinned (OpenSpec.ofChange cutTwiceWrong)

/-- 'erasurelaw23.CutClear': WHATEVER THE INPUT: true; the input reads as it did. -/
def cutClearSpec : ChangeSpec := { name := "cutClear", fn := fun _ => fun
  | [d1, d2] => { results := [.lit (.bool true)], args := [d1, d2] }
  | _ => none }
def cutClearRow : OpenClaim := { program := "ytdlmhienolmncaa", sum := "be6e314cf27b501dcd9e209e69f637272c26ea2f893139f44eafe075f3f616b3", func := "erasure/erasurelaw23.CutClear", spec := "cutClear", inPlace := ["internal/abi.NoEscape", "internal/bytealg.IndexByteString", "internal/bytealg.IndexString"], unfollowed := true, recurses := true, named := ["internal/bytealg.MaxLen"], loops := true, apart := false }
def CutClearSaid : Prop := cutClearRow.holds Try.pinned (OpenSpec.ofChange cutClearSpec)

/-- ITS FALSE NEIGHBOUR: 'it returns false'. Refute it at one input. -/
def cutClearWrong : ChangeSpec := { name := "cutClear", fn := fun _ => fun
  | [d1, d2] => { results := [.lit (.bool false)], args := [d1, d2] }
  | _ => none }
def CutClearWrongFalsely : Prop := cutClearRow.holds Try.pinned (OpenSpec.ofChange cutClearWrong)

/-- 'erasurelaw23.CutSame': WHATEVER THE INPUT: true; the input reads as it did. -/
def cutSameSpec : ChangeSpec := { name := "cutSame", fn := fun _ => fun
  | [d1, d2, d3] => { results := [.lit (.bool true)], args := [d1, d2, d3] }
  | _ => none }
def cutSameRow : OpenClaim := { program := "ytdlmhienolmncaa", sum := "be6e314cf27b501dcd9e209e69f637272c26ea2f893139f44eafe075f3f616b3", func := "erasure/erasurelaw23.CutSame", spec := "cutSame", inPlace := ["internal/abi.NoEscape", "internal/bytealg.IndexByteString", "internal/bytealg.IndexString"], unfollowed := true, recurses := true, named := ["internal/bytealg.MaxLen"], loops := true, apart := false }
def CutSameSaid : Prop := cutSameRow.holds Try.pinned (OpenSpec.ofChange cutSameSpec)

/-- ITS FALSE NEIGHBOUR: 'it returns false'. Refute it at one input. -/
def cutSameWrong : ChangeSpec := { name := "cutSame", fn := fun _ => fun
  | [d1, d2, d3] => { results := [.lit (.bool false)], args := [d1, d2, d3] }
  | _ => none }
def CutSameWrongFalsely : Prop := cutSameRow.holds Try.pinned (OpenSpec.ofChange cutSameWrong)

/-- 'erasurelaw23.CutFound': WHATEVER THE INPUT: true; the input reads as it did. -/
def cutFoundSpec : ChangeSpec := { name := "cutFound", fn := fun _ => fun
  | [d1, d2, d3] => { results := [.lit (.bool true)], args := [d1, d2, d3] }
  | _ => none }
def cutFoundRow : OpenClaim := { program := "ytdlmhienolmncaa", sum := "be6e314cf27b501dcd9e209e69f637272c26ea2f893139f44eafe075f3f616b3", func := "erasure/erasurelaw23.CutFound", spec := "cutFound", inPlace := ["internal/abi.NoEscape", "internal/bytealg.IndexByteString", "internal/bytealg.IndexString"], unfollowed := true, recurses := true, named := ["internal/bytealg.MaxLen"], loops := true, apart := false }
def CutFoundSaid : Prop := cutFoundRow.holds Try.pinned (OpenSpec.ofChange cutFoundSpec)

/-- ITS FALSE NEIGHBOUR: 'it returns false'. Refute it at one input. -/
def cutFoundWrong : ChangeSpec := { name := "cutFound", fn := fun _ => fun
  | [d1, d2, d3] => { results := [.lit (.bool false)], args := [d1, d2, d3] }
  | _ => none }
def CutFoundWrongFalsely : Prop := cutFoundRow.holds Try.pinned (OpenSpec.ofChange cutFoundWrong)

/- THE SECOND FORM. 'bulk': how many values and letters a reading holds, each counted each time it is reached (what is shared counts as often as it is met; a slice's spare places count too). A statement '..UptoSaid' is the law's where the arguments, and the package variables that the reading takes, are together of bulk at most 1048576: NARROWER than '..Said'. Prove '..Said' where nothing that the law and all that it calls make is longer than what came in: it says more and counts as full. Else prove '..UptoSaid'. A law counts once. -/
mutual
def uptoBulk {H : Type} : DataW H → Nat
  | .lit (.string bytes) => bytes.length + 1
  | .lit _ => 1
  | .nil => 1
  | .ptr d => uptoBulk d + 1
  | .slice elems spare => uptoBulkAll elems + uptoBulkAll spare + 1
  | .agg parts => uptoBulkAll parts + 1
  | .iface _ d => uptoBulk d + 1
  | .map entries => uptoBulkEntries entries + 1
  | .held _ => 1
def uptoBulkAll {H : Type} : List (DataW H) → Nat
  | [] => 0
  | d :: r => uptoBulk d + uptoBulkAll r
def uptoBulkEntries {H : Type} : List (Lit × DataW H) → Nat
  | [] => 0
  | x :: r => uptoBulkEntry x + uptoBulkEntries r
def uptoBulkEntry {H : Type} : Lit × DataW H → Nat
  | (.string bytes, d) => bytes.length + uptoBulk d + 1
  | (_, d) => uptoBulk d + 1
 end
def uptoSmall : (H : Type) → List (DataW H) → Bool := fun _ ds => decide (uptoBulkAll ds ≤ 1048576)
def OpenSpec.upto (s : _root_.Go.ChangeSpec) : _root_.Go.OpenSpec := { _root_.Go.OpenSpec.ofChange s with cond := some uptoSmall }

/-- 'erasurelaw23.CutTwice', WHERE WHAT IT READS IS OF BULK AT MOST 1048576: true; the input reads as it did. -/
def cutTwiceUptoRow : OpenClaim := { program := "ytdlmhienolmncaa", sum := "be6e314cf27b501dcd9e209e69f637272c26ea2f893139f44eafe075f3f616b3", func := "erasure/erasurelaw23.CutTwice", spec := "cutTwice", inPlace := ["internal/abi.NoEscape", "internal/bytealg.IndexByteString", "internal/bytealg.IndexString"], unfollowed := true, recurses := true, named := ["internal/bytealg.MaxLen"], loops := true, apart := false, narrowed := true }
def CutTwiceUptoSaid : Prop := cutTwiceUptoRow.holds Try.pinned (OpenSpec.upto cutTwiceSpec)

/-- 'erasurelaw23.CutClear', WHERE WHAT IT READS IS OF BULK AT MOST 1048576: true; the input reads as it did. -/
def cutClearUptoRow : OpenClaim := { program := "ytdlmhienolmncaa", sum := "be6e314cf27b501dcd9e209e69f637272c26ea2f893139f44eafe075f3f616b3", func := "erasure/erasurelaw23.CutClear", spec := "cutClear", inPlace := ["internal/abi.NoEscape", "internal/bytealg.IndexByteString", "internal/bytealg.IndexString"], unfollowed := true, recurses := true, named := ["internal/bytealg.MaxLen"], loops := true, apart := false, narrowed := true }
def CutClearUptoSaid : Prop := cutClearUptoRow.holds Try.pinned (OpenSpec.upto cutClearSpec)

/-- 'erasurelaw23.CutSame', WHERE WHAT IT READS IS OF BULK AT MOST 1048576: true; the input reads as it did. -/
def cutSameUptoRow : OpenClaim := { program := "ytdlmhienolmncaa", sum := "be6e314cf27b501dcd9e209e69f637272c26ea2f893139f44eafe075f3f616b3", func := "erasure/erasurelaw23.CutSame", spec := "cutSame", inPlace := ["internal/abi.NoEscape", "internal/bytealg.IndexByteString", "internal/bytealg.IndexString"], unfollowed := true, recurses := true, named := ["internal/bytealg.MaxLen"], loops := true, apart := false, narrowed := true }
def CutSameUptoSaid : Prop := cutSameUptoRow.holds Try.pinned (OpenSpec.upto cutSameSpec)

/-- 'erasurelaw23.CutFound', WHERE WHAT IT READS IS OF BULK AT MOST 1048576: true; the input reads as it did. -/
def cutFoundUptoRow : OpenClaim := { program := "ytdlmhienolmncaa", sum := "be6e314cf27b501dcd9e209e69f637272c26ea2f893139f44eafe075f3f616b3", func := "erasure/erasurelaw23.CutFound", spec := "cutFound", inPlace := ["internal/abi.NoEscape", "internal/bytealg.IndexByteString", "internal/bytealg.IndexString"], unfollowed := true, recurses := true, named := ["internal/bytealg.MaxLen"], loops := true, apart := false, narrowed := true }
def CutFoundUptoSaid : Prop := cutFoundUptoRow.holds Try.pinned (OpenSpec.upto cutFoundSpec)

end Rows
end Go.Proofs.Ytdlmhienolmncaa
