/-
  DERIVED. GIVEN WITH THE SEED: THE CARDS: each row of YtnjdnldoopgcpaaDoorRows.lean that lists a variable, with what it lists TIED to the program's text (the seventh form; the later family's looks); each row that meets fmt, with fmt's text TOLD by the authors' own Lean function (tested against real Go, not proved from fmt's source: count such statements apart). THE CARD IS WHAT COUNTS. Prove the row's statement (the work); the ties are given (YtnjdnldoopgcpaaDoorTie.lean); close each card by the builder's one call (the guide's Derived/Test/ToyasCard.lean, 'card_holds'). Laid BY PROGRAM, IN A SANDBOX (cutbox-door.mjs). By AI agents, Wed Nov 11 2026. No macro, syntax, notation, axiom, sorry.
-/
import Derived.Test.YtnjdnldoopgcpaaDoorRows
import GoSem.ClaimSeven
namespace Go.Proofs.YtnjdnldoopgcpaaDoor
namespace Rows

/-- THE TIED CARD OF 'erasurelaw07.DeflateBack'. -/
def deflateBackCard : Claim7 := { stood := { row := deflateBackRow, standIns := [], harness := (true, "cdc2ca6186fbabaef32fe830d082e81a8b9239f4f7b15b3c79c2cbed965c09d0"), looks := false }, kinds := [], alts := [], laidByText := true, laidKinds := [.data, .data], laidTests := true, laidLooks := .later }
def DeflateBackCardSaid : Prop := Claim7.holds Tryd.pinned (.plain (OpenSpec.ofChange deflateBackSpec)) deflateBackCard

/-- THE TIED CARD OF 'erasurelaw07.DeflatePuts'. -/
def deflatePutsCard : Claim7 := { stood := { row := deflatePutsRow, standIns := [], harness := (true, "cdc2ca6186fbabaef32fe830d082e81a8b9239f4f7b15b3c79c2cbed965c09d0"), looks := false }, kinds := [], alts := [], laidByText := true, laidKinds := [.data, .data], laidTests := true, laidLooks := .later }
def DeflatePutsCardSaid : Prop := Claim7.holds Tryd.pinned (.plain (OpenSpec.ofChange deflatePutsSpec)) deflatePutsCard

/-- THE TIED CARD OF 'erasurelaw08.ZlibBack'. -/
def zlibBackCard : Claim7 := { stood := { row := zlibBackRow, standIns := [], harness := (true, "cdc2ca6186fbabaef32fe830d082e81a8b9239f4f7b15b3c79c2cbed965c09d0"), looks := false }, kinds := [], alts := [], laidByText := true, laidKinds := [.data, .data], laidTests := true, laidLooks := .later }
def ZlibBackCardSaid : Prop := Claim7.holds Tryd.pinned (.plain (OpenSpec.ofChange zlibBackSpec)) zlibBackCard

/-- THE TIED CARD OF 'erasurelaw08.ZlibTurned'. -/
def zlibTurnedCard : Claim7 := { stood := { row := zlibTurnedRow, standIns := [], harness := (true, "cdc2ca6186fbabaef32fe830d082e81a8b9239f4f7b15b3c79c2cbed965c09d0"), looks := false }, kinds := [], alts := [], laidByText := true, laidKinds := [.data, .data], laidTests := true, laidLooks := .later }
def ZlibTurnedCardSaid : Prop := Claim7.holds Tryd.pinned (.plain (OpenSpec.ofChange zlibTurnedSpec)) zlibTurnedCard

/-- THE SECOND FORM's CARD OF 'erasurelaw07.DeflateBack'. -/
def deflateBackUptoCard : Claim7 := { stood := { row := deflateBackUptoRow, standIns := [], harness := (true, "cdc2ca6186fbabaef32fe830d082e81a8b9239f4f7b15b3c79c2cbed965c09d0"), looks := false }, kinds := [], alts := [], laidByText := true, laidKinds := [.data, .data], laidTests := true, laidLooks := .later }
def DeflateBackUptoCardSaid : Prop := Claim7.holds Tryd.pinned (.plain (OpenSpec.upto deflateBackSpec)) deflateBackUptoCard

/-- THE SECOND FORM's CARD OF 'erasurelaw07.DeflatePuts'. -/
def deflatePutsUptoCard : Claim7 := { stood := { row := deflatePutsUptoRow, standIns := [], harness := (true, "cdc2ca6186fbabaef32fe830d082e81a8b9239f4f7b15b3c79c2cbed965c09d0"), looks := false }, kinds := [], alts := [], laidByText := true, laidKinds := [.data, .data], laidTests := true, laidLooks := .later }
def DeflatePutsUptoCardSaid : Prop := Claim7.holds Tryd.pinned (.plain (OpenSpec.upto deflatePutsSpec)) deflatePutsUptoCard

/-- THE SECOND FORM's CARD OF 'erasurelaw08.ZlibBack'. -/
def zlibBackUptoCard : Claim7 := { stood := { row := zlibBackUptoRow, standIns := [], harness := (true, "cdc2ca6186fbabaef32fe830d082e81a8b9239f4f7b15b3c79c2cbed965c09d0"), looks := false }, kinds := [], alts := [], laidByText := true, laidKinds := [.data, .data], laidTests := true, laidLooks := .later }
def ZlibBackUptoCardSaid : Prop := Claim7.holds Tryd.pinned (.plain (OpenSpec.upto zlibBackSpec)) zlibBackUptoCard

/-- THE SECOND FORM's CARD OF 'erasurelaw08.ZlibTurned'. -/
def zlibTurnedUptoCard : Claim7 := { stood := { row := zlibTurnedUptoRow, standIns := [], harness := (true, "cdc2ca6186fbabaef32fe830d082e81a8b9239f4f7b15b3c79c2cbed965c09d0"), looks := false }, kinds := [], alts := [], laidByText := true, laidKinds := [.data, .data], laidTests := true, laidLooks := .later }
def ZlibTurnedUptoCardSaid : Prop := Claim7.holds Tryd.pinned (.plain (OpenSpec.upto zlibTurnedSpec)) zlibTurnedUptoCard
end Rows
end Go.Proofs.YtnjdnldoopgcpaaDoor
