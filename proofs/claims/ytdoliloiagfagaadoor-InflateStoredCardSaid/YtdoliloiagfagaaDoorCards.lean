/-
  DERIVED. GIVEN WITH THE SEED: THE CARDS: each row of YtdoliloiagfagaaDoorRows.lean that lists a variable, with what it lists TIED to the program's text (the seventh form; the later family's looks); each row that meets fmt, with fmt's text TOLD by the authors' own Lean function (tested against real Go, not proved from fmt's source: count such statements apart). THE CARD IS WHAT COUNTS. Prove the row's statement (the work); the ties are given (YtdoliloiagfagaaDoorTie.lean); close each card by the builder's one call (the guide's Derived/Test/ToyasCard.lean, 'card_holds'). Laid BY PROGRAM, IN A SANDBOX (cutbox-door.mjs). By AI agents, Wed Nov 11 2026. No macro, syntax, notation, axiom, sorry.
-/
import Derived.Test.YtdoliloiagfagaaDoorRows
import GoSem.ClaimSeven
namespace Go.Proofs.YtdoliloiagfagaaDoor
namespace Rows

/-- THE TIED CARD OF 'erasurelaw06.InflateExpands'. -/
def inflateExpandsCard : Claim7 := { stood := { row := inflateExpandsRow, standIns := [], harness := (true, "4d7dc2caf0df648d75515acd6e9c35cf73fb935b3f30df6f59ecfb6424a62ef0"), looks := false }, kinds := [], alts := [], laidByText := true, laidKinds := [.data, .data], laidTests := true, laidLooks := .later }
def InflateExpandsCardSaid : Prop := Claim7.holds Tryd.pinned (.plain (OpenSpec.ofChange inflateExpandsSpec)) inflateExpandsCard

/-- THE TIED CARD OF 'erasurelaw06.InflateRest'. -/
def inflateRestCard : Claim7 := { stood := { row := inflateRestRow, standIns := [], harness := (true, "4d7dc2caf0df648d75515acd6e9c35cf73fb935b3f30df6f59ecfb6424a62ef0"), looks := false }, kinds := [], alts := [], laidByText := true, laidKinds := [.data, .data], laidTests := true, laidLooks := .later }
def InflateRestCardSaid : Prop := Claim7.holds Tryd.pinned (.plain (OpenSpec.ofChange inflateRestSpec)) inflateRestCard

/-- THE TIED CARD OF 'erasurelaw06.InflateStored'. -/
def inflateStoredCard : Claim7 := { stood := { row := inflateStoredRow, standIns := [], harness := (true, "4d7dc2caf0df648d75515acd6e9c35cf73fb935b3f30df6f59ecfb6424a62ef0"), looks := false }, kinds := [], alts := [], laidByText := true, laidKinds := [.data, .data], laidTests := true, laidLooks := .later }
def InflateStoredCardSaid : Prop := Claim7.holds Tryd.pinned (.plain (OpenSpec.ofChange inflateStoredSpec)) inflateStoredCard

/-- THE TIED CARD OF 'erasurelaw06.InflateTokens'. -/
def inflateTokensCard : Claim7 := { stood := { row := inflateTokensRow, standIns := [], harness := (true, "4d7dc2caf0df648d75515acd6e9c35cf73fb935b3f30df6f59ecfb6424a62ef0"), looks := false }, kinds := [], alts := [], laidByText := true, laidKinds := [.data, .data], laidTests := true, laidLooks := .later }
def InflateTokensCardSaid : Prop := Claim7.holds Tryd.pinned (.plain (OpenSpec.ofChange inflateTokensSpec)) inflateTokensCard

/-- THE TIED CARD OF 'erasurelaw07.DeflateBack'. -/
def deflateBackCard : Claim7 := { stood := { row := deflateBackRow, standIns := [], harness := (true, "4d7dc2caf0df648d75515acd6e9c35cf73fb935b3f30df6f59ecfb6424a62ef0"), looks := false }, kinds := [], alts := [], laidByText := true, laidKinds := [.data, .data], laidTests := true, laidLooks := .later }
def DeflateBackCardSaid : Prop := Claim7.holds Tryd.pinned (.plain (OpenSpec.ofChange deflateBackSpec)) deflateBackCard

/-- THE TIED CARD OF 'erasurelaw07.DeflatePuts'. -/
def deflatePutsCard : Claim7 := { stood := { row := deflatePutsRow, standIns := [], harness := (true, "4d7dc2caf0df648d75515acd6e9c35cf73fb935b3f30df6f59ecfb6424a62ef0"), looks := false }, kinds := [], alts := [], laidByText := true, laidKinds := [.data, .data], laidTests := true, laidLooks := .later }
def DeflatePutsCardSaid : Prop := Claim7.holds Tryd.pinned (.plain (OpenSpec.ofChange deflatePutsSpec)) deflatePutsCard

/-- THE SECOND FORM's CARD OF 'erasurelaw06.InflateExpands'. -/
def inflateExpandsUptoCard : Claim7 := { stood := { row := inflateExpandsUptoRow, standIns := [], harness := (true, "4d7dc2caf0df648d75515acd6e9c35cf73fb935b3f30df6f59ecfb6424a62ef0"), looks := false }, kinds := [], alts := [], laidByText := true, laidKinds := [.data, .data], laidTests := true, laidLooks := .later }
def InflateExpandsUptoCardSaid : Prop := Claim7.holds Tryd.pinned (.plain (OpenSpec.upto inflateExpandsSpec)) inflateExpandsUptoCard

/-- THE SECOND FORM's CARD OF 'erasurelaw06.InflateRest'. -/
def inflateRestUptoCard : Claim7 := { stood := { row := inflateRestUptoRow, standIns := [], harness := (true, "4d7dc2caf0df648d75515acd6e9c35cf73fb935b3f30df6f59ecfb6424a62ef0"), looks := false }, kinds := [], alts := [], laidByText := true, laidKinds := [.data, .data], laidTests := true, laidLooks := .later }
def InflateRestUptoCardSaid : Prop := Claim7.holds Tryd.pinned (.plain (OpenSpec.upto inflateRestSpec)) inflateRestUptoCard

/-- THE SECOND FORM's CARD OF 'erasurelaw06.InflateStored'. -/
def inflateStoredUptoCard : Claim7 := { stood := { row := inflateStoredUptoRow, standIns := [], harness := (true, "4d7dc2caf0df648d75515acd6e9c35cf73fb935b3f30df6f59ecfb6424a62ef0"), looks := false }, kinds := [], alts := [], laidByText := true, laidKinds := [.data, .data], laidTests := true, laidLooks := .later }
def InflateStoredUptoCardSaid : Prop := Claim7.holds Tryd.pinned (.plain (OpenSpec.upto inflateStoredSpec)) inflateStoredUptoCard

/-- THE SECOND FORM's CARD OF 'erasurelaw06.InflateTokens'. -/
def inflateTokensUptoCard : Claim7 := { stood := { row := inflateTokensUptoRow, standIns := [], harness := (true, "4d7dc2caf0df648d75515acd6e9c35cf73fb935b3f30df6f59ecfb6424a62ef0"), looks := false }, kinds := [], alts := [], laidByText := true, laidKinds := [.data, .data], laidTests := true, laidLooks := .later }
def InflateTokensUptoCardSaid : Prop := Claim7.holds Tryd.pinned (.plain (OpenSpec.upto inflateTokensSpec)) inflateTokensUptoCard

/-- THE SECOND FORM's CARD OF 'erasurelaw07.DeflateBack'. -/
def deflateBackUptoCard : Claim7 := { stood := { row := deflateBackUptoRow, standIns := [], harness := (true, "4d7dc2caf0df648d75515acd6e9c35cf73fb935b3f30df6f59ecfb6424a62ef0"), looks := false }, kinds := [], alts := [], laidByText := true, laidKinds := [.data, .data], laidTests := true, laidLooks := .later }
def DeflateBackUptoCardSaid : Prop := Claim7.holds Tryd.pinned (.plain (OpenSpec.upto deflateBackSpec)) deflateBackUptoCard

/-- THE SECOND FORM's CARD OF 'erasurelaw07.DeflatePuts'. -/
def deflatePutsUptoCard : Claim7 := { stood := { row := deflatePutsUptoRow, standIns := [], harness := (true, "4d7dc2caf0df648d75515acd6e9c35cf73fb935b3f30df6f59ecfb6424a62ef0"), looks := false }, kinds := [], alts := [], laidByText := true, laidKinds := [.data, .data], laidTests := true, laidLooks := .later }
def DeflatePutsUptoCardSaid : Prop := Claim7.holds Tryd.pinned (.plain (OpenSpec.upto deflatePutsSpec)) deflatePutsUptoCard
end Rows
end Go.Proofs.YtdoliloiagfagaaDoor
