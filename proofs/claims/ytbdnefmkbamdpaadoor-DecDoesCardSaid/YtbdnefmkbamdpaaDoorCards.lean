/-
  DERIVED. GIVEN WITH THE SEED: THE CARDS: each row of YtbdnefmkbamdpaaDoorRows.lean that lists a variable, with what it lists TIED to the program's text (the seventh form; the later family's looks); each row that meets fmt, with fmt's text TOLD by the authors' own Lean function (tested against real Go, not proved from fmt's source: count such statements apart). THE CARD IS WHAT COUNTS. Prove the row's statement (the work); the ties are given (YtbdnefmkbamdpaaDoorTie.lean); close each card by the builder's one call (the guide's Derived/Test/ToyasCard.lean, 'card_holds'). Laid BY PROGRAM, IN A SANDBOX (cutbox-door.mjs). By AI agents, Wed Nov 11 2026. No macro, syntax, notation, axiom, sorry.
-/
import Derived.Test.YtbdnefmkbamdpaaDoorRows
import GoSem.ClaimSeven
namespace Go.Proofs.YtbdnefmkbamdpaaDoor
namespace Rows

/-- THE TIED CARD OF 'erasurelaw01.DecReads'. -/
def decReadsCard : Claim7 := { stood := { row := decReadsRow, standIns := [], harness := (true, "7f917d2f4beed7aeff1808419636e6a2b36fc2393d22c0e25c059c587b5bd979"), looks := false }, kinds := [], alts := [], laidByText := true, laidKinds := [.data, .data, .data, .data, .pinned], laidTests := true, laidLooks := .later }
def DecReadsCardSaid : Prop := Claim7.holds Tryd.pinned (.plain (OpenSpec.ofChange decReadsSpec)) decReadsCard

/-- THE TIED CARD OF 'erasurelaw01.DecDoes'. -/
def decDoesCard : Claim7 := { stood := { row := decDoesRow, standIns := [], harness := (true, "7f917d2f4beed7aeff1808419636e6a2b36fc2393d22c0e25c059c587b5bd979"), looks := false }, kinds := [], alts := [], laidByText := true, laidKinds := [.data, .data, .data, .data, .pinned], laidTests := true, laidLooks := .later }
def DecDoesCardSaid : Prop := Claim7.holds Tryd.pinned (.plain (OpenSpec.ofChange decDoesSpec)) decDoesCard

/-- THE SECOND FORM's CARD OF 'erasurelaw01.DecReads'. -/
def decReadsUptoCard : Claim7 := { stood := { row := decReadsUptoRow, standIns := [], harness := (true, "7f917d2f4beed7aeff1808419636e6a2b36fc2393d22c0e25c059c587b5bd979"), looks := false }, kinds := [], alts := [], laidByText := true, laidKinds := [.data, .data, .data, .data, .pinned], laidTests := true, laidLooks := .later }
def DecReadsUptoCardSaid : Prop := Claim7.holds Tryd.pinned (.plain (OpenSpec.upto decReadsSpec)) decReadsUptoCard

/-- THE SECOND FORM's CARD OF 'erasurelaw01.DecDoes'. -/
def decDoesUptoCard : Claim7 := { stood := { row := decDoesUptoRow, standIns := [], harness := (true, "7f917d2f4beed7aeff1808419636e6a2b36fc2393d22c0e25c059c587b5bd979"), looks := false }, kinds := [], alts := [], laidByText := true, laidKinds := [.data, .data, .data, .data, .pinned], laidTests := true, laidLooks := .later }
def DecDoesUptoCardSaid : Prop := Claim7.holds Tryd.pinned (.plain (OpenSpec.upto decDoesSpec)) decDoesUptoCard
end Rows
end Go.Proofs.YtbdnefmkbamdpaaDoor
