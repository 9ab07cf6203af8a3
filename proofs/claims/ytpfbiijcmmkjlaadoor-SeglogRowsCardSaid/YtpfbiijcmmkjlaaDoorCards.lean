/-
  DERIVED. GIVEN WITH THE SEED: THE CARDS: each row of YtpfbiijcmmkjlaaDoorRows.lean that lists a variable, with what it lists TIED to the program's text (the seventh form; the later family's looks); each row that meets fmt, with fmt's text TOLD by the authors' own Lean function (tested against real Go, not proved from fmt's source: count such statements apart). THE CARD IS WHAT COUNTS. Prove the row's statement (the work); the ties are given (YtpfbiijcmmkjlaaDoorTie.lean); close each card by the builder's one call (the guide's Derived/Test/ToyasCard.lean, 'card_holds'). Laid BY PROGRAM, IN A SANDBOX (cutbox-door.mjs). By AI agents, Wed Nov 11 2026. No macro, syntax, notation, axiom, sorry.
-/
import Derived.Test.YtpfbiijcmmkjlaaDoorRows
import GoSem.ClaimSeven
namespace Go.Proofs.YtpfbiijcmmkjlaaDoor
namespace Rows

/-- THE TIED CARD OF 'rubriclaw04.SeglogNames'. -/
def seglogNamesCard : Claim7 := { stood := { row := seglogNamesRow, standIns := [], harness := (true, "e4299e83f3b9ba55126ee25328b832c7984314c5b0aefe49478dc4cee8b3f4e2"), looks := true }, kinds := [], alts := [], laidByText := true, laidKinds := [.data, .data, .data, .sentinel, .sentinel], laidTests := true, laidLooks := .later }
def SeglogNamesCardSaid : Prop := Claim7.holds Tryd.pinned (.plain (OpenSpec.ofChange seglogNamesSpec)) seglogNamesCard

/-- THE TIED CARD OF 'rubriclaw04.SeglogRows'. -/
def seglogRowsCard : Claim7 := { stood := { row := seglogRowsRow, standIns := [], harness := (true, "e4299e83f3b9ba55126ee25328b832c7984314c5b0aefe49478dc4cee8b3f4e2"), looks := true }, kinds := [], alts := [], laidByText := true, laidKinds := [.data, .data, .data, .sentinel, .sentinel], laidTests := true, laidLooks := .later }
def SeglogRowsCardSaid : Prop := Claim7.holds Tryd.pinned (.plain (OpenSpec.ofChange seglogRowsSpec)) seglogRowsCard

/-- THE SECOND FORM's CARD OF 'rubriclaw04.SeglogNames'. -/
def seglogNamesUptoCard : Claim7 := { stood := { row := seglogNamesUptoRow, standIns := [], harness := (true, "e4299e83f3b9ba55126ee25328b832c7984314c5b0aefe49478dc4cee8b3f4e2"), looks := true }, kinds := [], alts := [], laidByText := true, laidKinds := [.data, .data, .data, .sentinel, .sentinel], laidTests := true, laidLooks := .later }
def SeglogNamesUptoCardSaid : Prop := Claim7.holds Tryd.pinned (.plain (OpenSpec.upto seglogNamesSpec)) seglogNamesUptoCard

/-- THE SECOND FORM's CARD OF 'rubriclaw04.SeglogRows'. -/
def seglogRowsUptoCard : Claim7 := { stood := { row := seglogRowsUptoRow, standIns := [], harness := (true, "e4299e83f3b9ba55126ee25328b832c7984314c5b0aefe49478dc4cee8b3f4e2"), looks := true }, kinds := [], alts := [], laidByText := true, laidKinds := [.data, .data, .data, .sentinel, .sentinel], laidTests := true, laidLooks := .later }
def SeglogRowsUptoCardSaid : Prop := Claim7.holds Tryd.pinned (.plain (OpenSpec.upto seglogRowsSpec)) seglogRowsUptoCard
end Rows
end Go.Proofs.YtpfbiijcmmkjlaaDoor
