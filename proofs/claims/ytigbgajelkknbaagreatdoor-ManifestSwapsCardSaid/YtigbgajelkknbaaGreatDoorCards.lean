/-
  DERIVED. GIVEN WITH THE SEED: THE CARDS: each row of YtigbgajelkknbaaGreatDoorRows.lean that lists a variable, with what it lists TIED to the program's text (the seventh form; the later family's looks); each row that meets fmt, with fmt's text TOLD by the authors' own Lean function (tested against real Go, not proved from fmt's source: count such statements apart). THE CARD IS WHAT COUNTS. Prove the row's statement (the work); the ties are given (YtigbgajelkknbaaGreatDoorTie.lean); close each card by the builder's one call (the guide's Derived/Test/ToyasCard.lean, 'card_holds'). Laid BY PROGRAM, IN A SANDBOX (cutbox-door.mjs). By AI agents, Wed Nov 11 2026. No macro, syntax, notation, axiom, sorry.
-/
import Derived.Test.YtigbgajelkknbaaGreatDoorRows
import GoSem.ClaimSeven
namespace Go.Proofs.YtigbgajelkknbaaGreatDoor
namespace Rows

/-- THE TIED CARD OF 'rubriclaw04.SeglogPlays'. -/
def seglogPlaysCard : Claim7 := { stood := { row := seglogPlaysRow, standIns := [], harness := (true, "b687adccdc49a17c1b80c3226eae3e822ef5c379986e58845dd187cb53792c24"), looks := true }, kinds := [], alts := [], laidByText := true, laidKinds := [.data, .data, .data, .sentinel, .sentinel], laidTests := true, laidLooks := .later }
def SeglogPlaysCardSaid : Prop := Claim7.holds Tryz.pinned (.plain (OpenSpec.ofChange seglogPlaysSpec)) seglogPlaysCard

/-- THE TIED CARD OF 'rubriclaw05.ManifestPlays'. -/
def manifestPlaysCard : Claim7 := { stood := { row := manifestPlaysRow, standIns := [], harness := (true, "b687adccdc49a17c1b80c3226eae3e822ef5c379986e58845dd187cb53792c24"), looks := true }, kinds := [], alts := [], laidByText := true, laidKinds := [.data, .data, .data, .data, .sentinel, .sentinel, .pinned], laidTests := true, laidLooks := .later }
def ManifestPlaysCardSaid : Prop := Claim7.holds Tryz.pinned (.plain (OpenSpec.ofChange manifestPlaysSpec)) manifestPlaysCard

/-- THE TIED CARD OF 'rubriclaw05.ManifestBytes'. -/
def manifestBytesCard : Claim7 := { stood := { row := manifestBytesRow, standIns := [], harness := (true, "b687adccdc49a17c1b80c3226eae3e822ef5c379986e58845dd187cb53792c24"), looks := true }, kinds := [], alts := [], laidByText := true, laidKinds := [.data, .data, .data, .data, .sentinel, .sentinel, .pinned], laidTests := true, laidLooks := .later }
def ManifestBytesCardSaid : Prop := Claim7.holds Tryz.pinned (.plain (OpenSpec.ofChange manifestBytesSpec)) manifestBytesCard

/-- THE TIED CARD OF 'rubriclaw05.ManifestSwaps'. -/
def manifestSwapsCard : Claim7 := { stood := { row := manifestSwapsRow, standIns := [], harness := (true, "b687adccdc49a17c1b80c3226eae3e822ef5c379986e58845dd187cb53792c24"), looks := true }, kinds := [], alts := [], laidByText := true, laidKinds := [.data, .data, .data, .data, .sentinel, .sentinel, .pinned], laidTests := true, laidLooks := .later }
def ManifestSwapsCardSaid : Prop := Claim7.holds Tryz.pinned (.plain (OpenSpec.ofChange manifestSwapsSpec)) manifestSwapsCard

/-- THE TIED CARD OF 'rubriclaw05.ManifestCleans'. -/
def manifestCleansCard : Claim7 := { stood := { row := manifestCleansRow, standIns := [], harness := (true, "b687adccdc49a17c1b80c3226eae3e822ef5c379986e58845dd187cb53792c24"), looks := true }, kinds := [], alts := [], laidByText := true, laidKinds := [.data, .data, .data, .data, .sentinel, .sentinel, .pinned], laidTests := true, laidLooks := .later }
def ManifestCleansCardSaid : Prop := Claim7.holds Tryz.pinned (.plain (OpenSpec.ofChange manifestCleansSpec)) manifestCleansCard

/-- THE TIED CARD OF 'rubriclaw05.ManifestLast'. -/
def manifestLastCard : Claim7 := { stood := { row := manifestLastRow, standIns := [], harness := (true, "b687adccdc49a17c1b80c3226eae3e822ef5c379986e58845dd187cb53792c24"), looks := true }, kinds := [], alts := [], laidByText := true, laidKinds := [.data, .data, .data, .data, .sentinel, .sentinel, .pinned], laidTests := true, laidLooks := .later }
def ManifestLastCardSaid : Prop := Claim7.holds Tryz.pinned (.plain (OpenSpec.ofChange manifestLastSpec)) manifestLastCard

/-- THE SECOND FORM's CARD OF 'rubriclaw04.SeglogPlays'. -/
def seglogPlaysUptoCard : Claim7 := { stood := { row := seglogPlaysUptoRow, standIns := [], harness := (true, "b687adccdc49a17c1b80c3226eae3e822ef5c379986e58845dd187cb53792c24"), looks := true }, kinds := [], alts := [], laidByText := true, laidKinds := [.data, .data, .data, .sentinel, .sentinel], laidTests := true, laidLooks := .later }
def SeglogPlaysUptoCardSaid : Prop := Claim7.holds Tryz.pinned (.plain (OpenSpec.upto seglogPlaysSpec)) seglogPlaysUptoCard

/-- THE SECOND FORM's CARD OF 'rubriclaw05.ManifestPlays'. -/
def manifestPlaysUptoCard : Claim7 := { stood := { row := manifestPlaysUptoRow, standIns := [], harness := (true, "b687adccdc49a17c1b80c3226eae3e822ef5c379986e58845dd187cb53792c24"), looks := true }, kinds := [], alts := [], laidByText := true, laidKinds := [.data, .data, .data, .data, .sentinel, .sentinel, .pinned], laidTests := true, laidLooks := .later }
def ManifestPlaysUptoCardSaid : Prop := Claim7.holds Tryz.pinned (.plain (OpenSpec.upto manifestPlaysSpec)) manifestPlaysUptoCard

/-- THE SECOND FORM's CARD OF 'rubriclaw05.ManifestBytes'. -/
def manifestBytesUptoCard : Claim7 := { stood := { row := manifestBytesUptoRow, standIns := [], harness := (true, "b687adccdc49a17c1b80c3226eae3e822ef5c379986e58845dd187cb53792c24"), looks := true }, kinds := [], alts := [], laidByText := true, laidKinds := [.data, .data, .data, .data, .sentinel, .sentinel, .pinned], laidTests := true, laidLooks := .later }
def ManifestBytesUptoCardSaid : Prop := Claim7.holds Tryz.pinned (.plain (OpenSpec.upto manifestBytesSpec)) manifestBytesUptoCard

/-- THE SECOND FORM's CARD OF 'rubriclaw05.ManifestSwaps'. -/
def manifestSwapsUptoCard : Claim7 := { stood := { row := manifestSwapsUptoRow, standIns := [], harness := (true, "b687adccdc49a17c1b80c3226eae3e822ef5c379986e58845dd187cb53792c24"), looks := true }, kinds := [], alts := [], laidByText := true, laidKinds := [.data, .data, .data, .data, .sentinel, .sentinel, .pinned], laidTests := true, laidLooks := .later }
def ManifestSwapsUptoCardSaid : Prop := Claim7.holds Tryz.pinned (.plain (OpenSpec.upto manifestSwapsSpec)) manifestSwapsUptoCard

/-- THE SECOND FORM's CARD OF 'rubriclaw05.ManifestCleans'. -/
def manifestCleansUptoCard : Claim7 := { stood := { row := manifestCleansUptoRow, standIns := [], harness := (true, "b687adccdc49a17c1b80c3226eae3e822ef5c379986e58845dd187cb53792c24"), looks := true }, kinds := [], alts := [], laidByText := true, laidKinds := [.data, .data, .data, .data, .sentinel, .sentinel, .pinned], laidTests := true, laidLooks := .later }
def ManifestCleansUptoCardSaid : Prop := Claim7.holds Tryz.pinned (.plain (OpenSpec.upto manifestCleansSpec)) manifestCleansUptoCard

/-- THE SECOND FORM's CARD OF 'rubriclaw05.ManifestLast'. -/
def manifestLastUptoCard : Claim7 := { stood := { row := manifestLastUptoRow, standIns := [], harness := (true, "b687adccdc49a17c1b80c3226eae3e822ef5c379986e58845dd187cb53792c24"), looks := true }, kinds := [], alts := [], laidByText := true, laidKinds := [.data, .data, .data, .data, .sentinel, .sentinel, .pinned], laidTests := true, laidLooks := .later }
def ManifestLastUptoCardSaid : Prop := Claim7.holds Tryz.pinned (.plain (OpenSpec.upto manifestLastSpec)) manifestLastUptoCard
end Rows
end Go.Proofs.YtigbgajelkknbaaGreatDoor
