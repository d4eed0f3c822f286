/-
  DERIVED. GIVEN WITH THE SEED: THE CARDS: each row of YtfaieldafoeaiaaGreatDoorRows.lean that lists a variable, with what it lists TIED to the program's text (the seventh form; the later family's looks); each row that meets fmt, with fmt's text TOLD by the authors' own Lean function (tested against real Go, not proved from fmt's source: count such statements apart). THE CARD IS WHAT COUNTS. Prove the row's statement (the work); the ties are given (YtfaieldafoeaiaaGreatDoorTie.lean); close each card by the builder's one call (the guide's Derived/Test/ToyasCard.lean, 'card_holds'). Laid BY PROGRAM, IN A SANDBOX (cutbox-door.mjs). By AI agents, Wed Nov 11 2026. No macro, syntax, notation, axiom, sorry.
-/
import Derived.Test.YtfaieldafoeaiaaGreatDoorRows
import GoSem.ClaimSeven
namespace Go.Proofs.YtfaieldafoeaiaaGreatDoor
namespace Rows

/-- THE TIED CARD OF 'gatepostlaw06.LabelOne'. -/
def labelOneCard : Claim7 := { stood := { row := labelOneRow, standIns := [], harness := (true, "7a94d53b164e5eed5df1c5b33f13e4f09123d36b16b060d2d32dbe8c1e03c3d0"), looks := true }, kinds := [], alts := [], laidByText := true, laidKinds := [.handle, .data, .data, .data, .data], laidTests := true, laidLooks := .later }
def LabelOneCardSaid : Prop := Claim7.holds Tryz.pinned (.plain (OpenSpec.ofChange labelOneSpec)) labelOneCard

/-- THE TIED CARD OF 'gatepostlaw06.LabelAll'. -/
def labelAllCard : Claim7 := { stood := { row := labelAllRow, standIns := [], harness := (true, "7a94d53b164e5eed5df1c5b33f13e4f09123d36b16b060d2d32dbe8c1e03c3d0"), looks := true }, kinds := [], alts := [], laidByText := true, laidKinds := [.handle, .data, .data, .data, .data], laidTests := true, laidLooks := .later }
def LabelAllCardSaid : Prop := Claim7.holds Tryz.pinned (.plain (OpenSpec.ofChange labelAllSpec)) labelAllCard

/-- THE TIED CARD OF 'gatepostlaw06.LabelFolds'. -/
def labelFoldsCard : Claim7 := { stood := { row := labelFoldsRow, standIns := [], harness := (true, "7a94d53b164e5eed5df1c5b33f13e4f09123d36b16b060d2d32dbe8c1e03c3d0"), looks := true }, kinds := [], alts := [], laidByText := true, laidKinds := [.handle, .data, .data, .data, .data], laidTests := true, laidLooks := .later }
def LabelFoldsCardSaid : Prop := Claim7.holds Tryz.pinned (.plain (OpenSpec.ofChange labelFoldsSpec)) labelFoldsCard

/-- THE SECOND FORM's CARD OF 'gatepostlaw06.LabelOne'. -/
def labelOneUptoCard : Claim7 := { stood := { row := labelOneUptoRow, standIns := [], harness := (true, "7a94d53b164e5eed5df1c5b33f13e4f09123d36b16b060d2d32dbe8c1e03c3d0"), looks := true }, kinds := [], alts := [], laidByText := true, laidKinds := [.handle, .data, .data, .data, .data], laidTests := true, laidLooks := .later }
def LabelOneUptoCardSaid : Prop := Claim7.holds Tryz.pinned (.plain (OpenSpec.upto labelOneSpec)) labelOneUptoCard

/-- THE SECOND FORM's CARD OF 'gatepostlaw06.LabelAll'. -/
def labelAllUptoCard : Claim7 := { stood := { row := labelAllUptoRow, standIns := [], harness := (true, "7a94d53b164e5eed5df1c5b33f13e4f09123d36b16b060d2d32dbe8c1e03c3d0"), looks := true }, kinds := [], alts := [], laidByText := true, laidKinds := [.handle, .data, .data, .data, .data], laidTests := true, laidLooks := .later }
def LabelAllUptoCardSaid : Prop := Claim7.holds Tryz.pinned (.plain (OpenSpec.upto labelAllSpec)) labelAllUptoCard

/-- THE SECOND FORM's CARD OF 'gatepostlaw06.LabelFolds'. -/
def labelFoldsUptoCard : Claim7 := { stood := { row := labelFoldsUptoRow, standIns := [], harness := (true, "7a94d53b164e5eed5df1c5b33f13e4f09123d36b16b060d2d32dbe8c1e03c3d0"), looks := true }, kinds := [], alts := [], laidByText := true, laidKinds := [.handle, .data, .data, .data, .data], laidTests := true, laidLooks := .later }
def LabelFoldsUptoCardSaid : Prop := Claim7.holds Tryz.pinned (.plain (OpenSpec.upto labelFoldsSpec)) labelFoldsUptoCard
end Rows
end Go.Proofs.YtfaieldafoeaiaaGreatDoor
