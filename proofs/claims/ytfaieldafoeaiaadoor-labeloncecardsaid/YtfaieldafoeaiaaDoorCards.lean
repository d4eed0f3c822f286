/-
  DERIVED. GIVEN WITH THE SEED: THE CARDS: each row of YtfaieldafoeaiaaDoorRows.lean that lists a variable, with what it lists TIED to the program's text (the seventh form; the later family's looks); each row that meets fmt, with fmt's text TOLD by the authors' own Lean function (tested against real Go, not proved from fmt's source: count such statements apart). THE CARD IS WHAT COUNTS. Prove the row's statement (the work); the ties are given (YtfaieldafoeaiaaDoorTie.lean); close each card by the builder's one call (the guide's Derived/Test/ToyasCard.lean, 'card_holds'). Laid BY PROGRAM, IN A SANDBOX (cutbox-door.mjs). By AI agents, Wed Nov 11 2026. No macro, syntax, notation, axiom, sorry.
-/
import Derived.Test.YtfaieldafoeaiaaDoorRows
import GoSem.ClaimSeven
namespace Go.Proofs.YtfaieldafoeaiaaDoor
namespace Rows

/-- THE TIED CARD OF 'gatepostlaw06.LabelOnce'. -/
def labelOnceCard : Claim7 := { stood := { row := labelOnceRow, standIns := [], harness := (true, "b9c551cf1724825029d13eec428c8bd8b22cccb417f0890fbaf7d3c289013c08"), looks := true }, kinds := [], alts := [], laidByText := true, laidKinds := [.data, .data, .data, .data], laidTests := true, laidLooks := .later }
def LabelOnceCardSaid : Prop := Claim7.holds Tryd.pinned (.plain (OpenSpec.ofChange labelOnceSpec)) labelOnceCard

/-- THE TIED CARD OF 'gatepostlaw06.LabelParts'. -/
def labelPartsCard : Claim7 := { stood := { row := labelPartsRow, standIns := [], harness := (true, "b9c551cf1724825029d13eec428c8bd8b22cccb417f0890fbaf7d3c289013c08"), looks := true }, kinds := [], alts := [], laidByText := true, laidKinds := [.handle, .data, .data, .data, .data], laidTests := true, laidLooks := .later }
def LabelPartsCardSaid : Prop := Claim7.holds Tryd.pinned (.plain (OpenSpec.ofChange labelPartsSpec)) labelPartsCard

/-- THE SECOND FORM's CARD OF 'gatepostlaw06.LabelOnce'. -/
def labelOnceUptoCard : Claim7 := { stood := { row := labelOnceUptoRow, standIns := [], harness := (true, "b9c551cf1724825029d13eec428c8bd8b22cccb417f0890fbaf7d3c289013c08"), looks := true }, kinds := [], alts := [], laidByText := true, laidKinds := [.data, .data, .data, .data], laidTests := true, laidLooks := .later }
def LabelOnceUptoCardSaid : Prop := Claim7.holds Tryd.pinned (.plain (OpenSpec.upto labelOnceSpec)) labelOnceUptoCard

/-- THE SECOND FORM's CARD OF 'gatepostlaw06.LabelParts'. -/
def labelPartsUptoCard : Claim7 := { stood := { row := labelPartsUptoRow, standIns := [], harness := (true, "b9c551cf1724825029d13eec428c8bd8b22cccb417f0890fbaf7d3c289013c08"), looks := true }, kinds := [], alts := [], laidByText := true, laidKinds := [.handle, .data, .data, .data, .data], laidTests := true, laidLooks := .later }
def LabelPartsUptoCardSaid : Prop := Claim7.holds Tryd.pinned (.plain (OpenSpec.upto labelPartsSpec)) labelPartsUptoCard
end Rows
end Go.Proofs.YtfaieldafoeaiaaDoor
