/-
  DERIVED. GIVEN WITH THE SEED: THE CARDS: each row of YtjhppkbaidcliaaDoorRows.lean that lists a variable, with what it lists TIED to the program's text (the seventh form; the later family's looks); each row that meets fmt, with fmt's text TOLD by the authors' own Lean function (tested against real Go, not proved from fmt's source: count such statements apart). THE CARD IS WHAT COUNTS. Prove the row's statement (the work); the ties are given (YtjhppkbaidcliaaDoorTie.lean); close each card by the builder's one call (the guide's Derived/Test/ToyasCard.lean, 'card_holds'). Laid BY PROGRAM, IN A SANDBOX (cutbox-door.mjs). By AI agents, Wed Nov 11 2026. No macro, syntax, notation, axiom, sorry.
-/
import Derived.Test.YtjhppkbaidcliaaDoorRows
import GoSem.ClaimSeven
namespace Go.Proofs.YtjhppkbaidcliaaDoor
namespace Rows

/-- THE TIED CARD OF 'gatepostlaw05.FoldMaps'. -/
def foldMapsCard : Claim7 := { stood := { row := foldMapsRow, standIns := [], harness := (true, "2f86f1ae7a71abf3bf8ce98d12117d0a5339f755a0e9ad85d46c5be401a4af14"), looks := true }, kinds := [], alts := [], laidByText := true, laidKinds := [.data, .data, .data, .data], laidTests := true, laidLooks := .later }
def FoldMapsCardSaid : Prop := Claim7.holds Tryd.pinned (.plain (OpenSpec.ofChange foldMapsSpec)) foldMapsCard

/-- THE TIED CARD OF 'gatepostlaw05.FoldFolds'. -/
def foldFoldsCard : Claim7 := { stood := { row := foldFoldsRow, standIns := [], harness := (true, "2f86f1ae7a71abf3bf8ce98d12117d0a5339f755a0e9ad85d46c5be401a4af14"), looks := true }, kinds := [], alts := [], laidByText := true, laidKinds := [.handle, .data, .data, .data, .data], laidTests := true, laidLooks := .later }
def FoldFoldsCardSaid : Prop := Claim7.holds Tryd.pinned (.plain (OpenSpec.ofChange foldFoldsSpec)) foldFoldsCard

/-- THE TIED CARD OF 'gatepostlaw05.FoldOnce'. -/
def foldOnceCard : Claim7 := { stood := { row := foldOnceRow, standIns := [], harness := (true, "2f86f1ae7a71abf3bf8ce98d12117d0a5339f755a0e9ad85d46c5be401a4af14"), looks := true }, kinds := [], alts := [], laidByText := true, laidKinds := [.data, .data, .data, .data], laidTests := true, laidLooks := .later }
def FoldOnceCardSaid : Prop := Claim7.holds Tryd.pinned (.plain (OpenSpec.ofChange foldOnceSpec)) foldOnceCard

/-- THE TIED CARD OF 'gatepostlaw05.FoldCapitals'. -/
def foldCapitalsCard : Claim7 := { stood := { row := foldCapitalsRow, standIns := [], harness := (true, "2f86f1ae7a71abf3bf8ce98d12117d0a5339f755a0e9ad85d46c5be401a4af14"), looks := true }, kinds := [], alts := [], laidByText := true, laidKinds := [.data, .data, .data, .data], laidTests := true, laidLooks := .later }
def FoldCapitalsCardSaid : Prop := Claim7.holds Tryd.pinned (.plain (OpenSpec.ofChange foldCapitalsSpec)) foldCapitalsCard

/-- THE TIED CARD OF 'gatepostlaw05.FoldJoins'. -/
def foldJoinsCard : Claim7 := { stood := { row := foldJoinsRow, standIns := [], harness := (true, "2f86f1ae7a71abf3bf8ce98d12117d0a5339f755a0e9ad85d46c5be401a4af14"), looks := true }, kinds := [], alts := [], laidByText := true, laidKinds := [.data, .data, .data, .data], laidTests := true, laidLooks := .later }
def FoldJoinsCardSaid : Prop := Claim7.holds Tryd.pinned (.plain (OpenSpec.ofChange foldJoinsSpec)) foldJoinsCard

/-- THE SECOND FORM's CARD OF 'gatepostlaw05.FoldMaps'. -/
def foldMapsUptoCard : Claim7 := { stood := { row := foldMapsUptoRow, standIns := [], harness := (true, "2f86f1ae7a71abf3bf8ce98d12117d0a5339f755a0e9ad85d46c5be401a4af14"), looks := true }, kinds := [], alts := [], laidByText := true, laidKinds := [.data, .data, .data, .data], laidTests := true, laidLooks := .later }
def FoldMapsUptoCardSaid : Prop := Claim7.holds Tryd.pinned (.plain (OpenSpec.upto foldMapsSpec)) foldMapsUptoCard

/-- THE SECOND FORM's CARD OF 'gatepostlaw05.FoldFolds'. -/
def foldFoldsUptoCard : Claim7 := { stood := { row := foldFoldsUptoRow, standIns := [], harness := (true, "2f86f1ae7a71abf3bf8ce98d12117d0a5339f755a0e9ad85d46c5be401a4af14"), looks := true }, kinds := [], alts := [], laidByText := true, laidKinds := [.handle, .data, .data, .data, .data], laidTests := true, laidLooks := .later }
def FoldFoldsUptoCardSaid : Prop := Claim7.holds Tryd.pinned (.plain (OpenSpec.upto foldFoldsSpec)) foldFoldsUptoCard

/-- THE SECOND FORM's CARD OF 'gatepostlaw05.FoldOnce'. -/
def foldOnceUptoCard : Claim7 := { stood := { row := foldOnceUptoRow, standIns := [], harness := (true, "2f86f1ae7a71abf3bf8ce98d12117d0a5339f755a0e9ad85d46c5be401a4af14"), looks := true }, kinds := [], alts := [], laidByText := true, laidKinds := [.data, .data, .data, .data], laidTests := true, laidLooks := .later }
def FoldOnceUptoCardSaid : Prop := Claim7.holds Tryd.pinned (.plain (OpenSpec.upto foldOnceSpec)) foldOnceUptoCard

/-- THE SECOND FORM's CARD OF 'gatepostlaw05.FoldCapitals'. -/
def foldCapitalsUptoCard : Claim7 := { stood := { row := foldCapitalsUptoRow, standIns := [], harness := (true, "2f86f1ae7a71abf3bf8ce98d12117d0a5339f755a0e9ad85d46c5be401a4af14"), looks := true }, kinds := [], alts := [], laidByText := true, laidKinds := [.data, .data, .data, .data], laidTests := true, laidLooks := .later }
def FoldCapitalsUptoCardSaid : Prop := Claim7.holds Tryd.pinned (.plain (OpenSpec.upto foldCapitalsSpec)) foldCapitalsUptoCard

/-- THE SECOND FORM's CARD OF 'gatepostlaw05.FoldJoins'. -/
def foldJoinsUptoCard : Claim7 := { stood := { row := foldJoinsUptoRow, standIns := [], harness := (true, "2f86f1ae7a71abf3bf8ce98d12117d0a5339f755a0e9ad85d46c5be401a4af14"), looks := true }, kinds := [], alts := [], laidByText := true, laidKinds := [.data, .data, .data, .data], laidTests := true, laidLooks := .later }
def FoldJoinsUptoCardSaid : Prop := Claim7.holds Tryd.pinned (.plain (OpenSpec.upto foldJoinsSpec)) foldJoinsUptoCard
end Rows
end Go.Proofs.YtjhppkbaidcliaaDoor
