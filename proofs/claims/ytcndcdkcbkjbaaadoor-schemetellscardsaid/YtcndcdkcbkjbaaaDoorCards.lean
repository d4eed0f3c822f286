/-
  DERIVED. GIVEN WITH THE SEED: THE CARDS: each row of YtcndcdkcbkjbaaaDoorRows.lean that lists a variable, with what it lists TIED to the program's text (the seventh form; the later family's looks); each row that meets fmt, with fmt's text TOLD by the authors' own Lean function (tested against real Go, not proved from fmt's source: count such statements apart). THE CARD IS WHAT COUNTS. Prove the row's statement (the work); the ties are given (YtcndcdkcbkjbaaaDoorTie.lean); close each card by the builder's one call (the guide's Derived/Test/ToyasCard.lean, 'card_holds'). Laid BY PROGRAM, IN A SANDBOX (cutbox-door.mjs). By AI agents, Wed Nov 11 2026. No macro, syntax, notation, axiom, sorry.
-/
import Derived.Test.YtcndcdkcbkjbaaaDoorRows
import GoSem.ClaimSeven
namespace Go.Proofs.YtcndcdkcbkjbaaaDoor
namespace Rows

/-- THE TIED CARD OF 'gatepostlaw10.SchemeTells'. -/
def schemeTellsCard : Claim7 := { stood := { row := schemeTellsRow, standIns := [], harness := (true, "3e232b0d9a4181ab2a4b7c5e42ab3927e006b714e74ad7c73ef76f12d1de3c37"), looks := true }, kinds := [], alts := [], laidByText := true, laidKinds := [.data, .pinned, .pinned], laidTests := true, laidLooks := .later }
def SchemeTellsCardSaid : Prop := Claim7.holds Tryd.pinned (.plain (OpenSpec.ofChange schemeTellsSpec)) schemeTellsCard

/-- THE TIED CARD OF 'gatepostlaw10.SchemeCuts'. -/
def schemeCutsCard : Claim7 := { stood := { row := schemeCutsRow, standIns := [], harness := (true, "3e232b0d9a4181ab2a4b7c5e42ab3927e006b714e74ad7c73ef76f12d1de3c37"), looks := true }, kinds := [], alts := [], laidByText := true, laidKinds := [.data, .pinned, .pinned], laidTests := true, laidLooks := .later }
def SchemeCutsCardSaid : Prop := Claim7.holds Tryd.pinned (.plain (OpenSpec.ofChange schemeCutsSpec)) schemeCutsCard

/-- THE TIED CARD OF 'gatepostlaw10.SchemePorts'. -/
def schemePortsCard : Claim7 := { stood := { row := schemePortsRow, standIns := [], harness := (true, "3e232b0d9a4181ab2a4b7c5e42ab3927e006b714e74ad7c73ef76f12d1de3c37"), looks := true }, kinds := [], alts := [], laidByText := true, laidKinds := [.data, .handle, .pinned, .pinned], laidTests := true, laidLooks := .later }
def SchemePortsCardSaid : Prop := Claim7.holds Tryd.pinned (.plain (OpenSpec.ofChange schemePortsSpec)) schemePortsCard

/-- THE TIED CARD OF 'gatepostlaw10.SchemeBack'. -/
def schemeBackCard : Claim7 := { stood := { row := schemeBackRow, standIns := [], harness := (true, "3e232b0d9a4181ab2a4b7c5e42ab3927e006b714e74ad7c73ef76f12d1de3c37"), looks := true }, kinds := [], alts := [], laidByText := true, laidKinds := [.data, .pinned, .pinned], laidTests := true, laidLooks := .later }
def SchemeBackCardSaid : Prop := Claim7.holds Tryd.pinned (.plain (OpenSpec.ofChange schemeBackSpec)) schemeBackCard

/-- THE TIED CARD OF 'gatepostlaw10.SchemeNumbers'. -/
def schemeNumbersCard : Claim7 := { stood := { row := schemeNumbersRow, standIns := [], harness := (true, "3e232b0d9a4181ab2a4b7c5e42ab3927e006b714e74ad7c73ef76f12d1de3c37"), looks := true }, kinds := [], alts := [], laidByText := true, laidKinds := [.data, .pinned, .pinned], laidTests := true, laidLooks := .later }
def SchemeNumbersCardSaid : Prop := Claim7.holds Tryd.pinned (.plain (OpenSpec.ofChange schemeNumbersSpec)) schemeNumbersCard

/-- THE SECOND FORM's CARD OF 'gatepostlaw10.SchemeTells'. -/
def schemeTellsUptoCard : Claim7 := { stood := { row := schemeTellsUptoRow, standIns := [], harness := (true, "3e232b0d9a4181ab2a4b7c5e42ab3927e006b714e74ad7c73ef76f12d1de3c37"), looks := true }, kinds := [], alts := [], laidByText := true, laidKinds := [.data, .pinned, .pinned], laidTests := true, laidLooks := .later }
def SchemeTellsUptoCardSaid : Prop := Claim7.holds Tryd.pinned (.plain (OpenSpec.upto schemeTellsSpec)) schemeTellsUptoCard

/-- THE SECOND FORM's CARD OF 'gatepostlaw10.SchemeCuts'. -/
def schemeCutsUptoCard : Claim7 := { stood := { row := schemeCutsUptoRow, standIns := [], harness := (true, "3e232b0d9a4181ab2a4b7c5e42ab3927e006b714e74ad7c73ef76f12d1de3c37"), looks := true }, kinds := [], alts := [], laidByText := true, laidKinds := [.data, .pinned, .pinned], laidTests := true, laidLooks := .later }
def SchemeCutsUptoCardSaid : Prop := Claim7.holds Tryd.pinned (.plain (OpenSpec.upto schemeCutsSpec)) schemeCutsUptoCard

/-- THE SECOND FORM's CARD OF 'gatepostlaw10.SchemePorts'. -/
def schemePortsUptoCard : Claim7 := { stood := { row := schemePortsUptoRow, standIns := [], harness := (true, "3e232b0d9a4181ab2a4b7c5e42ab3927e006b714e74ad7c73ef76f12d1de3c37"), looks := true }, kinds := [], alts := [], laidByText := true, laidKinds := [.data, .handle, .pinned, .pinned], laidTests := true, laidLooks := .later }
def SchemePortsUptoCardSaid : Prop := Claim7.holds Tryd.pinned (.plain (OpenSpec.upto schemePortsSpec)) schemePortsUptoCard

/-- THE SECOND FORM's CARD OF 'gatepostlaw10.SchemeBack'. -/
def schemeBackUptoCard : Claim7 := { stood := { row := schemeBackUptoRow, standIns := [], harness := (true, "3e232b0d9a4181ab2a4b7c5e42ab3927e006b714e74ad7c73ef76f12d1de3c37"), looks := true }, kinds := [], alts := [], laidByText := true, laidKinds := [.data, .pinned, .pinned], laidTests := true, laidLooks := .later }
def SchemeBackUptoCardSaid : Prop := Claim7.holds Tryd.pinned (.plain (OpenSpec.upto schemeBackSpec)) schemeBackUptoCard

/-- THE SECOND FORM's CARD OF 'gatepostlaw10.SchemeNumbers'. -/
def schemeNumbersUptoCard : Claim7 := { stood := { row := schemeNumbersUptoRow, standIns := [], harness := (true, "3e232b0d9a4181ab2a4b7c5e42ab3927e006b714e74ad7c73ef76f12d1de3c37"), looks := true }, kinds := [], alts := [], laidByText := true, laidKinds := [.data, .pinned, .pinned], laidTests := true, laidLooks := .later }
def SchemeNumbersUptoCardSaid : Prop := Claim7.holds Tryd.pinned (.plain (OpenSpec.upto schemeNumbersSpec)) schemeNumbersUptoCard
end Rows
end Go.Proofs.YtcndcdkcbkjbaaaDoor
