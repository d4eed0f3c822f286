/-
  DERIVED. GIVEN WITH THE SEED: THE CARDS: each row of YtliklhldlofnjaaDoorRows.lean that lists a variable, with what it lists TIED to the program's text (the seventh form; the later family's looks); each row that meets fmt, with fmt's text TOLD by the authors' own Lean function (tested against real Go, not proved from fmt's source: count such statements apart). THE CARD IS WHAT COUNTS. Prove the row's statement (the work); the ties are given (YtliklhldlofnjaaDoorTie.lean); close each card by the builder's one call (the guide's Derived/Test/ToyasCard.lean, 'card_holds'). Laid BY PROGRAM, IN A SANDBOX (cutbox-door.mjs). By AI agents, Wed Nov 11 2026. No macro, syntax, notation, axiom, sorry.
-/
import Derived.Test.YtliklhldlofnjaaDoorRows
import GoSem.ClaimSeven
namespace Go.Proofs.YtliklhldlofnjaaDoor
namespace Rows

/-- THE TIED CARD OF 'gatepostlaw12.RecordTexts'. -/
def recordTextsCard : Claim7 := { stood := { row := recordTextsRow, standIns := [], harness := (true, "634e3d0695f36d6f641f6a4c2ec8bbc8865444abffeacc41d85ccb2eddff2c42"), looks := false }, kinds := [], alts := [], laidByText := true, laidKinds := [.data, .data, .data], laidTests := true, laidLooks := .later }
def RecordTextsCardSaid : Prop := Claim7.holds Tryd.pinned (.plain (OpenSpec.ofChange recordTextsSpec)) recordTextsCard

/-- THE TIED CARD OF 'gatepostlaw12.RecordSame'. -/
def recordSameCard : Claim7 := { stood := { row := recordSameRow, standIns := [], harness := (true, "634e3d0695f36d6f641f6a4c2ec8bbc8865444abffeacc41d85ccb2eddff2c42"), looks := false }, kinds := [], alts := [], laidByText := true, laidKinds := [.data, .data, .data], laidTests := true, laidLooks := .later }
def RecordSameCardSaid : Prop := Claim7.holds Tryd.pinned (.plain (OpenSpec.ofChange recordSameSpec)) recordSameCard

/-- THE TIED CARD OF 'gatepostlaw12.RecordOne'. -/
def recordOneCard : Claim7 := { stood := { row := recordOneRow, standIns := [], harness := (true, "634e3d0695f36d6f641f6a4c2ec8bbc8865444abffeacc41d85ccb2eddff2c42"), looks := false }, kinds := [], alts := [], laidByText := true, laidKinds := [.data, .data, .data], laidTests := true, laidLooks := .later }
def RecordOneCardSaid : Prop := Claim7.holds Tryd.pinned (.plain (OpenSpec.ofChange recordOneSpec)) recordOneCard

/-- THE TIED CARD OF 'gatepostlaw12.RecordBare'. -/
def recordBareCard : Claim7 := { stood := { row := recordBareRow, standIns := [], harness := (true, "634e3d0695f36d6f641f6a4c2ec8bbc8865444abffeacc41d85ccb2eddff2c42"), looks := false }, kinds := [], alts := [], laidByText := true, laidKinds := [.data, .data, .data], laidTests := true, laidLooks := .later }
def RecordBareCardSaid : Prop := Claim7.holds Tryd.pinned (.plain (OpenSpec.ofChange recordBareSpec)) recordBareCard

/-- THE TIED CARD OF 'gatepostlaw12.RecordNew'. -/
def recordNewCard : Claim7 := { stood := { row := recordNewRow, standIns := [], harness := (true, "634e3d0695f36d6f641f6a4c2ec8bbc8865444abffeacc41d85ccb2eddff2c42"), looks := false }, kinds := [], alts := [], laidByText := true, laidKinds := [.data, .data, .data], laidTests := true, laidLooks := .later }
def RecordNewCardSaid : Prop := Claim7.holds Tryd.pinned (.plain (OpenSpec.ofChange recordNewSpec)) recordNewCard

/-- THE SECOND FORM's CARD OF 'gatepostlaw12.RecordTexts'. -/
def recordTextsUptoCard : Claim7 := { stood := { row := recordTextsUptoRow, standIns := [], harness := (true, "634e3d0695f36d6f641f6a4c2ec8bbc8865444abffeacc41d85ccb2eddff2c42"), looks := false }, kinds := [], alts := [], laidByText := true, laidKinds := [.data, .data, .data], laidTests := true, laidLooks := .later }
def RecordTextsUptoCardSaid : Prop := Claim7.holds Tryd.pinned (.plain (OpenSpec.upto recordTextsSpec)) recordTextsUptoCard

/-- THE SECOND FORM's CARD OF 'gatepostlaw12.RecordSame'. -/
def recordSameUptoCard : Claim7 := { stood := { row := recordSameUptoRow, standIns := [], harness := (true, "634e3d0695f36d6f641f6a4c2ec8bbc8865444abffeacc41d85ccb2eddff2c42"), looks := false }, kinds := [], alts := [], laidByText := true, laidKinds := [.data, .data, .data], laidTests := true, laidLooks := .later }
def RecordSameUptoCardSaid : Prop := Claim7.holds Tryd.pinned (.plain (OpenSpec.upto recordSameSpec)) recordSameUptoCard

/-- THE SECOND FORM's CARD OF 'gatepostlaw12.RecordOne'. -/
def recordOneUptoCard : Claim7 := { stood := { row := recordOneUptoRow, standIns := [], harness := (true, "634e3d0695f36d6f641f6a4c2ec8bbc8865444abffeacc41d85ccb2eddff2c42"), looks := false }, kinds := [], alts := [], laidByText := true, laidKinds := [.data, .data, .data], laidTests := true, laidLooks := .later }
def RecordOneUptoCardSaid : Prop := Claim7.holds Tryd.pinned (.plain (OpenSpec.upto recordOneSpec)) recordOneUptoCard

/-- THE SECOND FORM's CARD OF 'gatepostlaw12.RecordBare'. -/
def recordBareUptoCard : Claim7 := { stood := { row := recordBareUptoRow, standIns := [], harness := (true, "634e3d0695f36d6f641f6a4c2ec8bbc8865444abffeacc41d85ccb2eddff2c42"), looks := false }, kinds := [], alts := [], laidByText := true, laidKinds := [.data, .data, .data], laidTests := true, laidLooks := .later }
def RecordBareUptoCardSaid : Prop := Claim7.holds Tryd.pinned (.plain (OpenSpec.upto recordBareSpec)) recordBareUptoCard

/-- THE SECOND FORM's CARD OF 'gatepostlaw12.RecordNew'. -/
def recordNewUptoCard : Claim7 := { stood := { row := recordNewUptoRow, standIns := [], harness := (true, "634e3d0695f36d6f641f6a4c2ec8bbc8865444abffeacc41d85ccb2eddff2c42"), looks := false }, kinds := [], alts := [], laidByText := true, laidKinds := [.data, .data, .data], laidTests := true, laidLooks := .later }
def RecordNewUptoCardSaid : Prop := Claim7.holds Tryd.pinned (.plain (OpenSpec.upto recordNewSpec)) recordNewUptoCard
end Rows
end Go.Proofs.YtliklhldlofnjaaDoor
