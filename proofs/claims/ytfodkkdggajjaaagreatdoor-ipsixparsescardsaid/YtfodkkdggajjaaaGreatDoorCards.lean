/-
  DERIVED. GIVEN WITH THE SEED: THE CARDS: each row of YtfodkkdggajjaaaGreatDoorRows.lean that lists a variable, with what it lists TIED to the program's text (the seventh form; the later family's looks); each row that meets fmt, with fmt's text TOLD by the authors' own Lean function (tested against real Go, not proved from fmt's source: count such statements apart). THE CARD IS WHAT COUNTS. Prove the row's statement (the work); the ties are given (YtfodkkdggajjaaaGreatDoorTie.lean); close each card by the builder's one call (the guide's Derived/Test/ToyasCard.lean, 'card_holds'). Laid BY PROGRAM, IN A SANDBOX (cutbox-door.mjs). By AI agents, Wed Nov 11 2026. No macro, syntax, notation, axiom, sorry.
-/
import Derived.Test.YtfodkkdggajjaaaGreatDoorRows
import GoSem.ClaimSeven
namespace Go.Proofs.YtfodkkdggajjaaaGreatDoor
namespace Rows

/-- THE TIED CARD OF 'gatepostlaw08.IpsixParses'. -/
def ipsixParsesCard : Claim7 := { stood := { row := ipsixParsesRow, standIns := [], harness := (true, "50a6111a324318fb27a499cb576c666de6f01f36a9a5817881c697d830ce6d01"), looks := true }, kinds := [], alts := [], laidByText := true, laidKinds := [.data, .data, .data, .data, .handle, .sentinel, .sentinel, .pinned], laidTests := true, laidLooks := .later }
def IpsixParsesCardSaid : Prop := Claim7.holds Tryz.pinned (.plain (OpenSpec.ofChange ipsixParsesSpec)) ipsixParsesCard

/-- THE SECOND FORM's CARD OF 'gatepostlaw08.IpsixParses'. -/
def ipsixParsesUptoCard : Claim7 := { stood := { row := ipsixParsesUptoRow, standIns := [], harness := (true, "50a6111a324318fb27a499cb576c666de6f01f36a9a5817881c697d830ce6d01"), looks := true }, kinds := [], alts := [], laidByText := true, laidKinds := [.data, .data, .data, .data, .handle, .sentinel, .sentinel, .pinned], laidTests := true, laidLooks := .later }
def IpsixParsesUptoCardSaid : Prop := Claim7.holds Tryz.pinned (.plain (OpenSpec.upto ipsixParsesSpec)) ipsixParsesUptoCard
end Rows
end Go.Proofs.YtfodkkdggajjaaaGreatDoor
