/-
  DERIVED. GIVEN WITH THE SEED: THE CARDS: each row of YtbdedjokahopmaaDoorRows.lean that lists a variable, with what it lists TIED to the program's text (the seventh form; the later family's looks); each row that meets fmt, with fmt's text TOLD by the authors' own Lean function (tested against real Go, not proved from fmt's source: count such statements apart). THE CARD IS WHAT COUNTS. Prove the row's statement (the work); the ties are given (YtbdedjokahopmaaDoorTie.lean); close each card by the builder's one call (the guide's Derived/Test/ToyasCard.lean, 'card_holds'). Laid BY PROGRAM, IN A SANDBOX (cutbox-door.mjs). By AI agents, Wed Nov 11 2026. No macro, syntax, notation, axiom, sorry.
-/
import Derived.Test.YtbdedjokahopmaaDoorRows
import GoSem.ClaimSeven
namespace Go.Proofs.YtbdedjokahopmaaDoor
namespace Rows

/-- THE TIED CARD OF 'gatepostlaw07.IpfourParses'. -/
def ipfourParsesCard : Claim7 := { stood := { row := ipfourParsesRow, standIns := [], harness := (true, "661feee42014b0a8400a5448a56e576c1d8b98981461f8c0a2b45adf59717151"), looks := true }, kinds := [], alts := [], laidByText := true, laidKinds := [.data, .data, .data, .data, .handle, .pinned], laidTests := true, laidLooks := .later }
def IpfourParsesCardSaid : Prop := Claim7.holds Tryd.pinned (.plain (OpenSpec.ofChange ipfourParsesSpec)) ipfourParsesCard

/-- THE TIED CARD OF 'gatepostlaw07.IpfourTexts'. -/
def ipfourTextsCard : Claim7 := { stood := { row := ipfourTextsRow, standIns := [], harness := (true, "661feee42014b0a8400a5448a56e576c1d8b98981461f8c0a2b45adf59717151"), looks := true }, kinds := [], alts := [], laidByText := true, laidKinds := [.data, .data, .data, .data, .pinned], laidTests := true, laidLooks := .later }
def IpfourTextsCardSaid : Prop := Claim7.holds Tryd.pinned (.plain (OpenSpec.ofChange ipfourTextsSpec)) ipfourTextsCard

/-- THE TIED CARD OF 'gatepostlaw07.IpfourBack'. -/
def ipfourBackCard : Claim7 := { stood := { row := ipfourBackRow, standIns := [], harness := (true, "661feee42014b0a8400a5448a56e576c1d8b98981461f8c0a2b45adf59717151"), looks := true }, kinds := [], alts := [], laidByText := true, laidKinds := [.data, .data, .data, .data, .pinned], laidTests := true, laidLooks := .later }
def IpfourBackCardSaid : Prop := Claim7.holds Tryd.pinned (.plain (OpenSpec.ofChange ipfourBackSpec)) ipfourBackCard

/-- THE TIED CARD OF 'gatepostlaw07.IpfourEnds'. -/
def ipfourEndsCard : Claim7 := { stood := { row := ipfourEndsRow, standIns := [], harness := (true, "661feee42014b0a8400a5448a56e576c1d8b98981461f8c0a2b45adf59717151"), looks := true }, kinds := [], alts := [], laidByText := true, laidKinds := [.data, .data, .data, .data, .pinned], laidTests := true, laidLooks := .later }
def IpfourEndsCardSaid : Prop := Claim7.holds Tryd.pinned (.plain (OpenSpec.ofChange ipfourEndsSpec)) ipfourEndsCard

/-- THE TIED CARD OF 'gatepostlaw07.IpfourForms'. -/
def ipfourFormsCard : Claim7 := { stood := { row := ipfourFormsRow, standIns := [], harness := (true, "661feee42014b0a8400a5448a56e576c1d8b98981461f8c0a2b45adf59717151"), looks := true }, kinds := [], alts := [], laidByText := true, laidKinds := [.data, .data, .data, .data, .pinned], laidTests := true, laidLooks := .later }
def IpfourFormsCardSaid : Prop := Claim7.holds Tryd.pinned (.plain (OpenSpec.ofChange ipfourFormsSpec)) ipfourFormsCard

/-- THE SECOND FORM's CARD OF 'gatepostlaw07.IpfourParses'. -/
def ipfourParsesUptoCard : Claim7 := { stood := { row := ipfourParsesUptoRow, standIns := [], harness := (true, "661feee42014b0a8400a5448a56e576c1d8b98981461f8c0a2b45adf59717151"), looks := true }, kinds := [], alts := [], laidByText := true, laidKinds := [.data, .data, .data, .data, .handle, .pinned], laidTests := true, laidLooks := .later }
def IpfourParsesUptoCardSaid : Prop := Claim7.holds Tryd.pinned (.plain (OpenSpec.upto ipfourParsesSpec)) ipfourParsesUptoCard

/-- THE SECOND FORM's CARD OF 'gatepostlaw07.IpfourTexts'. -/
def ipfourTextsUptoCard : Claim7 := { stood := { row := ipfourTextsUptoRow, standIns := [], harness := (true, "661feee42014b0a8400a5448a56e576c1d8b98981461f8c0a2b45adf59717151"), looks := true }, kinds := [], alts := [], laidByText := true, laidKinds := [.data, .data, .data, .data, .pinned], laidTests := true, laidLooks := .later }
def IpfourTextsUptoCardSaid : Prop := Claim7.holds Tryd.pinned (.plain (OpenSpec.upto ipfourTextsSpec)) ipfourTextsUptoCard

/-- THE SECOND FORM's CARD OF 'gatepostlaw07.IpfourBack'. -/
def ipfourBackUptoCard : Claim7 := { stood := { row := ipfourBackUptoRow, standIns := [], harness := (true, "661feee42014b0a8400a5448a56e576c1d8b98981461f8c0a2b45adf59717151"), looks := true }, kinds := [], alts := [], laidByText := true, laidKinds := [.data, .data, .data, .data, .pinned], laidTests := true, laidLooks := .later }
def IpfourBackUptoCardSaid : Prop := Claim7.holds Tryd.pinned (.plain (OpenSpec.upto ipfourBackSpec)) ipfourBackUptoCard

/-- THE SECOND FORM's CARD OF 'gatepostlaw07.IpfourEnds'. -/
def ipfourEndsUptoCard : Claim7 := { stood := { row := ipfourEndsUptoRow, standIns := [], harness := (true, "661feee42014b0a8400a5448a56e576c1d8b98981461f8c0a2b45adf59717151"), looks := true }, kinds := [], alts := [], laidByText := true, laidKinds := [.data, .data, .data, .data, .pinned], laidTests := true, laidLooks := .later }
def IpfourEndsUptoCardSaid : Prop := Claim7.holds Tryd.pinned (.plain (OpenSpec.upto ipfourEndsSpec)) ipfourEndsUptoCard

/-- THE SECOND FORM's CARD OF 'gatepostlaw07.IpfourForms'. -/
def ipfourFormsUptoCard : Claim7 := { stood := { row := ipfourFormsUptoRow, standIns := [], harness := (true, "661feee42014b0a8400a5448a56e576c1d8b98981461f8c0a2b45adf59717151"), looks := true }, kinds := [], alts := [], laidByText := true, laidKinds := [.data, .data, .data, .data, .pinned], laidTests := true, laidLooks := .later }
def IpfourFormsUptoCardSaid : Prop := Claim7.holds Tryd.pinned (.plain (OpenSpec.upto ipfourFormsSpec)) ipfourFormsUptoCard
end Rows
end Go.Proofs.YtbdedjokahopmaaDoor
