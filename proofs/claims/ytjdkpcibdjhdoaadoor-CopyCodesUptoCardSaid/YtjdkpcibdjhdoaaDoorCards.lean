/-
  DERIVED. GIVEN WITH THE SEED: THE CARDS: each row of YtjdkpcibdjhdoaaDoorRows.lean that lists a variable, with what it lists TIED to the program's text (the seventh form; the later family's looks); each row that meets fmt, with fmt's text TOLD by the authors' own Lean function (tested against real Go, not proved from fmt's source: count such statements apart). THE CARD IS WHAT COUNTS. Prove the row's statement (the work); the ties are given (YtjdkpcibdjhdoaaDoorTie.lean); close each card by the builder's one call (the guide's Derived/Test/ToyasCard.lean, 'card_holds'). Laid BY PROGRAM, IN A SANDBOX (cutbox-door.mjs). By AI agents, Wed Nov 11 2026. No macro, syntax, notation, axiom, sorry.
-/
import Derived.Test.YtjdkpcibdjhdoaaDoorRows
import GoSem.ClaimSeven
namespace Go.Proofs.YtjdkpcibdjhdoaaDoor
namespace Rows

/-- THE TIED CARD OF 'fascinelaw16.CopyCodes'. -/
def copyCodesCard : Claim7 := { stood := { row := copyCodesRow, standIns := [], harness := (true, "4cb1d931a6f713695f305110a8c2ec1215893623003069bda943b6650bc9cf01"), looks := false }, kinds := [], alts := [], laidByText := true, laidKinds := [.data, .data, .data], laidTests := true, laidLooks := .later }
def CopyCodesCardSaid : Prop := Claim7.holds Tryd.pinned (.plain (OpenSpec.ofChange copyCodesSpec)) copyCodesCard

/-- THE TIED CARD OF 'fascinelaw16.CopyFence'. -/
def copyFenceCard : Claim7 := { stood := { row := copyFenceRow, standIns := [], harness := (true, "4cb1d931a6f713695f305110a8c2ec1215893623003069bda943b6650bc9cf01"), looks := false }, kinds := [], alts := [], laidByText := true, laidKinds := [.data, .data, .data], laidTests := true, laidLooks := .later }
def CopyFenceCardSaid : Prop := Claim7.holds Tryd.pinned (.plain (OpenSpec.ofChange copyFenceSpec)) copyFenceCard

/-- THE TIED CARD OF 'fascinelaw16.CopyNil'. -/
def copyNilCard : Claim7 := { stood := { row := copyNilRow, standIns := [], harness := (true, "4cb1d931a6f713695f305110a8c2ec1215893623003069bda943b6650bc9cf01"), looks := false }, kinds := [], alts := [], laidByText := true, laidKinds := [.data, .data, .data], laidTests := true, laidLooks := .later }
def CopyNilCardSaid : Prop := Claim7.holds Tryd.pinned (.plain (OpenSpec.ofChange copyNilSpec)) copyNilCard

/-- THE SECOND FORM's CARD OF 'fascinelaw16.CopyCodes'. -/
def copyCodesUptoCard : Claim7 := { stood := { row := copyCodesUptoRow, standIns := [], harness := (true, "4cb1d931a6f713695f305110a8c2ec1215893623003069bda943b6650bc9cf01"), looks := false }, kinds := [], alts := [], laidByText := true, laidKinds := [.data, .data, .data], laidTests := true, laidLooks := .later }
def CopyCodesUptoCardSaid : Prop := Claim7.holds Tryd.pinned (.plain (OpenSpec.upto copyCodesSpec)) copyCodesUptoCard

/-- THE SECOND FORM's CARD OF 'fascinelaw16.CopyFence'. -/
def copyFenceUptoCard : Claim7 := { stood := { row := copyFenceUptoRow, standIns := [], harness := (true, "4cb1d931a6f713695f305110a8c2ec1215893623003069bda943b6650bc9cf01"), looks := false }, kinds := [], alts := [], laidByText := true, laidKinds := [.data, .data, .data], laidTests := true, laidLooks := .later }
def CopyFenceUptoCardSaid : Prop := Claim7.holds Tryd.pinned (.plain (OpenSpec.upto copyFenceSpec)) copyFenceUptoCard

/-- THE SECOND FORM's CARD OF 'fascinelaw16.CopyNil'. -/
def copyNilUptoCard : Claim7 := { stood := { row := copyNilUptoRow, standIns := [], harness := (true, "4cb1d931a6f713695f305110a8c2ec1215893623003069bda943b6650bc9cf01"), looks := false }, kinds := [], alts := [], laidByText := true, laidKinds := [.data, .data, .data], laidTests := true, laidLooks := .later }
def CopyNilUptoCardSaid : Prop := Claim7.holds Tryd.pinned (.plain (OpenSpec.upto copyNilSpec)) copyNilUptoCard
end Rows
end Go.Proofs.YtjdkpcibdjhdoaaDoor
