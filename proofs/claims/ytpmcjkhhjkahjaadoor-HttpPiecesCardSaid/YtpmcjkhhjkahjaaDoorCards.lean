/-
  DERIVED. GIVEN WITH THE SEED: THE CARDS: each row of YtpmcjkhhjkahjaaDoorRows.lean that lists a variable, with what it lists TIED to the program's text (the seventh form; the later family's looks); each row that meets fmt, with fmt's text TOLD by the authors' own Lean function (tested against real Go, not proved from fmt's source: count such statements apart). THE CARD IS WHAT COUNTS. Prove the row's statement (the work); the ties are given (YtpmcjkhhjkahjaaDoorTie.lean); close each card by the builder's one call (the guide's Derived/Test/ToyasCard.lean, 'card_holds'). Laid BY PROGRAM, IN A SANDBOX (cutbox-door.mjs). By AI agents, Wed Nov 11 2026. No macro, syntax, notation, axiom, sorry.
-/
import Derived.Test.YtpmcjkhhjkahjaaDoorRows
import GoSem.ClaimSeven
namespace Go.Proofs.YtpmcjkhhjkahjaaDoor
namespace Rows

/-- THE TIED CARD OF 'fascinelaw12.HttpPieces'. -/
def httpPiecesCard : Claim7 := { stood := { row := httpPiecesRow, standIns := [], harness := (true, "907e0ce54795541b4694f678cfd73e2a663a8c3c4966cddf254927992948668b"), looks := true }, kinds := [], alts := [], laidByText := true, laidKinds := [.data, .data, .data, .data, .sentinel, .sentinel, .pinned], laidTests := true, laidLooks := .later }
def HttpPiecesCardSaid : Prop := Claim7.holds Tryd.pinned (.plain (OpenSpec.ofChange httpPiecesSpec)) httpPiecesCard

/-- THE TIED CARD OF 'fascinelaw12.HttpLines'. -/
def httpLinesCard : Claim7 := { stood := { row := httpLinesRow, standIns := [], harness := (true, "907e0ce54795541b4694f678cfd73e2a663a8c3c4966cddf254927992948668b"), looks := true }, kinds := [], alts := [], laidByText := true, laidKinds := [.data, .data, .data, .data, .sentinel, .sentinel, .pinned], laidTests := true, laidLooks := .later }
def HttpLinesCardSaid : Prop := Claim7.holds Tryd.pinned (.plain (OpenSpec.ofChange httpLinesSpec)) httpLinesCard

/-- THE TIED CARD OF 'fascinelaw12.HttpBodies'. -/
def httpBodiesCard : Claim7 := { stood := { row := httpBodiesRow, standIns := [], harness := (true, "907e0ce54795541b4694f678cfd73e2a663a8c3c4966cddf254927992948668b"), looks := true }, kinds := [], alts := [], laidByText := true, laidKinds := [.data, .data, .data, .data, .sentinel, .sentinel, .pinned], laidTests := true, laidLooks := .later }
def HttpBodiesCardSaid : Prop := Claim7.holds Tryd.pinned (.plain (OpenSpec.ofChange httpBodiesSpec)) httpBodiesCard

/-- THE SECOND FORM's CARD OF 'fascinelaw12.HttpPieces'. -/
def httpPiecesUptoCard : Claim7 := { stood := { row := httpPiecesUptoRow, standIns := [], harness := (true, "907e0ce54795541b4694f678cfd73e2a663a8c3c4966cddf254927992948668b"), looks := true }, kinds := [], alts := [], laidByText := true, laidKinds := [.data, .data, .data, .data, .sentinel, .sentinel, .pinned], laidTests := true, laidLooks := .later }
def HttpPiecesUptoCardSaid : Prop := Claim7.holds Tryd.pinned (.plain (OpenSpec.upto httpPiecesSpec)) httpPiecesUptoCard

/-- THE SECOND FORM's CARD OF 'fascinelaw12.HttpLines'. -/
def httpLinesUptoCard : Claim7 := { stood := { row := httpLinesUptoRow, standIns := [], harness := (true, "907e0ce54795541b4694f678cfd73e2a663a8c3c4966cddf254927992948668b"), looks := true }, kinds := [], alts := [], laidByText := true, laidKinds := [.data, .data, .data, .data, .sentinel, .sentinel, .pinned], laidTests := true, laidLooks := .later }
def HttpLinesUptoCardSaid : Prop := Claim7.holds Tryd.pinned (.plain (OpenSpec.upto httpLinesSpec)) httpLinesUptoCard

/-- THE SECOND FORM's CARD OF 'fascinelaw12.HttpBodies'. -/
def httpBodiesUptoCard : Claim7 := { stood := { row := httpBodiesUptoRow, standIns := [], harness := (true, "907e0ce54795541b4694f678cfd73e2a663a8c3c4966cddf254927992948668b"), looks := true }, kinds := [], alts := [], laidByText := true, laidKinds := [.data, .data, .data, .data, .sentinel, .sentinel, .pinned], laidTests := true, laidLooks := .later }
def HttpBodiesUptoCardSaid : Prop := Claim7.holds Tryd.pinned (.plain (OpenSpec.upto httpBodiesSpec)) httpBodiesUptoCard
end Rows
end Go.Proofs.YtpmcjkhhjkahjaaDoor
