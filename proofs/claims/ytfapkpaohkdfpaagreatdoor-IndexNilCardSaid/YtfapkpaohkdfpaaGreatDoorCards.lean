/-
  DERIVED. GIVEN WITH THE SEED: THE CARDS: each row of YtfapkpaohkdfpaaGreatDoorRows.lean that lists a variable, with what it lists TIED to the program's text (the seventh form; the later family's looks); each row that meets fmt, with fmt's text TOLD by the authors' own Lean function (tested against real Go, not proved from fmt's source: count such statements apart). THE CARD IS WHAT COUNTS. Prove the row's statement (the work); the ties are given (YtfapkpaohkdfpaaGreatDoorTie.lean); close each card by the builder's one call (the guide's Derived/Test/ToyasCard.lean, 'card_holds'). Laid BY PROGRAM, IN A SANDBOX (cutbox-door.mjs). By AI agents, Wed Nov 11 2026. No macro, syntax, notation, axiom, sorry.
-/
import Derived.Test.YtfapkpaohkdfpaaGreatDoorRows
import GoSem.ClaimSeven
namespace Go.Proofs.YtfapkpaohkdfpaaGreatDoor
namespace Rows

/-- THE TIED CARD OF 'fascinelaw10.IndexPlays'. -/
def indexPlaysCard : Claim7 := { stood := { row := indexPlaysRow, standIns := [], harness := (true, "3ffe19983035ddb92c5456a062ce3a9a90cde30d3340d0c25b2ee733e81c50d1"), looks := false }, kinds := [], alts := [], laidByText := true, laidKinds := [.data, .pinned], laidTests := true, laidLooks := .later }
def IndexPlaysCardSaid : Prop := Claim7.holds Tryz.pinned (.plain (OpenSpec.ofChange indexPlaysSpec)) indexPlaysCard

/-- THE TIED CARD OF 'fascinelaw10.IndexSame'. -/
def indexSameCard : Claim7 := { stood := { row := indexSameRow, standIns := [], harness := (true, "3ffe19983035ddb92c5456a062ce3a9a90cde30d3340d0c25b2ee733e81c50d1"), looks := false }, kinds := [], alts := [], laidByText := true, laidKinds := [.data, .pinned], laidTests := true, laidLooks := .later }
def IndexSameCardSaid : Prop := Claim7.holds Tryz.pinned (.plain (OpenSpec.ofChange indexSameSpec)) indexSameCard

/-- THE TIED CARD OF 'fascinelaw10.IndexSees'. -/
def indexSeesCard : Claim7 := { stood := { row := indexSeesRow, standIns := [], harness := (true, "3ffe19983035ddb92c5456a062ce3a9a90cde30d3340d0c25b2ee733e81c50d1"), looks := false }, kinds := [], alts := [], laidByText := true, laidKinds := [.data, .pinned], laidTests := true, laidLooks := .later }
def IndexSeesCardSaid : Prop := Claim7.holds Tryz.pinned (.plain (OpenSpec.ofChange indexSeesSpec)) indexSeesCard

/-- THE TIED CARD OF 'fascinelaw10.IndexNil'. -/
def indexNilCard : Claim7 := { stood := { row := indexNilRow, standIns := [], harness := (true, "3ffe19983035ddb92c5456a062ce3a9a90cde30d3340d0c25b2ee733e81c50d1"), looks := false }, kinds := [], alts := [], laidByText := true, laidKinds := [.data, .pinned], laidTests := true, laidLooks := .later }
def IndexNilCardSaid : Prop := Claim7.holds Tryz.pinned (.plain (OpenSpec.ofChange indexNilSpec)) indexNilCard

/-- THE TIED CARD OF 'fascinelaw10.IndexOnce'. -/
def indexOnceCard : Claim7 := { stood := { row := indexOnceRow, standIns := [], harness := (true, "3ffe19983035ddb92c5456a062ce3a9a90cde30d3340d0c25b2ee733e81c50d1"), looks := false }, kinds := [], alts := [], laidByText := true, laidKinds := [.data, .pinned], laidTests := true, laidLooks := .later }
def IndexOnceCardSaid : Prop := Claim7.holds Tryz.pinned (.plain (OpenSpec.ofChange indexOnceSpec)) indexOnceCard

/-- THE TIED CARD OF 'fascinelaw10.IndexCounts'. -/
def indexCountsCard : Claim7 := { stood := { row := indexCountsRow, standIns := [], harness := (true, "3ffe19983035ddb92c5456a062ce3a9a90cde30d3340d0c25b2ee733e81c50d1"), looks := false }, kinds := [], alts := [], laidByText := true, laidKinds := [.data, .pinned], laidTests := true, laidLooks := .later }
def IndexCountsCardSaid : Prop := Claim7.holds Tryz.pinned (.plain (OpenSpec.ofChange indexCountsSpec)) indexCountsCard

/-- THE SECOND FORM's CARD OF 'fascinelaw10.IndexPlays'. -/
def indexPlaysUptoCard : Claim7 := { stood := { row := indexPlaysUptoRow, standIns := [], harness := (true, "3ffe19983035ddb92c5456a062ce3a9a90cde30d3340d0c25b2ee733e81c50d1"), looks := false }, kinds := [], alts := [], laidByText := true, laidKinds := [.data, .pinned], laidTests := true, laidLooks := .later }
def IndexPlaysUptoCardSaid : Prop := Claim7.holds Tryz.pinned (.plain (OpenSpec.upto indexPlaysSpec)) indexPlaysUptoCard

/-- THE SECOND FORM's CARD OF 'fascinelaw10.IndexSame'. -/
def indexSameUptoCard : Claim7 := { stood := { row := indexSameUptoRow, standIns := [], harness := (true, "3ffe19983035ddb92c5456a062ce3a9a90cde30d3340d0c25b2ee733e81c50d1"), looks := false }, kinds := [], alts := [], laidByText := true, laidKinds := [.data, .pinned], laidTests := true, laidLooks := .later }
def IndexSameUptoCardSaid : Prop := Claim7.holds Tryz.pinned (.plain (OpenSpec.upto indexSameSpec)) indexSameUptoCard

/-- THE SECOND FORM's CARD OF 'fascinelaw10.IndexSees'. -/
def indexSeesUptoCard : Claim7 := { stood := { row := indexSeesUptoRow, standIns := [], harness := (true, "3ffe19983035ddb92c5456a062ce3a9a90cde30d3340d0c25b2ee733e81c50d1"), looks := false }, kinds := [], alts := [], laidByText := true, laidKinds := [.data, .pinned], laidTests := true, laidLooks := .later }
def IndexSeesUptoCardSaid : Prop := Claim7.holds Tryz.pinned (.plain (OpenSpec.upto indexSeesSpec)) indexSeesUptoCard

/-- THE SECOND FORM's CARD OF 'fascinelaw10.IndexNil'. -/
def indexNilUptoCard : Claim7 := { stood := { row := indexNilUptoRow, standIns := [], harness := (true, "3ffe19983035ddb92c5456a062ce3a9a90cde30d3340d0c25b2ee733e81c50d1"), looks := false }, kinds := [], alts := [], laidByText := true, laidKinds := [.data, .pinned], laidTests := true, laidLooks := .later }
def IndexNilUptoCardSaid : Prop := Claim7.holds Tryz.pinned (.plain (OpenSpec.upto indexNilSpec)) indexNilUptoCard

/-- THE SECOND FORM's CARD OF 'fascinelaw10.IndexOnce'. -/
def indexOnceUptoCard : Claim7 := { stood := { row := indexOnceUptoRow, standIns := [], harness := (true, "3ffe19983035ddb92c5456a062ce3a9a90cde30d3340d0c25b2ee733e81c50d1"), looks := false }, kinds := [], alts := [], laidByText := true, laidKinds := [.data, .pinned], laidTests := true, laidLooks := .later }
def IndexOnceUptoCardSaid : Prop := Claim7.holds Tryz.pinned (.plain (OpenSpec.upto indexOnceSpec)) indexOnceUptoCard

/-- THE SECOND FORM's CARD OF 'fascinelaw10.IndexCounts'. -/
def indexCountsUptoCard : Claim7 := { stood := { row := indexCountsUptoRow, standIns := [], harness := (true, "3ffe19983035ddb92c5456a062ce3a9a90cde30d3340d0c25b2ee733e81c50d1"), looks := false }, kinds := [], alts := [], laidByText := true, laidKinds := [.data, .pinned], laidTests := true, laidLooks := .later }
def IndexCountsUptoCardSaid : Prop := Claim7.holds Tryz.pinned (.plain (OpenSpec.upto indexCountsSpec)) indexCountsUptoCard
end Rows
end Go.Proofs.YtfapkpaohkdfpaaGreatDoor
