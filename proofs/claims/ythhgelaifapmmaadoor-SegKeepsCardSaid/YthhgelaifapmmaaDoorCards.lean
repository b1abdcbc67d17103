/-
  DERIVED. GIVEN WITH THE SEED: THE CARDS: each row of YthhgelaifapmmaaDoorRows.lean that lists a variable, with what it lists TIED to the program's text (the seventh form; the later family's looks); each row that meets fmt, with fmt's text TOLD by the authors' own Lean function (tested against real Go, not proved from fmt's source: count such statements apart). THE CARD IS WHAT COUNTS. Prove the row's statement (the work); the ties are given (YthhgelaifapmmaaDoorTie.lean); close each card by the builder's one call (the guide's Derived/Test/ToyasCard.lean, 'card_holds'). Laid BY PROGRAM, IN A SANDBOX (cutbox-door.mjs). By AI agents, Wed Nov 11 2026. No macro, syntax, notation, axiom, sorry.
-/
import Derived.Test.YthhgelaifapmmaaDoorRows
import GoSem.ClaimSeven
namespace Go.Proofs.YthhgelaifapmmaaDoor
namespace Rows

/-- THE TIED CARD OF 'fascinelaw09.SegBuilds'. -/
def segBuildsCard : Claim7 := { stood := { row := segBuildsRow, standIns := [], harness := (true, "5f8b86171a5771d84b6d09b901ddf758aea33b5028ded80fe52915732cd019f2"), looks := false }, kinds := [], alts := [], laidByText := true, laidKinds := [.data, .pinned], laidTests := true, laidLooks := .later }
def SegBuildsCardSaid : Prop := Claim7.holds Tryd.pinned (.plain (OpenSpec.ofChange segBuildsSpec)) segBuildsCard

/-- THE TIED CARD OF 'fascinelaw09.SegOpens'. -/
def segOpensCard : Claim7 := { stood := { row := segOpensRow, standIns := [], harness := (true, "5f8b86171a5771d84b6d09b901ddf758aea33b5028ded80fe52915732cd019f2"), looks := false }, kinds := [], alts := [], laidByText := true, laidKinds := [.data, .pinned], laidTests := true, laidLooks := .later }
def SegOpensCardSaid : Prop := Claim7.holds Tryd.pinned (.plain (OpenSpec.ofChange segOpensSpec)) segOpensCard

/-- THE TIED CARD OF 'fascinelaw09.SegFinds'. -/
def segFindsCard : Claim7 := { stood := { row := segFindsRow, standIns := [], harness := (true, "5f8b86171a5771d84b6d09b901ddf758aea33b5028ded80fe52915732cd019f2"), looks := false }, kinds := [], alts := [], laidByText := true, laidKinds := [.data, .pinned], laidTests := true, laidLooks := .later }
def SegFindsCardSaid : Prop := Claim7.holds Tryd.pinned (.plain (OpenSpec.ofChange segFindsSpec)) segFindsCard

/-- THE TIED CARD OF 'fascinelaw09.SegTurned'. -/
def segTurnedCard : Claim7 := { stood := { row := segTurnedRow, standIns := [], harness := (true, "5f8b86171a5771d84b6d09b901ddf758aea33b5028ded80fe52915732cd019f2"), looks := false }, kinds := [], alts := [], laidByText := true, laidKinds := [.data, .pinned], laidTests := true, laidLooks := .later }
def SegTurnedCardSaid : Prop := Claim7.holds Tryd.pinned (.plain (OpenSpec.ofChange segTurnedSpec)) segTurnedCard

/-- THE TIED CARD OF 'fascinelaw09.SegKeeps'. -/
def segKeepsCard : Claim7 := { stood := { row := segKeepsRow, standIns := [], harness := (true, "5f8b86171a5771d84b6d09b901ddf758aea33b5028ded80fe52915732cd019f2"), looks := false }, kinds := [], alts := [], laidByText := true, laidKinds := [.data, .pinned], laidTests := true, laidLooks := .later }
def SegKeepsCardSaid : Prop := Claim7.holds Tryd.pinned (.plain (OpenSpec.ofChange segKeepsSpec)) segKeepsCard

/-- THE TIED CARD OF 'fascinelaw09.SegTerms'. -/
def segTermsCard : Claim7 := { stood := { row := segTermsRow, standIns := [], harness := (true, "5f8b86171a5771d84b6d09b901ddf758aea33b5028ded80fe52915732cd019f2"), looks := false }, kinds := [], alts := [], laidByText := true, laidKinds := [.data, .pinned], laidTests := true, laidLooks := .later }
def SegTermsCardSaid : Prop := Claim7.holds Tryd.pinned (.plain (OpenSpec.ofChange segTermsSpec)) segTermsCard

/-- THE TIED CARD OF 'fascinelaw09.SegNot'. -/
def segNotCard : Claim7 := { stood := { row := segNotRow, standIns := [], harness := (true, "5f8b86171a5771d84b6d09b901ddf758aea33b5028ded80fe52915732cd019f2"), looks := false }, kinds := [], alts := [], laidByText := true, laidKinds := [.data, .pinned], laidTests := true, laidLooks := .later }
def SegNotCardSaid : Prop := Claim7.holds Tryd.pinned (.plain (OpenSpec.ofChange segNotSpec)) segNotCard

/-- THE SECOND FORM's CARD OF 'fascinelaw09.SegBuilds'. -/
def segBuildsUptoCard : Claim7 := { stood := { row := segBuildsUptoRow, standIns := [], harness := (true, "5f8b86171a5771d84b6d09b901ddf758aea33b5028ded80fe52915732cd019f2"), looks := false }, kinds := [], alts := [], laidByText := true, laidKinds := [.data, .pinned], laidTests := true, laidLooks := .later }
def SegBuildsUptoCardSaid : Prop := Claim7.holds Tryd.pinned (.plain (OpenSpec.upto segBuildsSpec)) segBuildsUptoCard

/-- THE SECOND FORM's CARD OF 'fascinelaw09.SegOpens'. -/
def segOpensUptoCard : Claim7 := { stood := { row := segOpensUptoRow, standIns := [], harness := (true, "5f8b86171a5771d84b6d09b901ddf758aea33b5028ded80fe52915732cd019f2"), looks := false }, kinds := [], alts := [], laidByText := true, laidKinds := [.data, .pinned], laidTests := true, laidLooks := .later }
def SegOpensUptoCardSaid : Prop := Claim7.holds Tryd.pinned (.plain (OpenSpec.upto segOpensSpec)) segOpensUptoCard

/-- THE SECOND FORM's CARD OF 'fascinelaw09.SegFinds'. -/
def segFindsUptoCard : Claim7 := { stood := { row := segFindsUptoRow, standIns := [], harness := (true, "5f8b86171a5771d84b6d09b901ddf758aea33b5028ded80fe52915732cd019f2"), looks := false }, kinds := [], alts := [], laidByText := true, laidKinds := [.data, .pinned], laidTests := true, laidLooks := .later }
def SegFindsUptoCardSaid : Prop := Claim7.holds Tryd.pinned (.plain (OpenSpec.upto segFindsSpec)) segFindsUptoCard

/-- THE SECOND FORM's CARD OF 'fascinelaw09.SegTurned'. -/
def segTurnedUptoCard : Claim7 := { stood := { row := segTurnedUptoRow, standIns := [], harness := (true, "5f8b86171a5771d84b6d09b901ddf758aea33b5028ded80fe52915732cd019f2"), looks := false }, kinds := [], alts := [], laidByText := true, laidKinds := [.data, .pinned], laidTests := true, laidLooks := .later }
def SegTurnedUptoCardSaid : Prop := Claim7.holds Tryd.pinned (.plain (OpenSpec.upto segTurnedSpec)) segTurnedUptoCard

/-- THE SECOND FORM's CARD OF 'fascinelaw09.SegKeeps'. -/
def segKeepsUptoCard : Claim7 := { stood := { row := segKeepsUptoRow, standIns := [], harness := (true, "5f8b86171a5771d84b6d09b901ddf758aea33b5028ded80fe52915732cd019f2"), looks := false }, kinds := [], alts := [], laidByText := true, laidKinds := [.data, .pinned], laidTests := true, laidLooks := .later }
def SegKeepsUptoCardSaid : Prop := Claim7.holds Tryd.pinned (.plain (OpenSpec.upto segKeepsSpec)) segKeepsUptoCard

/-- THE SECOND FORM's CARD OF 'fascinelaw09.SegTerms'. -/
def segTermsUptoCard : Claim7 := { stood := { row := segTermsUptoRow, standIns := [], harness := (true, "5f8b86171a5771d84b6d09b901ddf758aea33b5028ded80fe52915732cd019f2"), looks := false }, kinds := [], alts := [], laidByText := true, laidKinds := [.data, .pinned], laidTests := true, laidLooks := .later }
def SegTermsUptoCardSaid : Prop := Claim7.holds Tryd.pinned (.plain (OpenSpec.upto segTermsSpec)) segTermsUptoCard

/-- THE SECOND FORM's CARD OF 'fascinelaw09.SegNot'. -/
def segNotUptoCard : Claim7 := { stood := { row := segNotUptoRow, standIns := [], harness := (true, "5f8b86171a5771d84b6d09b901ddf758aea33b5028ded80fe52915732cd019f2"), looks := false }, kinds := [], alts := [], laidByText := true, laidKinds := [.data, .pinned], laidTests := true, laidLooks := .later }
def SegNotUptoCardSaid : Prop := Claim7.holds Tryd.pinned (.plain (OpenSpec.upto segNotSpec)) segNotUptoCard
end Rows
end Go.Proofs.YthhgelaifapmmaaDoor
