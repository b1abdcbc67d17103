/-
  DERIVED. GIVEN WITH THE SEED: THE CARDS: each row of YtkchmbcaihknkaaDoorRows.lean that lists a variable, with what it lists TIED to the program's text (the seventh form; the later family's looks); each row that meets fmt, with fmt's text TOLD by the authors' own Lean function (tested against real Go, not proved from fmt's source: count such statements apart). THE CARD IS WHAT COUNTS. Prove the row's statement (the work); the ties are given (YtkchmbcaihknkaaDoorTie.lean); close each card by the builder's one call (the guide's Derived/Test/ToyasCard.lean, 'card_holds'). Laid BY PROGRAM, IN A SANDBOX (cutbox-door.mjs). By AI agents, Wed Nov 11 2026. No macro, syntax, notation, axiom, sorry.
-/
import Derived.Test.YtkchmbcaihknkaaDoorRows
import GoSem.ClaimSeven
namespace Go.Proofs.YtkchmbcaihknkaaDoor
namespace Rows

/-- THE TIED CARD OF 'fascinelaw07.MatchHas'. -/
def matchHasCard : Claim7 := { stood := { row := matchHasRow, standIns := [], harness := (true, "3d828e6ef6155e11169a3fb9bac3bd31fec094845233b6fc1e9fb731e8a05683"), looks := false }, kinds := [], alts := [], laidByText := true, laidKinds := [.data, .pinned], laidTests := true, laidLooks := .later }
def MatchHasCardSaid : Prop := Claim7.holds Tryd.pinned (.plain (OpenSpec.ofChange matchHasSpec)) matchHasCard

/-- THE TIED CARD OF 'fascinelaw07.MatchFinds'. -/
def matchFindsCard : Claim7 := { stood := { row := matchFindsRow, standIns := [], harness := (true, "3d828e6ef6155e11169a3fb9bac3bd31fec094845233b6fc1e9fb731e8a05683"), looks := false }, kinds := [], alts := [], laidByText := true, laidKinds := [.data, .pinned], laidTests := true, laidLooks := .later }
def MatchFindsCardSaid : Prop := Claim7.holds Tryd.pinned (.plain (OpenSpec.ofChange matchFindsSpec)) matchFindsCard

/-- THE TIED CARD OF 'fascinelaw07.MatchOrder'. -/
def matchOrderCard : Claim7 := { stood := { row := matchOrderRow, standIns := [], harness := (true, "3d828e6ef6155e11169a3fb9bac3bd31fec094845233b6fc1e9fb731e8a05683"), looks := false }, kinds := [], alts := [], laidByText := true, laidKinds := [.data, .pinned], laidTests := true, laidLooks := .later }
def MatchOrderCardSaid : Prop := Claim7.holds Tryd.pinned (.plain (OpenSpec.ofChange matchOrderSpec)) matchOrderCard

/-- THE TIED CARD OF 'fascinelaw07.MatchLogic'. -/
def matchLogicCard : Claim7 := { stood := { row := matchLogicRow, standIns := [], harness := (true, "3d828e6ef6155e11169a3fb9bac3bd31fec094845233b6fc1e9fb731e8a05683"), looks := false }, kinds := [], alts := [], laidByText := true, laidKinds := [.data, .pinned], laidTests := true, laidLooks := .later }
def MatchLogicCardSaid : Prop := Claim7.holds Tryd.pinned (.plain (OpenSpec.ofChange matchLogicSpec)) matchLogicCard

/-- THE TIED CARD OF 'fascinelaw07.MatchTerms'. -/
def matchTermsCard : Claim7 := { stood := { row := matchTermsRow, standIns := [], harness := (true, "3d828e6ef6155e11169a3fb9bac3bd31fec094845233b6fc1e9fb731e8a05683"), looks := false }, kinds := [], alts := [], laidByText := true, laidKinds := [.data, .pinned], laidTests := true, laidLooks := .later }
def MatchTermsCardSaid : Prop := Claim7.holds Tryd.pinned (.plain (OpenSpec.ofChange matchTermsSpec)) matchTermsCard

/-- THE TIED CARD OF 'fascinelaw07.MatchTimes'. -/
def matchTimesCard : Claim7 := { stood := { row := matchTimesRow, standIns := [], harness := (true, "3d828e6ef6155e11169a3fb9bac3bd31fec094845233b6fc1e9fb731e8a05683"), looks := false }, kinds := [], alts := [], laidByText := true, laidKinds := [.data, .pinned], laidTests := true, laidLooks := .later }
def MatchTimesCardSaid : Prop := Claim7.holds Tryd.pinned (.plain (OpenSpec.ofChange matchTimesSpec)) matchTimesCard

/-- THE SECOND FORM's CARD OF 'fascinelaw07.MatchHas'. -/
def matchHasUptoCard : Claim7 := { stood := { row := matchHasUptoRow, standIns := [], harness := (true, "3d828e6ef6155e11169a3fb9bac3bd31fec094845233b6fc1e9fb731e8a05683"), looks := false }, kinds := [], alts := [], laidByText := true, laidKinds := [.data, .pinned], laidTests := true, laidLooks := .later }
def MatchHasUptoCardSaid : Prop := Claim7.holds Tryd.pinned (.plain (OpenSpec.upto matchHasSpec)) matchHasUptoCard

/-- THE SECOND FORM's CARD OF 'fascinelaw07.MatchFinds'. -/
def matchFindsUptoCard : Claim7 := { stood := { row := matchFindsUptoRow, standIns := [], harness := (true, "3d828e6ef6155e11169a3fb9bac3bd31fec094845233b6fc1e9fb731e8a05683"), looks := false }, kinds := [], alts := [], laidByText := true, laidKinds := [.data, .pinned], laidTests := true, laidLooks := .later }
def MatchFindsUptoCardSaid : Prop := Claim7.holds Tryd.pinned (.plain (OpenSpec.upto matchFindsSpec)) matchFindsUptoCard

/-- THE SECOND FORM's CARD OF 'fascinelaw07.MatchOrder'. -/
def matchOrderUptoCard : Claim7 := { stood := { row := matchOrderUptoRow, standIns := [], harness := (true, "3d828e6ef6155e11169a3fb9bac3bd31fec094845233b6fc1e9fb731e8a05683"), looks := false }, kinds := [], alts := [], laidByText := true, laidKinds := [.data, .pinned], laidTests := true, laidLooks := .later }
def MatchOrderUptoCardSaid : Prop := Claim7.holds Tryd.pinned (.plain (OpenSpec.upto matchOrderSpec)) matchOrderUptoCard

/-- THE SECOND FORM's CARD OF 'fascinelaw07.MatchLogic'. -/
def matchLogicUptoCard : Claim7 := { stood := { row := matchLogicUptoRow, standIns := [], harness := (true, "3d828e6ef6155e11169a3fb9bac3bd31fec094845233b6fc1e9fb731e8a05683"), looks := false }, kinds := [], alts := [], laidByText := true, laidKinds := [.data, .pinned], laidTests := true, laidLooks := .later }
def MatchLogicUptoCardSaid : Prop := Claim7.holds Tryd.pinned (.plain (OpenSpec.upto matchLogicSpec)) matchLogicUptoCard

/-- THE SECOND FORM's CARD OF 'fascinelaw07.MatchTerms'. -/
def matchTermsUptoCard : Claim7 := { stood := { row := matchTermsUptoRow, standIns := [], harness := (true, "3d828e6ef6155e11169a3fb9bac3bd31fec094845233b6fc1e9fb731e8a05683"), looks := false }, kinds := [], alts := [], laidByText := true, laidKinds := [.data, .pinned], laidTests := true, laidLooks := .later }
def MatchTermsUptoCardSaid : Prop := Claim7.holds Tryd.pinned (.plain (OpenSpec.upto matchTermsSpec)) matchTermsUptoCard

/-- THE SECOND FORM's CARD OF 'fascinelaw07.MatchTimes'. -/
def matchTimesUptoCard : Claim7 := { stood := { row := matchTimesUptoRow, standIns := [], harness := (true, "3d828e6ef6155e11169a3fb9bac3bd31fec094845233b6fc1e9fb731e8a05683"), looks := false }, kinds := [], alts := [], laidByText := true, laidKinds := [.data, .pinned], laidTests := true, laidLooks := .later }
def MatchTimesUptoCardSaid : Prop := Claim7.holds Tryd.pinned (.plain (OpenSpec.upto matchTimesSpec)) matchTimesUptoCard
end Rows
end Go.Proofs.YtkchmbcaihknkaaDoor
