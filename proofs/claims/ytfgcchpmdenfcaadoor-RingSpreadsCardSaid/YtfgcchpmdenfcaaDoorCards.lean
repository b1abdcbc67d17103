/-
  DERIVED. GIVEN WITH THE SEED: THE CARDS: each row of YtfgcchpmdenfcaaDoorRows.lean that lists a variable, with what it lists TIED to the program's text (the seventh form; the later family's looks); each row that meets fmt, with fmt's text TOLD by the authors' own Lean function (tested against real Go, not proved from fmt's source: count such statements apart). THE CARD IS WHAT COUNTS. Prove the row's statement (the work); the ties are given (YtfgcchpmdenfcaaDoorTie.lean); close each card by the builder's one call (the guide's Derived/Test/ToyasCard.lean, 'card_holds'). Laid BY PROGRAM, IN A SANDBOX (cutbox-door.mjs). By AI agents, Wed Nov 11 2026. No macro, syntax, notation, axiom, sorry.
-/
import Derived.Test.YtfgcchpmdenfcaaDoorRows
import GoSem.ClaimSeven
namespace Go.Proofs.YtfgcchpmdenfcaaDoor
namespace Rows

/-- THE TIED CARD OF 'fascinelaw13.RingShards'. -/
def ringShardsCard : Claim7 := { stood := { row := ringShardsRow, standIns := [], harness := (true, "276d4617a9d886725543113db4ee3641bc7cf533805a3c41bda0ae3c889ac0b8"), looks := false }, kinds := [], alts := [], laidByText := true, laidKinds := [.data, .data, .data], laidTests := true, laidLooks := .later }
def RingShardsCardSaid : Prop := Claim7.holds Tryd.pinned (.plain (OpenSpec.ofChange ringShardsSpec)) ringShardsCard

/-- THE TIED CARD OF 'fascinelaw13.RingGrows'. -/
def ringGrowsCard : Claim7 := { stood := { row := ringGrowsRow, standIns := [], harness := (true, "276d4617a9d886725543113db4ee3641bc7cf533805a3c41bda0ae3c889ac0b8"), looks := false }, kinds := [], alts := [], laidByText := true, laidKinds := [.data, .data, .data], laidTests := true, laidLooks := .later }
def RingGrowsCardSaid : Prop := Claim7.holds Tryd.pinned (.plain (OpenSpec.ofChange ringGrowsSpec)) ringGrowsCard

/-- THE TIED CARD OF 'fascinelaw13.RingSpreads'. -/
def ringSpreadsCard : Claim7 := { stood := { row := ringSpreadsRow, standIns := [], harness := (true, "276d4617a9d886725543113db4ee3641bc7cf533805a3c41bda0ae3c889ac0b8"), looks := false }, kinds := [], alts := [], laidByText := true, laidKinds := [.data, .data, .data], laidTests := true, laidLooks := .later }
def RingSpreadsCardSaid : Prop := Claim7.holds Tryd.pinned (.plain (OpenSpec.ofChange ringSpreadsSpec)) ringSpreadsCard

/-- THE SECOND FORM's CARD OF 'fascinelaw13.RingShards'. -/
def ringShardsUptoCard : Claim7 := { stood := { row := ringShardsUptoRow, standIns := [], harness := (true, "276d4617a9d886725543113db4ee3641bc7cf533805a3c41bda0ae3c889ac0b8"), looks := false }, kinds := [], alts := [], laidByText := true, laidKinds := [.data, .data, .data], laidTests := true, laidLooks := .later }
def RingShardsUptoCardSaid : Prop := Claim7.holds Tryd.pinned (.plain (OpenSpec.upto ringShardsSpec)) ringShardsUptoCard

/-- THE SECOND FORM's CARD OF 'fascinelaw13.RingGrows'. -/
def ringGrowsUptoCard : Claim7 := { stood := { row := ringGrowsUptoRow, standIns := [], harness := (true, "276d4617a9d886725543113db4ee3641bc7cf533805a3c41bda0ae3c889ac0b8"), looks := false }, kinds := [], alts := [], laidByText := true, laidKinds := [.data, .data, .data], laidTests := true, laidLooks := .later }
def RingGrowsUptoCardSaid : Prop := Claim7.holds Tryd.pinned (.plain (OpenSpec.upto ringGrowsSpec)) ringGrowsUptoCard

/-- THE SECOND FORM's CARD OF 'fascinelaw13.RingSpreads'. -/
def ringSpreadsUptoCard : Claim7 := { stood := { row := ringSpreadsUptoRow, standIns := [], harness := (true, "276d4617a9d886725543113db4ee3641bc7cf533805a3c41bda0ae3c889ac0b8"), looks := false }, kinds := [], alts := [], laidByText := true, laidKinds := [.data, .data, .data], laidTests := true, laidLooks := .later }
def RingSpreadsUptoCardSaid : Prop := Claim7.holds Tryd.pinned (.plain (OpenSpec.upto ringSpreadsSpec)) ringSpreadsUptoCard
end Rows
end Go.Proofs.YtfgcchpmdenfcaaDoor
