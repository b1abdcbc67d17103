/-
  DERIVED. GIVEN WITH THE SEED: THE CARDS: each row of YtbhoaajpkckihaaDoorRows.lean that lists a variable, with what it lists TIED to the program's text (the seventh form; the later family's looks); each row that meets fmt, with fmt's text TOLD by the authors' own Lean function (tested against real Go, not proved from fmt's source: count such statements apart). THE CARD IS WHAT COUNTS. Prove the row's statement (the work); the ties are given (YtbhoaajpkckihaaDoorTie.lean); close each card by the builder's one call (the guide's Derived/Test/ToyasCard.lean, 'card_holds'). Laid BY PROGRAM, IN A SANDBOX (cutbox-door.mjs). By AI agents, Wed Nov 11 2026. No macro, syntax, notation, axiom, sorry.
-/
import Derived.Test.YtbhoaajpkckihaaDoorRows
import GoSem.ClaimSeven
namespace Go.Proofs.YtbhoaajpkckihaaDoor
namespace Rows

/-- THE TIED CARD OF 'fascinelaw05.WordsTold'. -/
def wordsToldCard : Claim7 := { stood := { row := wordsToldRow, standIns := [], harness := (true, "2bece9abf24e9b8f73ba8787b431e23a120c45149e0a7632eff790c945e3af05"), looks := false }, kinds := [], alts := [], laidByText := true, laidKinds := [.data, .pinned], laidTests := true, laidLooks := .later }
def WordsToldCardSaid : Prop := Claim7.holds Tryd.pinned (.plain (OpenSpec.ofChange wordsToldSpec)) wordsToldCard

/-- THE TIED CARD OF 'fascinelaw05.WordsTerms'. -/
def wordsTermsCard : Claim7 := { stood := { row := wordsTermsRow, standIns := [], harness := (true, "2bece9abf24e9b8f73ba8787b431e23a120c45149e0a7632eff790c945e3af05"), looks := false }, kinds := [], alts := [], laidByText := true, laidKinds := [.data, .pinned], laidTests := true, laidLooks := .later }
def WordsTermsCardSaid : Prop := Claim7.holds Tryd.pinned (.plain (OpenSpec.ofChange wordsTermsSpec)) wordsTermsCard

/-- THE TIED CARD OF 'fascinelaw05.WordsAlone'. -/
def wordsAloneCard : Claim7 := { stood := { row := wordsAloneRow, standIns := [], harness := (true, "2bece9abf24e9b8f73ba8787b431e23a120c45149e0a7632eff790c945e3af05"), looks := false }, kinds := [], alts := [], laidByText := true, laidKinds := [.data, .pinned], laidTests := true, laidLooks := .later }
def WordsAloneCardSaid : Prop := Claim7.holds Tryd.pinned (.plain (OpenSpec.ofChange wordsAloneSpec)) wordsAloneCard

/-- THE TIED CARD OF 'fascinelaw05.WordsCase'. -/
def wordsCaseCard : Claim7 := { stood := { row := wordsCaseRow, standIns := [], harness := (true, "2bece9abf24e9b8f73ba8787b431e23a120c45149e0a7632eff790c945e3af05"), looks := false }, kinds := [], alts := [], laidByText := true, laidKinds := [.data, .pinned], laidTests := true, laidLooks := .later }
def WordsCaseCardSaid : Prop := Claim7.holds Tryd.pinned (.plain (OpenSpec.ofChange wordsCaseSpec)) wordsCaseCard

/-- THE TIED CARD OF 'fascinelaw05.WordsJoin'. -/
def wordsJoinCard : Claim7 := { stood := { row := wordsJoinRow, standIns := [], harness := (true, "2bece9abf24e9b8f73ba8787b431e23a120c45149e0a7632eff790c945e3af05"), looks := false }, kinds := [], alts := [], laidByText := true, laidKinds := [.data, .pinned], laidTests := true, laidLooks := .later }
def WordsJoinCardSaid : Prop := Claim7.holds Tryd.pinned (.plain (OpenSpec.ofChange wordsJoinSpec)) wordsJoinCard

/-- THE SECOND FORM's CARD OF 'fascinelaw05.WordsTold'. -/
def wordsToldUptoCard : Claim7 := { stood := { row := wordsToldUptoRow, standIns := [], harness := (true, "2bece9abf24e9b8f73ba8787b431e23a120c45149e0a7632eff790c945e3af05"), looks := false }, kinds := [], alts := [], laidByText := true, laidKinds := [.data, .pinned], laidTests := true, laidLooks := .later }
def WordsToldUptoCardSaid : Prop := Claim7.holds Tryd.pinned (.plain (OpenSpec.upto wordsToldSpec)) wordsToldUptoCard

/-- THE SECOND FORM's CARD OF 'fascinelaw05.WordsTerms'. -/
def wordsTermsUptoCard : Claim7 := { stood := { row := wordsTermsUptoRow, standIns := [], harness := (true, "2bece9abf24e9b8f73ba8787b431e23a120c45149e0a7632eff790c945e3af05"), looks := false }, kinds := [], alts := [], laidByText := true, laidKinds := [.data, .pinned], laidTests := true, laidLooks := .later }
def WordsTermsUptoCardSaid : Prop := Claim7.holds Tryd.pinned (.plain (OpenSpec.upto wordsTermsSpec)) wordsTermsUptoCard

/-- THE SECOND FORM's CARD OF 'fascinelaw05.WordsAlone'. -/
def wordsAloneUptoCard : Claim7 := { stood := { row := wordsAloneUptoRow, standIns := [], harness := (true, "2bece9abf24e9b8f73ba8787b431e23a120c45149e0a7632eff790c945e3af05"), looks := false }, kinds := [], alts := [], laidByText := true, laidKinds := [.data, .pinned], laidTests := true, laidLooks := .later }
def WordsAloneUptoCardSaid : Prop := Claim7.holds Tryd.pinned (.plain (OpenSpec.upto wordsAloneSpec)) wordsAloneUptoCard

/-- THE SECOND FORM's CARD OF 'fascinelaw05.WordsCase'. -/
def wordsCaseUptoCard : Claim7 := { stood := { row := wordsCaseUptoRow, standIns := [], harness := (true, "2bece9abf24e9b8f73ba8787b431e23a120c45149e0a7632eff790c945e3af05"), looks := false }, kinds := [], alts := [], laidByText := true, laidKinds := [.data, .pinned], laidTests := true, laidLooks := .later }
def WordsCaseUptoCardSaid : Prop := Claim7.holds Tryd.pinned (.plain (OpenSpec.upto wordsCaseSpec)) wordsCaseUptoCard

/-- THE SECOND FORM's CARD OF 'fascinelaw05.WordsJoin'. -/
def wordsJoinUptoCard : Claim7 := { stood := { row := wordsJoinUptoRow, standIns := [], harness := (true, "2bece9abf24e9b8f73ba8787b431e23a120c45149e0a7632eff790c945e3af05"), looks := false }, kinds := [], alts := [], laidByText := true, laidKinds := [.data, .pinned], laidTests := true, laidLooks := .later }
def WordsJoinUptoCardSaid : Prop := Claim7.holds Tryd.pinned (.plain (OpenSpec.upto wordsJoinSpec)) wordsJoinUptoCard
end Rows
end Go.Proofs.YtbhoaajpkckihaaDoor
