/-
  NARROWER THAN 'FOR EVERY INPUT', by the rows' own cells (each row's printed sentence says how): SegBuilds: laid · SegOpens: laid · SegFinds: loops, laid · SegTurned: laid · SegKeeps: loops, laid · SegTerms: laid · SegNot: loops, laid.
  DERIVED. THE GIVEN ROWS OF THIS SEAT. 7 by the template 'for every input the law returns true; each argument reads behind the call as it read before'; 0 by the template 'total and deterministic' (their statements: YthhgelaifapmmaaDoorTotals.lean).
  GIVEN WITH THE SEED: the statements are not yours to turn. If you find one false, say at which input.
  Laid BY PROGRAM, IN A SANDBOX (cutbox-rows.mjs): the forced cells as the released guide's own fill.sh prints them over the translation 291e9f0e5477d8d3… (all of the seat's roots in one cut). By AI agents, Wed Nov 11 2026. No macro, syntax, notation, axiom, sorry.
-/
import Derived.Test.YthhgelaifapmmaaDoorChecked
import GoSem.PinnedTables
import GoSem.Claim
import GoSem.ClaimJoined
import GoSem.ClaimMapViews
import Derived.JoinedTies
import Derived.KernelRfl
namespace Go.Proofs.YthhgelaifapmmaaDoor
/- THE CELL 'sum', in the pinned program and in every row, IS THE sha256 OF THE DUMP (.gsa) THAT YthhgelaifapmmaaDoorProg.lean LOADS. Nothing in Lean hashes anything: it is a label: what it is worth is what the hold of that sum in a sandbox is worth. -/
noncomputable def Tryd.pinned : Pinned := { name := "ythhgelaifapmmaadoor", sum := "291e9f0e5477d8d377b8719a81c1761e4af0d06a9da0a68db6d5c3feb809e904", checked := Tryd.checked }
namespace Rows
def none {H : Type} : Left H := { results := [], args := [] }

/- WHAT THE LISTED PACKAGE-LEVEL VARIABLES READ AS WHEN THE CALL BEGINS. Each datum BY PROGRAM (the guide's laid-datum.mjs) off the statement by which the dump's own 'gosem.cut.vars' lays the variable. In a bare row this is a premise. The card (YthhgelaifapmmaaDoorCards.lean) ties it to the program's text. -/
def laid_unicode_utf8_acceptRanges {H : Type} : DataW H := .agg [.agg [.lit (.int .u8 128), .lit (.int .u8 191)], .agg [.lit (.int .u8 160), .lit (.int .u8 191)], .agg [.lit (.int .u8 128), .lit (.int .u8 159)], .agg [.lit (.int .u8 144), .lit (.int .u8 191)], .agg [.lit (.int .u8 128), .lit (.int .u8 143)], .agg [.lit (.int .u8 0), .lit (.int .u8 0)], .agg [.lit (.int .u8 0), .lit (.int .u8 0)], .agg [.lit (.int .u8 0), .lit (.int .u8 0)], .agg [.lit (.int .u8 0), .lit (.int .u8 0)], .agg [.lit (.int .u8 0), .lit (.int .u8 0)], .agg [.lit (.int .u8 0), .lit (.int .u8 0)], .agg [.lit (.int .u8 0), .lit (.int .u8 0)], .agg [.lit (.int .u8 0), .lit (.int .u8 0)], .agg [.lit (.int .u8 0), .lit (.int .u8 0)], .agg [.lit (.int .u8 0), .lit (.int .u8 0)], .agg [.lit (.int .u8 0), .lit (.int .u8 0)]]
/-- One of Go's own tables, pinned by name: the form's constant. -/
def laid_unicode_utf8_first : DataW Unit := Go.Pinned.utf8First

/-- 'fascinelaw09.SegBuilds': WHATEVER THE INPUT: true; the input reads as it did. -/
def segBuildsSpec : ChangeSpec := { name := "segBuilds", fn := fun _ => fun
  | [d] => { results := [.lit (.bool true)], args := [d] }
  | _ => none }
def segBuildsRow : OpenClaim := { program := "ythhgelaifapmmaadoor", sum := "291e9f0e5477d8d377b8719a81c1761e4af0d06a9da0a68db6d5c3feb809e904", func := "fascine/fascinelaw09.SegBuilds", spec := "segBuilds", recurses := true, named := ["unicode/utf8.first", "unicode/utf8.acceptRanges"], apart := false, laid := [("unicode/utf8.acceptRanges", laid_unicode_utf8_acceptRanges), ("unicode/utf8.first", laid_unicode_utf8_first)] }
def SegBuildsSaid : Prop := segBuildsRow.holds Tryd.pinned (OpenSpec.ofChange segBuildsSpec)

/-- ITS FALSE NEIGHBOUR: 'it returns false'. Refute it at one input. -/
def segBuildsWrong : ChangeSpec := { name := "segBuilds", fn := fun _ => fun
  | [d] => { results := [.lit (.bool false)], args := [d] }
  | _ => none }
def SegBuildsWrongFalsely : Prop := segBuildsRow.holds Tryd.pinned (OpenSpec.ofChange segBuildsWrong)

/-- 'fascinelaw09.SegOpens': WHATEVER THE INPUT: true; the input reads as it did. -/
def segOpensSpec : ChangeSpec := { name := "segOpens", fn := fun _ => fun
  | [d] => { results := [.lit (.bool true)], args := [d] }
  | _ => none }
def segOpensRow : OpenClaim := { program := "ythhgelaifapmmaadoor", sum := "291e9f0e5477d8d377b8719a81c1761e4af0d06a9da0a68db6d5c3feb809e904", func := "fascine/fascinelaw09.SegOpens", spec := "segOpens", recurses := true, named := ["unicode/utf8.first", "unicode/utf8.acceptRanges"], apart := false, laid := [("unicode/utf8.acceptRanges", laid_unicode_utf8_acceptRanges), ("unicode/utf8.first", laid_unicode_utf8_first)] }
def SegOpensSaid : Prop := segOpensRow.holds Tryd.pinned (OpenSpec.ofChange segOpensSpec)

/-- ITS FALSE NEIGHBOUR: 'it returns false'. Refute it at one input. -/
def segOpensWrong : ChangeSpec := { name := "segOpens", fn := fun _ => fun
  | [d] => { results := [.lit (.bool false)], args := [d] }
  | _ => none }
def SegOpensWrongFalsely : Prop := segOpensRow.holds Tryd.pinned (OpenSpec.ofChange segOpensWrong)

/-- 'fascinelaw09.SegFinds': WHATEVER THE INPUT: true; the input reads as it did. -/
def segFindsSpec : ChangeSpec := { name := "segFinds", fn := fun _ => fun
  | [d1, d2] => { results := [.lit (.bool true)], args := [d1, d2] }
  | _ => none }
def segFindsRow : OpenClaim := { program := "ythhgelaifapmmaadoor", sum := "291e9f0e5477d8d377b8719a81c1761e4af0d06a9da0a68db6d5c3feb809e904", func := "fascine/fascinelaw09.SegFinds", spec := "segFinds", recurses := true, named := ["unicode/utf8.first", "unicode/utf8.acceptRanges"], loops := true, apart := false, laid := [("unicode/utf8.acceptRanges", laid_unicode_utf8_acceptRanges), ("unicode/utf8.first", laid_unicode_utf8_first)] }
def SegFindsSaid : Prop := segFindsRow.holds Tryd.pinned (OpenSpec.ofChange segFindsSpec)

/-- ITS FALSE NEIGHBOUR: 'it returns false'. Refute it at one input. -/
def segFindsWrong : ChangeSpec := { name := "segFinds", fn := fun _ => fun
  | [d1, d2] => { results := [.lit (.bool false)], args := [d1, d2] }
  | _ => none }
def SegFindsWrongFalsely : Prop := segFindsRow.holds Tryd.pinned (OpenSpec.ofChange segFindsWrong)

/-- 'fascinelaw09.SegTurned': WHATEVER THE INPUT: true; the input reads as it did. -/
def segTurnedSpec : ChangeSpec := { name := "segTurned", fn := fun _ => fun
  | [d1, d2, d3] => { results := [.lit (.bool true)], args := [d1, d2, d3] }
  | _ => none }
def segTurnedRow : OpenClaim := { program := "ythhgelaifapmmaadoor", sum := "291e9f0e5477d8d377b8719a81c1761e4af0d06a9da0a68db6d5c3feb809e904", func := "fascine/fascinelaw09.SegTurned", spec := "segTurned", recurses := true, named := ["unicode/utf8.first", "unicode/utf8.acceptRanges"], apart := false, laid := [("unicode/utf8.acceptRanges", laid_unicode_utf8_acceptRanges), ("unicode/utf8.first", laid_unicode_utf8_first)] }
def SegTurnedSaid : Prop := segTurnedRow.holds Tryd.pinned (OpenSpec.ofChange segTurnedSpec)

/-- ITS FALSE NEIGHBOUR: 'it returns false'. Refute it at one input. -/
def segTurnedWrong : ChangeSpec := { name := "segTurned", fn := fun _ => fun
  | [d1, d2, d3] => { results := [.lit (.bool false)], args := [d1, d2, d3] }
  | _ => none }
def SegTurnedWrongFalsely : Prop := segTurnedRow.holds Tryd.pinned (OpenSpec.ofChange segTurnedWrong)

/-- 'fascinelaw09.SegKeeps': WHATEVER THE INPUT: true; the input reads as it did. -/
def segKeepsSpec : ChangeSpec := { name := "segKeeps", fn := fun _ => fun
  | [d1, d2, d3] => { results := [.lit (.bool true)], args := [d1, d2, d3] }
  | _ => none }
def segKeepsRow : OpenClaim := { program := "ythhgelaifapmmaadoor", sum := "291e9f0e5477d8d377b8719a81c1761e4af0d06a9da0a68db6d5c3feb809e904", func := "fascine/fascinelaw09.SegKeeps", spec := "segKeeps", recurses := true, named := ["unicode/utf8.first", "unicode/utf8.acceptRanges"], loops := true, apart := false, laid := [("unicode/utf8.acceptRanges", laid_unicode_utf8_acceptRanges), ("unicode/utf8.first", laid_unicode_utf8_first)] }
def SegKeepsSaid : Prop := segKeepsRow.holds Tryd.pinned (OpenSpec.ofChange segKeepsSpec)

/-- ITS FALSE NEIGHBOUR: 'it returns false'. Refute it at one input. -/
def segKeepsWrong : ChangeSpec := { name := "segKeeps", fn := fun _ => fun
  | [d1, d2, d3] => { results := [.lit (.bool false)], args := [d1, d2, d3] }
  | _ => none }
def SegKeepsWrongFalsely : Prop := segKeepsRow.holds Tryd.pinned (OpenSpec.ofChange segKeepsWrong)

/-- 'fascinelaw09.SegTerms': WHATEVER THE INPUT: true; the input reads as it did. -/
def segTermsSpec : ChangeSpec := { name := "segTerms", fn := fun _ => fun
  | [d] => { results := [.lit (.bool true)], args := [d] }
  | _ => none }
def segTermsRow : OpenClaim := { program := "ythhgelaifapmmaadoor", sum := "291e9f0e5477d8d377b8719a81c1761e4af0d06a9da0a68db6d5c3feb809e904", func := "fascine/fascinelaw09.SegTerms", spec := "segTerms", recurses := true, named := ["unicode/utf8.first", "unicode/utf8.acceptRanges"], apart := false, laid := [("unicode/utf8.acceptRanges", laid_unicode_utf8_acceptRanges), ("unicode/utf8.first", laid_unicode_utf8_first)] }
def SegTermsSaid : Prop := segTermsRow.holds Tryd.pinned (OpenSpec.ofChange segTermsSpec)

/-- ITS FALSE NEIGHBOUR: 'it returns false'. Refute it at one input. -/
def segTermsWrong : ChangeSpec := { name := "segTerms", fn := fun _ => fun
  | [d] => { results := [.lit (.bool false)], args := [d] }
  | _ => none }
def SegTermsWrongFalsely : Prop := segTermsRow.holds Tryd.pinned (OpenSpec.ofChange segTermsWrong)

/-- 'fascinelaw09.SegNot': WHATEVER THE INPUT: true; the input reads as it did. -/
def segNotSpec : ChangeSpec := { name := "segNot", fn := fun _ => fun
  | [d1, d2] => { results := [.lit (.bool true)], args := [d1, d2] }
  | _ => none }
def segNotRow : OpenClaim := { program := "ythhgelaifapmmaadoor", sum := "291e9f0e5477d8d377b8719a81c1761e4af0d06a9da0a68db6d5c3feb809e904", func := "fascine/fascinelaw09.SegNot", spec := "segNot", recurses := true, named := ["unicode/utf8.first", "unicode/utf8.acceptRanges"], loops := true, apart := false, laid := [("unicode/utf8.acceptRanges", laid_unicode_utf8_acceptRanges), ("unicode/utf8.first", laid_unicode_utf8_first)] }
def SegNotSaid : Prop := segNotRow.holds Tryd.pinned (OpenSpec.ofChange segNotSpec)

/-- ITS FALSE NEIGHBOUR: 'it returns false'. Refute it at one input. -/
def segNotWrong : ChangeSpec := { name := "segNot", fn := fun _ => fun
  | [d1, d2] => { results := [.lit (.bool false)], args := [d1, d2] }
  | _ => none }
def SegNotWrongFalsely : Prop := segNotRow.holds Tryd.pinned (OpenSpec.ofChange segNotWrong)

/- THE SECOND FORM. 'bulk': how many values and letters a reading holds, each counted each time it is reached (what is shared counts as often as it is met; a slice's spare places count too). A statement '..UptoSaid' is the law's where the arguments, and the package variables that the reading takes, are together of bulk at most 1048576: NARROWER than '..Said'. Prove '..Said' where nothing that the law and all that it calls make is longer than what came in: it says more and counts as full. Else prove '..UptoSaid'. A law counts once. -/
mutual
def uptoBulk {H : Type} : DataW H → Nat
  | .lit (.string bytes) => bytes.length + 1
  | .lit _ => 1
  | .nil => 1
  | .ptr d => uptoBulk d + 1
  | .slice elems spare => uptoBulkAll elems + uptoBulkAll spare + 1
  | .agg parts => uptoBulkAll parts + 1
  | .iface _ d => uptoBulk d + 1
  | .map entries => uptoBulkEntries entries + 1
  | .held _ => 1
def uptoBulkAll {H : Type} : List (DataW H) → Nat
  | [] => 0
  | d :: r => uptoBulk d + uptoBulkAll r
def uptoBulkEntries {H : Type} : List (Lit × DataW H) → Nat
  | [] => 0
  | x :: r => uptoBulkEntry x + uptoBulkEntries r
def uptoBulkEntry {H : Type} : Lit × DataW H → Nat
  | (.string bytes, d) => bytes.length + uptoBulk d + 1
  | (_, d) => uptoBulk d + 1
 end
def uptoSmall : (H : Type) → List (DataW H) → Bool := fun _ ds => decide (uptoBulkAll ds ≤ 1048576)
def OpenSpec.upto (s : _root_.Go.ChangeSpec) : _root_.Go.OpenSpec := { _root_.Go.OpenSpec.ofChange s with cond := some uptoSmall }

/-- 'fascinelaw09.SegBuilds', WHERE WHAT IT READS IS OF BULK AT MOST 1048576: true; the input reads as it did. -/
def segBuildsUptoRow : OpenClaim := { program := "ythhgelaifapmmaadoor", sum := "291e9f0e5477d8d377b8719a81c1761e4af0d06a9da0a68db6d5c3feb809e904", func := "fascine/fascinelaw09.SegBuilds", spec := "segBuilds", recurses := true, named := ["unicode/utf8.first", "unicode/utf8.acceptRanges"], apart := false, laid := [("unicode/utf8.acceptRanges", laid_unicode_utf8_acceptRanges), ("unicode/utf8.first", laid_unicode_utf8_first)], narrowed := true }
def SegBuildsUptoSaid : Prop := segBuildsUptoRow.holds Tryd.pinned (OpenSpec.upto segBuildsSpec)

/-- 'fascinelaw09.SegOpens', WHERE WHAT IT READS IS OF BULK AT MOST 1048576: true; the input reads as it did. -/
def segOpensUptoRow : OpenClaim := { program := "ythhgelaifapmmaadoor", sum := "291e9f0e5477d8d377b8719a81c1761e4af0d06a9da0a68db6d5c3feb809e904", func := "fascine/fascinelaw09.SegOpens", spec := "segOpens", recurses := true, named := ["unicode/utf8.first", "unicode/utf8.acceptRanges"], apart := false, laid := [("unicode/utf8.acceptRanges", laid_unicode_utf8_acceptRanges), ("unicode/utf8.first", laid_unicode_utf8_first)], narrowed := true }
def SegOpensUptoSaid : Prop := segOpensUptoRow.holds Tryd.pinned (OpenSpec.upto segOpensSpec)

/-- 'fascinelaw09.SegFinds', WHERE WHAT IT READS IS OF BULK AT MOST 1048576: true; the input reads as it did. -/
def segFindsUptoRow : OpenClaim := { program := "ythhgelaifapmmaadoor", sum := "291e9f0e5477d8d377b8719a81c1761e4af0d06a9da0a68db6d5c3feb809e904", func := "fascine/fascinelaw09.SegFinds", spec := "segFinds", recurses := true, named := ["unicode/utf8.first", "unicode/utf8.acceptRanges"], loops := true, apart := false, laid := [("unicode/utf8.acceptRanges", laid_unicode_utf8_acceptRanges), ("unicode/utf8.first", laid_unicode_utf8_first)], narrowed := true }
def SegFindsUptoSaid : Prop := segFindsUptoRow.holds Tryd.pinned (OpenSpec.upto segFindsSpec)

/-- 'fascinelaw09.SegTurned', WHERE WHAT IT READS IS OF BULK AT MOST 1048576: true; the input reads as it did. -/
def segTurnedUptoRow : OpenClaim := { program := "ythhgelaifapmmaadoor", sum := "291e9f0e5477d8d377b8719a81c1761e4af0d06a9da0a68db6d5c3feb809e904", func := "fascine/fascinelaw09.SegTurned", spec := "segTurned", recurses := true, named := ["unicode/utf8.first", "unicode/utf8.acceptRanges"], apart := false, laid := [("unicode/utf8.acceptRanges", laid_unicode_utf8_acceptRanges), ("unicode/utf8.first", laid_unicode_utf8_first)], narrowed := true }
def SegTurnedUptoSaid : Prop := segTurnedUptoRow.holds Tryd.pinned (OpenSpec.upto segTurnedSpec)

/-- 'fascinelaw09.SegKeeps', WHERE WHAT IT READS IS OF BULK AT MOST 1048576: true; the input reads as it did. -/
def segKeepsUptoRow : OpenClaim := { program := "ythhgelaifapmmaadoor", sum := "291e9f0e5477d8d377b8719a81c1761e4af0d06a9da0a68db6d5c3feb809e904", func := "fascine/fascinelaw09.SegKeeps", spec := "segKeeps", recurses := true, named := ["unicode/utf8.first", "unicode/utf8.acceptRanges"], loops := true, apart := false, laid := [("unicode/utf8.acceptRanges", laid_unicode_utf8_acceptRanges), ("unicode/utf8.first", laid_unicode_utf8_first)], narrowed := true }
def SegKeepsUptoSaid : Prop := segKeepsUptoRow.holds Tryd.pinned (OpenSpec.upto segKeepsSpec)

/-- 'fascinelaw09.SegTerms', WHERE WHAT IT READS IS OF BULK AT MOST 1048576: true; the input reads as it did. -/
def segTermsUptoRow : OpenClaim := { program := "ythhgelaifapmmaadoor", sum := "291e9f0e5477d8d377b8719a81c1761e4af0d06a9da0a68db6d5c3feb809e904", func := "fascine/fascinelaw09.SegTerms", spec := "segTerms", recurses := true, named := ["unicode/utf8.first", "unicode/utf8.acceptRanges"], apart := false, laid := [("unicode/utf8.acceptRanges", laid_unicode_utf8_acceptRanges), ("unicode/utf8.first", laid_unicode_utf8_first)], narrowed := true }
def SegTermsUptoSaid : Prop := segTermsUptoRow.holds Tryd.pinned (OpenSpec.upto segTermsSpec)

/-- 'fascinelaw09.SegNot', WHERE WHAT IT READS IS OF BULK AT MOST 1048576: true; the input reads as it did. -/
def segNotUptoRow : OpenClaim := { program := "ythhgelaifapmmaadoor", sum := "291e9f0e5477d8d377b8719a81c1761e4af0d06a9da0a68db6d5c3feb809e904", func := "fascine/fascinelaw09.SegNot", spec := "segNot", recurses := true, named := ["unicode/utf8.first", "unicode/utf8.acceptRanges"], loops := true, apart := false, laid := [("unicode/utf8.acceptRanges", laid_unicode_utf8_acceptRanges), ("unicode/utf8.first", laid_unicode_utf8_first)], narrowed := true }
def SegNotUptoSaid : Prop := segNotUptoRow.holds Tryd.pinned (OpenSpec.upto segNotSpec)

end Rows
end Go.Proofs.YthhgelaifapmmaaDoor
