/-
  No cell of these rows narrows 'for every input' (looked for: loops, veiled, ifaces, maps, wideKeys, modest, calm, conditions, laid).
  DERIVED. THE GIVEN ROWS OF THIS SEAT. 5 by the template 'for every input the law returns true; each argument reads behind the call as it read before'; 0 by the template 'total and deterministic' (their statements: YtpcodknhjobmdaaTotals.lean).
  GIVEN WITH THE SEED: the statements are not yours to turn. If you find one false, say at which input.
  Laid BY PROGRAM, IN A SANDBOX (cutbox-rows.mjs): the forced cells as the released guide's own fill.sh prints them over the translation ed0659788377cf85… (all of the seat's roots in one cut). By AI agents, Wed Nov 11 2026. No macro, syntax, notation, axiom, sorry.
-/
import Derived.Test.YtpcodknhjobmdaaChecked
import GoSem.Claim
import GoSem.ClaimJoined
import GoSem.ClaimMapViews
import Derived.JoinedTies
import Derived.KernelRfl
namespace Go.Proofs.Ytpcodknhjobmdaa
/- THE CELL 'sum', in the pinned program and in every row, IS THE sha256 OF THE DUMP (.gsa) THAT YtpcodknhjobmdaaProg.lean LOADS. Nothing in Lean hashes anything: it is a label: what it is worth is what the hold of that sum in a sandbox is worth. -/
noncomputable def Try.pinned : Pinned := { name := "ytpcodknhjobmdaa", sum := "ed0659788377cf853f8008090b7b2f0404b7e85f83f4def6233964890c2e9639", checked := Try.checked }
namespace Rows
def none {H : Type} : Left H := { results := [], args := [] }

/-- 'fascinelaw08.PostCodes': WHATEVER THE INPUT: true; the input reads as it did. -/
def postCodesSpec : ChangeSpec := { name := "postCodes", fn := fun _ => fun
  | [d1, d2] => { results := [.lit (.bool true)], args := [d1, d2] }
  | _ => none }
def postCodesRow : OpenClaim := { program := "ytpcodknhjobmdaa", sum := "ed0659788377cf853f8008090b7b2f0404b7e85f83f4def6233964890c2e9639", func := "fascine/fascinelaw08.PostCodes", spec := "postCodes", apart := false }
def PostCodesSaid : Prop := postCodesRow.holds Try.pinned (OpenSpec.ofChange postCodesSpec)

/-- ITS FALSE NEIGHBOUR: 'it returns false'. Refute it at one input. -/
def postCodesWrong : ChangeSpec := { name := "postCodes", fn := fun _ => fun
  | [d1, d2] => { results := [.lit (.bool false)], args := [d1, d2] }
  | _ => none }
def PostCodesWrongFalsely : Prop := postCodesRow.holds Try.pinned (OpenSpec.ofChange postCodesWrong)

/-- 'fascinelaw08.PostReads': WHATEVER THE INPUT: true; the input reads as it did. -/
def postReadsSpec : ChangeSpec := { name := "postReads", fn := fun _ => fun
  | [d1, d2, d3] => { results := [.lit (.bool true)], args := [d1, d2, d3] }
  | _ => none }
def postReadsRow : OpenClaim := { program := "ytpcodknhjobmdaa", sum := "ed0659788377cf853f8008090b7b2f0404b7e85f83f4def6233964890c2e9639", func := "fascine/fascinelaw08.PostReads", spec := "postReads", apart := false }
def PostReadsSaid : Prop := postReadsRow.holds Try.pinned (OpenSpec.ofChange postReadsSpec)

/-- ITS FALSE NEIGHBOUR: 'it returns false'. Refute it at one input. -/
def postReadsWrong : ChangeSpec := { name := "postReads", fn := fun _ => fun
  | [d1, d2, d3] => { results := [.lit (.bool false)], args := [d1, d2, d3] }
  | _ => none }
def PostReadsWrongFalsely : Prop := postReadsRow.holds Try.pinned (OpenSpec.ofChange postReadsWrong)

/-- 'fascinelaw08.PostSets': WHATEVER THE INPUT: true; the input reads as it did. -/
def postSetsSpec : ChangeSpec := { name := "postSets", fn := fun _ => fun
  | [d1, d2] => { results := [.lit (.bool true)], args := [d1, d2] }
  | _ => none }
def postSetsRow : OpenClaim := { program := "ytpcodknhjobmdaa", sum := "ed0659788377cf853f8008090b7b2f0404b7e85f83f4def6233964890c2e9639", func := "fascine/fascinelaw08.PostSets", spec := "postSets", apart := false }
def PostSetsSaid : Prop := postSetsRow.holds Try.pinned (OpenSpec.ofChange postSetsSpec)

/-- ITS FALSE NEIGHBOUR: 'it returns false'. Refute it at one input. -/
def postSetsWrong : ChangeSpec := { name := "postSets", fn := fun _ => fun
  | [d1, d2] => { results := [.lit (.bool false)], args := [d1, d2] }
  | _ => none }
def PostSetsWrongFalsely : Prop := postSetsRow.holds Try.pinned (OpenSpec.ofChange postSetsWrong)

/-- 'fascinelaw08.PostLaws': WHATEVER THE INPUT: true; the input reads as it did. -/
def postLawsSpec : ChangeSpec := { name := "postLaws", fn := fun _ => fun
  | [d1, d2, d3] => { results := [.lit (.bool true)], args := [d1, d2, d3] }
  | _ => none }
def postLawsRow : OpenClaim := { program := "ytpcodknhjobmdaa", sum := "ed0659788377cf853f8008090b7b2f0404b7e85f83f4def6233964890c2e9639", func := "fascine/fascinelaw08.PostLaws", spec := "postLaws", apart := false }
def PostLawsSaid : Prop := postLawsRow.holds Try.pinned (OpenSpec.ofChange postLawsSpec)

/-- ITS FALSE NEIGHBOUR: 'it returns false'. Refute it at one input. -/
def postLawsWrong : ChangeSpec := { name := "postLaws", fn := fun _ => fun
  | [d1, d2, d3] => { results := [.lit (.bool false)], args := [d1, d2, d3] }
  | _ => none }
def PostLawsWrongFalsely : Prop := postLawsRow.holds Try.pinned (OpenSpec.ofChange postLawsWrong)

/-- 'fascinelaw08.PostSteps': WHATEVER THE INPUT: true; the input reads as it did. -/
def postStepsSpec : ChangeSpec := { name := "postSteps", fn := fun _ => fun
  | [d1, d2] => { results := [.lit (.bool true)], args := [d1, d2] }
  | _ => none }
def postStepsRow : OpenClaim := { program := "ytpcodknhjobmdaa", sum := "ed0659788377cf853f8008090b7b2f0404b7e85f83f4def6233964890c2e9639", func := "fascine/fascinelaw08.PostSteps", spec := "postSteps", apart := false }
def PostStepsSaid : Prop := postStepsRow.holds Try.pinned (OpenSpec.ofChange postStepsSpec)

/-- ITS FALSE NEIGHBOUR: 'it returns false'. Refute it at one input. -/
def postStepsWrong : ChangeSpec := { name := "postSteps", fn := fun _ => fun
  | [d1, d2] => { results := [.lit (.bool false)], args := [d1, d2] }
  | _ => none }
def PostStepsWrongFalsely : Prop := postStepsRow.holds Try.pinned (OpenSpec.ofChange postStepsWrong)

/- THE SECOND FORM. 'bulk': how many values and letters a reading holds, each counted each time it is reached (what is shared counts as often as it is met; a slice's spare places count too). A statement '..UptoSaid' is the law's where the arguments, and the package variables that the reading takes, are together of bulk at most 1048576: NARROWER than '..Said'. Prove '..Said' where nothing that the law and all that it calls make is longer than what came in: it says more and counts as full. Else prove '..UptoSaid'. A law counts once. -/
mutual
def uptoBulk {H : Type} : DataW H → Nat
  | .lit (.string bytes) => bytes.length + 1
  | .lit _ => 1
  | .nil => 1
  | .ptr d => uptoBulk d + 1
  | .slice elems spare => uptoBulkAll elems + uptoBulkAll spare + 1
  | .agg parts => uptoBulkAll parts + 1
  | .iface _ d => uptoBulk d + 1
  | .map entries => uptoBulkEntries entries + 1
  | .held _ => 1
def uptoBulkAll {H : Type} : List (DataW H) → Nat
  | [] => 0
  | d :: r => uptoBulk d + uptoBulkAll r
def uptoBulkEntries {H : Type} : List (Lit × DataW H) → Nat
  | [] => 0
  | x :: r => uptoBulkEntry x + uptoBulkEntries r
def uptoBulkEntry {H : Type} : Lit × DataW H → Nat
  | (.string bytes, d) => bytes.length + uptoBulk d + 1
  | (_, d) => uptoBulk d + 1
 end
def uptoSmall : (H : Type) → List (DataW H) → Bool := fun _ ds => decide (uptoBulkAll ds ≤ 1048576)
def OpenSpec.upto (s : _root_.Go.ChangeSpec) : _root_.Go.OpenSpec := { _root_.Go.OpenSpec.ofChange s with cond := some uptoSmall }

/-- 'fascinelaw08.PostCodes', WHERE WHAT IT READS IS OF BULK AT MOST 1048576: true; the input reads as it did. -/
def postCodesUptoRow : OpenClaim := { program := "ytpcodknhjobmdaa", sum := "ed0659788377cf853f8008090b7b2f0404b7e85f83f4def6233964890c2e9639", func := "fascine/fascinelaw08.PostCodes", spec := "postCodes", apart := false, narrowed := true }
def PostCodesUptoSaid : Prop := postCodesUptoRow.holds Try.pinned (OpenSpec.upto postCodesSpec)

/-- 'fascinelaw08.PostReads', WHERE WHAT IT READS IS OF BULK AT MOST 1048576: true; the input reads as it did. -/
def postReadsUptoRow : OpenClaim := { program := "ytpcodknhjobmdaa", sum := "ed0659788377cf853f8008090b7b2f0404b7e85f83f4def6233964890c2e9639", func := "fascine/fascinelaw08.PostReads", spec := "postReads", apart := false, narrowed := true }
def PostReadsUptoSaid : Prop := postReadsUptoRow.holds Try.pinned (OpenSpec.upto postReadsSpec)

/-- 'fascinelaw08.PostSets', WHERE WHAT IT READS IS OF BULK AT MOST 1048576: true; the input reads as it did. -/
def postSetsUptoRow : OpenClaim := { program := "ytpcodknhjobmdaa", sum := "ed0659788377cf853f8008090b7b2f0404b7e85f83f4def6233964890c2e9639", func := "fascine/fascinelaw08.PostSets", spec := "postSets", apart := false, narrowed := true }
def PostSetsUptoSaid : Prop := postSetsUptoRow.holds Try.pinned (OpenSpec.upto postSetsSpec)

/-- 'fascinelaw08.PostLaws', WHERE WHAT IT READS IS OF BULK AT MOST 1048576: true; the input reads as it did. -/
def postLawsUptoRow : OpenClaim := { program := "ytpcodknhjobmdaa", sum := "ed0659788377cf853f8008090b7b2f0404b7e85f83f4def6233964890c2e9639", func := "fascine/fascinelaw08.PostLaws", spec := "postLaws", apart := false, narrowed := true }
def PostLawsUptoSaid : Prop := postLawsUptoRow.holds Try.pinned (OpenSpec.upto postLawsSpec)

/-- 'fascinelaw08.PostSteps', WHERE WHAT IT READS IS OF BULK AT MOST 1048576: true; the input reads as it did. -/
def postStepsUptoRow : OpenClaim := { program := "ytpcodknhjobmdaa", sum := "ed0659788377cf853f8008090b7b2f0404b7e85f83f4def6233964890c2e9639", func := "fascine/fascinelaw08.PostSteps", spec := "postSteps", apart := false, narrowed := true }
def PostStepsUptoSaid : Prop := postStepsUptoRow.holds Try.pinned (OpenSpec.upto postStepsSpec)

end Rows
end Go.Proofs.Ytpcodknhjobmdaa
