/-
  No cell of these rows narrows 'for every input' (looked for: loops, veiled, ifaces, maps, wideKeys, modest, calm, conditions, laid).
  DERIVED. THE GIVEN ROWS OF THIS SEAT. 4 by the template 'for every input the law returns true; each argument reads behind the call as it read before'; 0 by the template 'total and deterministic' (their statements: YtpnhjcedhcgglaaTotals.lean).
  GIVEN WITH THE SEED: the statements are not yours to turn. If you find one false, say at which input.
  Laid BY PROGRAM, IN A SANDBOX (cutbox-rows.mjs): the forced cells as the released guide's own fill.sh prints them over the translation 30bcfbca30dd8ad8… (all of the seat's roots in one cut). By AI agents, Wed Nov 11 2026. No macro, syntax, notation, axiom, sorry.
-/
import Derived.Test.YtpnhjcedhcgglaaChecked
import GoSem.Claim
import GoSem.ClaimJoined
import GoSem.ClaimMapViews
import Derived.JoinedTies
import Derived.KernelRfl
namespace Go.Proofs.Ytpnhjcedhcgglaa
/- THE CELL 'sum', in the pinned program and in every row, IS THE sha256 OF THE DUMP (.gsa) THAT YtpnhjcedhcgglaaProg.lean LOADS. Nothing in Lean hashes anything: it is a label: what it is worth is what the hold of that sum in a sandbox is worth. -/
noncomputable def Try.pinned : Pinned := { name := "ytpnhjcedhcgglaa", sum := "30bcfbca30dd8ad86aa8f270691542eee833b9a0ceeb7c4c89ce49e0283e6cc5", checked := Try.checked }
namespace Rows
def none {H : Type} : Left H := { results := [], args := [] }

/-- 'fascinelaw17.MergeMerges': WHATEVER THE INPUT: true; the input reads as it did. -/
def mergeMergesSpec : ChangeSpec := { name := "mergeMerges", fn := fun _ => fun
  | [d1, d2] => { results := [.lit (.bool true)], args := [d1, d2] }
  | _ => none }
def mergeMergesRow : OpenClaim := { program := "ytpnhjcedhcgglaa", sum := "30bcfbca30dd8ad86aa8f270691542eee833b9a0ceeb7c4c89ce49e0283e6cc5", func := "fascine/fascinelaw17.MergeMerges", spec := "mergeMerges", unfollowed := true, recurses := true, apart := false }
def MergeMergesSaid : Prop := mergeMergesRow.holds Try.pinned (OpenSpec.ofChange mergeMergesSpec)

/-- ITS FALSE NEIGHBOUR: 'it returns false'. Refute it at one input. -/
def mergeMergesWrong : ChangeSpec := { name := "mergeMerges", fn := fun _ => fun
  | [d1, d2] => { results := [.lit (.bool false)], args := [d1, d2] }
  | _ => none }
def MergeMergesWrongFalsely : Prop := mergeMergesRow.holds Try.pinned (OpenSpec.ofChange mergeMergesWrong)

/-- 'fascinelaw17.MergeBehind': WHATEVER THE INPUT: true; the input reads as it did. -/
def mergeBehindSpec : ChangeSpec := { name := "mergeBehind", fn := fun _ => fun
  | [d1, d2, d3] => { results := [.lit (.bool true)], args := [d1, d2, d3] }
  | _ => none }
def mergeBehindRow : OpenClaim := { program := "ytpnhjcedhcgglaa", sum := "30bcfbca30dd8ad86aa8f270691542eee833b9a0ceeb7c4c89ce49e0283e6cc5", func := "fascine/fascinelaw17.MergeBehind", spec := "mergeBehind", unfollowed := true, recurses := true, apart := false }
def MergeBehindSaid : Prop := mergeBehindRow.holds Try.pinned (OpenSpec.ofChange mergeBehindSpec)

/-- ITS FALSE NEIGHBOUR: 'it returns false'. Refute it at one input. -/
def mergeBehindWrong : ChangeSpec := { name := "mergeBehind", fn := fun _ => fun
  | [d1, d2, d3] => { results := [.lit (.bool false)], args := [d1, d2, d3] }
  | _ => none }
def MergeBehindWrongFalsely : Prop := mergeBehindRow.holds Try.pinned (OpenSpec.ofChange mergeBehindWrong)

/-- 'fascinelaw17.MergePages': WHATEVER THE INPUT: true; the input reads as it did. -/
def mergePagesSpec : ChangeSpec := { name := "mergePages", fn := fun _ => fun
  | [d1, d2] => { results := [.lit (.bool true)], args := [d1, d2] }
  | _ => none }
def mergePagesRow : OpenClaim := { program := "ytpnhjcedhcgglaa", sum := "30bcfbca30dd8ad86aa8f270691542eee833b9a0ceeb7c4c89ce49e0283e6cc5", func := "fascine/fascinelaw17.MergePages", spec := "mergePages", unfollowed := true, recurses := true, apart := false }
def MergePagesSaid : Prop := mergePagesRow.holds Try.pinned (OpenSpec.ofChange mergePagesSpec)

/-- ITS FALSE NEIGHBOUR: 'it returns false'. Refute it at one input. -/
def mergePagesWrong : ChangeSpec := { name := "mergePages", fn := fun _ => fun
  | [d1, d2] => { results := [.lit (.bool false)], args := [d1, d2] }
  | _ => none }
def MergePagesWrongFalsely : Prop := mergePagesRow.holds Try.pinned (OpenSpec.ofChange mergePagesWrong)

/-- 'fascinelaw17.MergeSplits': WHATEVER THE INPUT: true; the input reads as it did. -/
def mergeSplitsSpec : ChangeSpec := { name := "mergeSplits", fn := fun _ => fun
  | [d1, d2] => { results := [.lit (.bool true)], args := [d1, d2] }
  | _ => none }
def mergeSplitsRow : OpenClaim := { program := "ytpnhjcedhcgglaa", sum := "30bcfbca30dd8ad86aa8f270691542eee833b9a0ceeb7c4c89ce49e0283e6cc5", func := "fascine/fascinelaw17.MergeSplits", spec := "mergeSplits", unfollowed := true, recurses := true, apart := false }
def MergeSplitsSaid : Prop := mergeSplitsRow.holds Try.pinned (OpenSpec.ofChange mergeSplitsSpec)

/-- ITS FALSE NEIGHBOUR: 'it returns false'. Refute it at one input. -/
def mergeSplitsWrong : ChangeSpec := { name := "mergeSplits", fn := fun _ => fun
  | [d1, d2] => { results := [.lit (.bool false)], args := [d1, d2] }
  | _ => none }
def MergeSplitsWrongFalsely : Prop := mergeSplitsRow.holds Try.pinned (OpenSpec.ofChange mergeSplitsWrong)

/- THE SECOND FORM. 'bulk': how many values and letters a reading holds, each counted each time it is reached (what is shared counts as often as it is met; a slice's spare places count too). A statement '..UptoSaid' is the law's where the arguments, and the package variables that the reading takes, are together of bulk at most 1048576: NARROWER than '..Said'. Prove '..Said' where nothing that the law and all that it calls make is longer than what came in: it says more and counts as full. Else prove '..UptoSaid'. A law counts once. -/
mutual
def uptoBulk {H : Type} : DataW H → Nat
  | .lit (.string bytes) => bytes.length + 1
  | .lit _ => 1
  | .nil => 1
  | .ptr d => uptoBulk d + 1
  | .slice elems spare => uptoBulkAll elems + uptoBulkAll spare + 1
  | .agg parts => uptoBulkAll parts + 1
  | .iface _ d => uptoBulk d + 1
  | .map entries => uptoBulkEntries entries + 1
  | .held _ => 1
def uptoBulkAll {H : Type} : List (DataW H) → Nat
  | [] => 0
  | d :: r => uptoBulk d + uptoBulkAll r
def uptoBulkEntries {H : Type} : List (Lit × DataW H) → Nat
  | [] => 0
  | x :: r => uptoBulkEntry x + uptoBulkEntries r
def uptoBulkEntry {H : Type} : Lit × DataW H → Nat
  | (.string bytes, d) => bytes.length + uptoBulk d + 1
  | (_, d) => uptoBulk d + 1
 end
def uptoSmall : (H : Type) → List (DataW H) → Bool := fun _ ds => decide (uptoBulkAll ds ≤ 1048576)
def OpenSpec.upto (s : _root_.Go.ChangeSpec) : _root_.Go.OpenSpec := { _root_.Go.OpenSpec.ofChange s with cond := some uptoSmall }

/-- 'fascinelaw17.MergeMerges', WHERE WHAT IT READS IS OF BULK AT MOST 1048576: true; the input reads as it did. -/
def mergeMergesUptoRow : OpenClaim := { program := "ytpnhjcedhcgglaa", sum := "30bcfbca30dd8ad86aa8f270691542eee833b9a0ceeb7c4c89ce49e0283e6cc5", func := "fascine/fascinelaw17.MergeMerges", spec := "mergeMerges", unfollowed := true, recurses := true, apart := false, narrowed := true }
def MergeMergesUptoSaid : Prop := mergeMergesUptoRow.holds Try.pinned (OpenSpec.upto mergeMergesSpec)

/-- 'fascinelaw17.MergeBehind', WHERE WHAT IT READS IS OF BULK AT MOST 1048576: true; the input reads as it did. -/
def mergeBehindUptoRow : OpenClaim := { program := "ytpnhjcedhcgglaa", sum := "30bcfbca30dd8ad86aa8f270691542eee833b9a0ceeb7c4c89ce49e0283e6cc5", func := "fascine/fascinelaw17.MergeBehind", spec := "mergeBehind", unfollowed := true, recurses := true, apart := false, narrowed := true }
def MergeBehindUptoSaid : Prop := mergeBehindUptoRow.holds Try.pinned (OpenSpec.upto mergeBehindSpec)

/-- 'fascinelaw17.MergePages', WHERE WHAT IT READS IS OF BULK AT MOST 1048576: true; the input reads as it did. -/
def mergePagesUptoRow : OpenClaim := { program := "ytpnhjcedhcgglaa", sum := "30bcfbca30dd8ad86aa8f270691542eee833b9a0ceeb7c4c89ce49e0283e6cc5", func := "fascine/fascinelaw17.MergePages", spec := "mergePages", unfollowed := true, recurses := true, apart := false, narrowed := true }
def MergePagesUptoSaid : Prop := mergePagesUptoRow.holds Try.pinned (OpenSpec.upto mergePagesSpec)

/-- 'fascinelaw17.MergeSplits', WHERE WHAT IT READS IS OF BULK AT MOST 1048576: true; the input reads as it did. -/
def mergeSplitsUptoRow : OpenClaim := { program := "ytpnhjcedhcgglaa", sum := "30bcfbca30dd8ad86aa8f270691542eee833b9a0ceeb7c4c89ce49e0283e6cc5", func := "fascine/fascinelaw17.MergeSplits", spec := "mergeSplits", unfollowed := true, recurses := true, apart := false, narrowed := true }
def MergeSplitsUptoSaid : Prop := mergeSplitsUptoRow.holds Try.pinned (OpenSpec.upto mergeSplitsSpec)

end Rows
end Go.Proofs.Ytpnhjcedhcgglaa
