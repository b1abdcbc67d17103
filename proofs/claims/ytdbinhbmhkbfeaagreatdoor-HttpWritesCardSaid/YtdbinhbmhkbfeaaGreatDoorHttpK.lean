/-
  What the document's first does, by a contract.
-/
import Derived.Test.YtdbinhbmhkbfeaaGreatDoorHttpJ
namespace Go.Proofs.YtdbinhbmhkbfeaaGreatDoor
open Go.RowKit Mem
set_option linter.unusedVariables false
set_option maxRecDepth 100000

def rqv (m pa body : List UInt8) (c : Bool) : Value := .agg #[.string ⟨m.toArray⟩, .string ⟨pa.toArray⟩, .string ⟨body.toArray⟩, .bool c]
def firstT : Option (List UInt8 × List UInt8) → Value
  | none => .tuple #[rqv [] [] [] false, .bool false]
  | some (m, pa) => .tuple #[rqv m pa [] false, .bool true]
section
variable {P : Program}
theorem results_row2 {fn : Func} {p u : Tmp} {ty : TypeId} (h : fn.results = #[.cell p ty, .tmp u]) (tmps : Array Value) (w : World) (g : Nat) (t : TypeId) (cs : Array Value) (fr : Nat × Nat) (d : TypeDesc)
    (hp : tmps.getD p undef = .pointer (some ⟨g, 0, none⟩)) (hg : w.heap[g]? = some (.cells cs t fr))
    (hu : P.underlying ty = some d) (hd : (match d with | .struct _ | .array _ _ => true | _ => false) = true) (hi : (P.info? ty).map (·.size) = some cs.size) :
    (results fn tmps).run P w = .ok (.tuple #[.agg cs, tmps.getD u undef]) w := by
  have hp' : tmps[p]?.getD undef = .pointer (some ⟨g, 0, none⟩) := by simpa using hp
  simp [results, h, hp', asAddr, run_loadVar_row w g t ty cs fr d hg hu hd hi]
theorem results_row3 {fn : Func} {p u v : Tmp} {ty : TypeId} (h : fn.results = #[.cell p ty, .tmp u, .tmp v]) (tmps : Array Value) (w : World) (g : Nat) (t : TypeId) (cs : Array Value) (fr : Nat × Nat) (d : TypeDesc)
    (hp : tmps.getD p undef = .pointer (some ⟨g, 0, none⟩)) (hg : w.heap[g]? = some (.cells cs t fr))
    (hu : P.underlying ty = some d) (hd : (match d with | .struct _ | .array _ _ => true | _ => false) = true) (hi : (P.info? ty).map (·.size) = some cs.size) :
    (results fn tmps).run P w = .ok (.tuple #[.agg cs, tmps.getD u undef, tmps.getD v undef]) w := by
  have hp' : tmps[p]?.getD undef = .pointer (some ⟨g, 0, none⟩) := by simpa using hp
  simp [results, h, hp', asAddr, run_loadVar_row w g t ty cs fr d hg hu hd hi]
end
theorem Tryz.rqSize : (Tryz.prog.info? 32).map (·.size) = some 4 := by kernel_rfl
def rqc (m pa body : List UInt8) (c : Bool) : Array Value := #[.string ⟨m.toArray⟩, .string ⟨pa.toArray⟩, .string ⟨body.toArray⟩, .bool c]
/-- the block g is a request -/
def RqIn (w : World) (g : Nat) (m pa body : List UInt8) (c : Bool) : Prop := w.heap[g]? = some (.cells (rqc m pa body c) 32 (0, 0))
theorem RqIn.new (w : World) (m pa body : List UInt8) (c : Bool) : RqIn (w.alloc (.cells (rqc m pa body c) 32)) w.heap.size m pa body c := heap_alloc_new _ _
theorem bel_alloc (w : World) (o : Obj) : Below w.heap.size w (w.alloc o) := (Below.refl _ w).alloc (Nat.le_refl _) _

end Go.Proofs.YtdbinhbmhkbfeaaGreatDoor
