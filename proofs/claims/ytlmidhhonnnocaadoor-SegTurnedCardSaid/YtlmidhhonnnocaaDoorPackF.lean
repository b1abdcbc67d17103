/-
  The document's examples ('awake') come out true: a contract.
-/
import Derived.Test.YtlmidhhonnnocaaDoorPackE
import Derived.Lib.SlBytesConst
namespace Go.Proofs.YtlmidhhonnnocaaDoor
open Go.RowKit Mem

def Yes (w : World) (e : Ending) (w' : World) : Prop := e = .returned (.bool true) ∧ Below w.heap.size w w'

end Go.Proofs.YtlmidhhonnnocaaDoor
