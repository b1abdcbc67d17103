/-
  The document's examples ('awake') come out true: a contract.
-/
import Derived.Test.YtjdkpcibdjhdoaaDoorPackE
import Derived.Lib.SlBytesConst
namespace Go.Proofs.YtjdkpcibdjhdoaaDoor
open Go.RowKit Mem

def YesP (w : World) (e : Ending) (w' : World) : Prop := e = .returned (.bool true) ∧ Below w.heap.size w w'

end Go.Proofs.YtjdkpcibdjhdoaaDoor
